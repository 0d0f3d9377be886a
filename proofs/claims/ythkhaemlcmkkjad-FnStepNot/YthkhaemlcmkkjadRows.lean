/-
  No cell of these rows narrows 'for every input' (looked for: loops, veiled, ifaces, maps, wideKeys, modest, calm, conditions, laid).
  DERIVED. THE GIVEN ROWS OF THIS SEAT. 6 by the template 'for every input the law returns true; each argument reads behind the call as it read before'; 0 by the template 'total and deterministic' (their statements: YthkhaemlcmkkjadTotals.lean).
  GIVEN WITH THE SEED: the statements are not yours to turn. If you find one false, say at which input.
  Laid BY PROGRAM, IN A SANDBOX (cutbox-rows.mjs): the forced cells as the released guide's own fill.sh prints them over the translation ffad95f6898dcb4e… (all of the seat's roots in one cut). By AI agents, Wed Nov 11 2026. No macro, syntax, notation, axiom, sorry.
-/
import Derived.Test.YthkhaemlcmkkjadChecked
import GoSem.Claim
import GoSem.ClaimJoined
import GoSem.ClaimMapViews
import Derived.JoinedTies
import Derived.KernelRfl
namespace Go.Proofs.Ythkhaemlcmkkjad
/- THE CELL 'sum', in the pinned program and in every row, IS THE sha256 OF THE DUMP (.gsa) THAT YthkhaemlcmkkjadProg.lean LOADS. Nothing in Lean hashes anything: it is a label: what it is worth is what the hold of that sum in a sandbox is worth. -/
noncomputable def Try.pinned : Pinned := { name := "ythkhaemlcmkkjad", sum := "ffad95f6898dcb4e33383e391cb3bbce4def31deb4a348ca7ebe58566f677393", checked := Try.checked }
namespace Rows
def none {H : Type} : Left H := { results := [], args := [] }

/-- 'laws.FnStepPre': WHATEVER THE INPUT: true; the input reads as it did. -/
def fnStepPreSpec : ChangeSpec := { name := "fnStepPre", fn := fun _ => fun
  | [d] => { results := [.lit (.bool true)], args := [d] }
  | _ => none }
def fnStepPreRow : OpenClaim := { program := "ythkhaemlcmkkjad", sum := "ffad95f6898dcb4e33383e391cb3bbce4def31deb4a348ca7ebe58566f677393", func := "loop.example/drydock/laws.FnStepPre", spec := "fnStepPre", unfollowed := true, recurses := true, apart := false }
def FnStepPreSaid : Prop := fnStepPreRow.holds Try.pinned (OpenSpec.ofChange fnStepPreSpec)

/-- ITS FALSE NEIGHBOUR: 'it returns false'. Refute it at one input. -/
def fnStepPreWrong : ChangeSpec := { name := "fnStepPre", fn := fun _ => fun
  | [d] => { results := [.lit (.bool false)], args := [d] }
  | _ => none }
def FnStepPreWrongFalsely : Prop := fnStepPreRow.holds Try.pinned (OpenSpec.ofChange fnStepPreWrong)

/-- 'laws.FnStepMore': WHATEVER THE INPUT: true; the input reads as it did. -/
def fnStepMoreSpec : ChangeSpec := { name := "fnStepMore", fn := fun _ => fun
  | [d1, d2] => { results := [.lit (.bool true)], args := [d1, d2] }
  | _ => none }
def fnStepMoreRow : OpenClaim := { program := "ythkhaemlcmkkjad", sum := "ffad95f6898dcb4e33383e391cb3bbce4def31deb4a348ca7ebe58566f677393", func := "loop.example/drydock/laws.FnStepMore", spec := "fnStepMore", unfollowed := true, recurses := true, apart := false }
def FnStepMoreSaid : Prop := fnStepMoreRow.holds Try.pinned (OpenSpec.ofChange fnStepMoreSpec)

/-- ITS FALSE NEIGHBOUR: 'it returns false'. Refute it at one input. -/
def fnStepMoreWrong : ChangeSpec := { name := "fnStepMore", fn := fun _ => fun
  | [d1, d2] => { results := [.lit (.bool false)], args := [d1, d2] }
  | _ => none }
def FnStepMoreWrongFalsely : Prop := fnStepMoreRow.holds Try.pinned (OpenSpec.ofChange fnStepMoreWrong)

/-- 'laws.FnStepNot': WHATEVER THE INPUT: true; the input reads as it did. -/
def fnStepNotSpec : ChangeSpec := { name := "fnStepNot", fn := fun _ => fun
  | [d] => { results := [.lit (.bool true)], args := [d] }
  | _ => none }
def fnStepNotRow : OpenClaim := { program := "ythkhaemlcmkkjad", sum := "ffad95f6898dcb4e33383e391cb3bbce4def31deb4a348ca7ebe58566f677393", func := "loop.example/drydock/laws.FnStepNot", spec := "fnStepNot", unfollowed := true, recurses := true, apart := false }
def FnStepNotSaid : Prop := fnStepNotRow.holds Try.pinned (OpenSpec.ofChange fnStepNotSpec)

/-- ITS FALSE NEIGHBOUR: 'it returns false'. Refute it at one input. -/
def fnStepNotWrong : ChangeSpec := { name := "fnStepNot", fn := fun _ => fun
  | [d] => { results := [.lit (.bool false)], args := [d] }
  | _ => none }
def FnStepNotWrongFalsely : Prop := fnStepNotRow.holds Try.pinned (OpenSpec.ofChange fnStepNotWrong)

/-- 'laws.FnStepOther': WHATEVER THE INPUT: true; the input reads as it did. -/
def fnStepOtherSpec : ChangeSpec := { name := "fnStepOther", fn := fun _ => fun
  | [d] => { results := [.lit (.bool true)], args := [d] }
  | _ => none }
def fnStepOtherRow : OpenClaim := { program := "ythkhaemlcmkkjad", sum := "ffad95f6898dcb4e33383e391cb3bbce4def31deb4a348ca7ebe58566f677393", func := "loop.example/drydock/laws.FnStepOther", spec := "fnStepOther", unfollowed := true, recurses := true, apart := false }
def FnStepOtherSaid : Prop := fnStepOtherRow.holds Try.pinned (OpenSpec.ofChange fnStepOtherSpec)

/-- ITS FALSE NEIGHBOUR: 'it returns false'. Refute it at one input. -/
def fnStepOtherWrong : ChangeSpec := { name := "fnStepOther", fn := fun _ => fun
  | [d] => { results := [.lit (.bool false)], args := [d] }
  | _ => none }
def FnStepOtherWrongFalsely : Prop := fnStepOtherRow.holds Try.pinned (OpenSpec.ofChange fnStepOtherWrong)

/-- 'laws.FnPlanDo': WHATEVER THE INPUT: true; the input reads as it did. -/
def fnPlanDoSpec : ChangeSpec := { name := "fnPlanDo", fn := fun _ => fun
  | [d1, d2] => { results := [.lit (.bool true)], args := [d1, d2] }
  | _ => none }
def fnPlanDoRow : OpenClaim := { program := "ythkhaemlcmkkjad", sum := "ffad95f6898dcb4e33383e391cb3bbce4def31deb4a348ca7ebe58566f677393", func := "loop.example/drydock/laws.FnPlanDo", spec := "fnPlanDo", unfollowed := true, recurses := true, apart := false }
def FnPlanDoSaid : Prop := fnPlanDoRow.holds Try.pinned (OpenSpec.ofChange fnPlanDoSpec)

/-- ITS FALSE NEIGHBOUR: 'it returns false'. Refute it at one input. -/
def fnPlanDoWrong : ChangeSpec := { name := "fnPlanDo", fn := fun _ => fun
  | [d1, d2] => { results := [.lit (.bool false)], args := [d1, d2] }
  | _ => none }
def FnPlanDoWrongFalsely : Prop := fnPlanDoRow.holds Try.pinned (OpenSpec.ofChange fnPlanDoWrong)

/-- 'laws.FnPlanOk': WHATEVER THE INPUT: true; the input reads as it did. -/
def fnPlanOkSpec : ChangeSpec := { name := "fnPlanOk", fn := fun _ => fun
  | [d] => { results := [.lit (.bool true)], args := [d] }
  | _ => none }
def fnPlanOkRow : OpenClaim := { program := "ythkhaemlcmkkjad", sum := "ffad95f6898dcb4e33383e391cb3bbce4def31deb4a348ca7ebe58566f677393", func := "loop.example/drydock/laws.FnPlanOk", spec := "fnPlanOk", unfollowed := true, recurses := true, apart := false }
def FnPlanOkSaid : Prop := fnPlanOkRow.holds Try.pinned (OpenSpec.ofChange fnPlanOkSpec)

/-- ITS FALSE NEIGHBOUR: 'it returns false'. Refute it at one input. -/
def fnPlanOkWrong : ChangeSpec := { name := "fnPlanOk", fn := fun _ => fun
  | [d] => { results := [.lit (.bool false)], args := [d] }
  | _ => none }
def FnPlanOkWrongFalsely : Prop := fnPlanOkRow.holds Try.pinned (OpenSpec.ofChange fnPlanOkWrong)

/- THE SECOND FORM. 'bulk': how many values and letters a reading holds, each counted each time it is reached (what is shared counts as often as it is met; a slice's spare places count too). A statement '..UptoSaid' is the law's where the arguments, and the package variables that the reading takes, are together of bulk at most 1048576: NARROWER than '..Said'. Prove '..Said' where nothing that the law and all that it calls make is longer than what came in: it says more and counts as full. Else prove '..UptoSaid'. A law counts once. -/
mutual
def uptoBulk {H : Type} : DataW H → Nat
  | .lit (.string bytes) => bytes.length + 1
  | .lit _ => 1
  | .nil => 1
  | .ptr d => uptoBulk d + 1
  | .slice elems spare => uptoBulkAll elems + uptoBulkAll spare + 1
  | .agg parts => uptoBulkAll parts + 1
  | .iface _ d => uptoBulk d + 1
  | .map entries => uptoBulkEntries entries + 1
  | .held _ => 1
def uptoBulkAll {H : Type} : List (DataW H) → Nat
  | [] => 0
  | d :: r => uptoBulk d + uptoBulkAll r
def uptoBulkEntries {H : Type} : List (Lit × DataW H) → Nat
  | [] => 0
  | x :: r => uptoBulkEntry x + uptoBulkEntries r
def uptoBulkEntry {H : Type} : Lit × DataW H → Nat
  | (.string bytes, d) => bytes.length + uptoBulk d + 1
  | (_, d) => uptoBulk d + 1
 end
def uptoSmall : (H : Type) → List (DataW H) → Bool := fun _ ds => decide (uptoBulkAll ds ≤ 1048576)
def OpenSpec.upto (s : _root_.Go.ChangeSpec) : _root_.Go.OpenSpec := { _root_.Go.OpenSpec.ofChange s with cond := some uptoSmall }

/-- 'laws.FnStepPre', WHERE WHAT IT READS IS OF BULK AT MOST 1048576: true; the input reads as it did. -/
def fnStepPreUptoRow : OpenClaim := { program := "ythkhaemlcmkkjad", sum := "ffad95f6898dcb4e33383e391cb3bbce4def31deb4a348ca7ebe58566f677393", func := "loop.example/drydock/laws.FnStepPre", spec := "fnStepPre", unfollowed := true, recurses := true, apart := false, narrowed := true }
def FnStepPreUptoSaid : Prop := fnStepPreUptoRow.holds Try.pinned (OpenSpec.upto fnStepPreSpec)

/-- 'laws.FnStepMore', WHERE WHAT IT READS IS OF BULK AT MOST 1048576: true; the input reads as it did. -/
def fnStepMoreUptoRow : OpenClaim := { program := "ythkhaemlcmkkjad", sum := "ffad95f6898dcb4e33383e391cb3bbce4def31deb4a348ca7ebe58566f677393", func := "loop.example/drydock/laws.FnStepMore", spec := "fnStepMore", unfollowed := true, recurses := true, apart := false, narrowed := true }
def FnStepMoreUptoSaid : Prop := fnStepMoreUptoRow.holds Try.pinned (OpenSpec.upto fnStepMoreSpec)

/-- 'laws.FnStepNot', WHERE WHAT IT READS IS OF BULK AT MOST 1048576: true; the input reads as it did. -/
def fnStepNotUptoRow : OpenClaim := { program := "ythkhaemlcmkkjad", sum := "ffad95f6898dcb4e33383e391cb3bbce4def31deb4a348ca7ebe58566f677393", func := "loop.example/drydock/laws.FnStepNot", spec := "fnStepNot", unfollowed := true, recurses := true, apart := false, narrowed := true }
def FnStepNotUptoSaid : Prop := fnStepNotUptoRow.holds Try.pinned (OpenSpec.upto fnStepNotSpec)

/-- 'laws.FnStepOther', WHERE WHAT IT READS IS OF BULK AT MOST 1048576: true; the input reads as it did. -/
def fnStepOtherUptoRow : OpenClaim := { program := "ythkhaemlcmkkjad", sum := "ffad95f6898dcb4e33383e391cb3bbce4def31deb4a348ca7ebe58566f677393", func := "loop.example/drydock/laws.FnStepOther", spec := "fnStepOther", unfollowed := true, recurses := true, apart := false, narrowed := true }
def FnStepOtherUptoSaid : Prop := fnStepOtherUptoRow.holds Try.pinned (OpenSpec.upto fnStepOtherSpec)

/-- 'laws.FnPlanDo', WHERE WHAT IT READS IS OF BULK AT MOST 1048576: true; the input reads as it did. -/
def fnPlanDoUptoRow : OpenClaim := { program := "ythkhaemlcmkkjad", sum := "ffad95f6898dcb4e33383e391cb3bbce4def31deb4a348ca7ebe58566f677393", func := "loop.example/drydock/laws.FnPlanDo", spec := "fnPlanDo", unfollowed := true, recurses := true, apart := false, narrowed := true }
def FnPlanDoUptoSaid : Prop := fnPlanDoUptoRow.holds Try.pinned (OpenSpec.upto fnPlanDoSpec)

/-- 'laws.FnPlanOk', WHERE WHAT IT READS IS OF BULK AT MOST 1048576: true; the input reads as it did. -/
def fnPlanOkUptoRow : OpenClaim := { program := "ythkhaemlcmkkjad", sum := "ffad95f6898dcb4e33383e391cb3bbce4def31deb4a348ca7ebe58566f677393", func := "loop.example/drydock/laws.FnPlanOk", spec := "fnPlanOk", unfollowed := true, recurses := true, apart := false, narrowed := true }
def FnPlanOkUptoSaid : Prop := fnPlanOkUptoRow.holds Try.pinned (OpenSpec.upto fnPlanOkSpec)

end Rows
end Go.Proofs.Ythkhaemlcmkkjad
