/-
  No cell of these rows narrows 'for every input' (looked for: loops, veiled, ifaces, maps, wideKeys, modest, calm, conditions, laid).
  DERIVED. THE GIVEN ROWS OF THIS SEAT. 4 by the template 'for every input the law returns true; each argument reads behind the call as it read before'; 0 by the template 'total and deterministic' (their statements: YthkhaemlcmkkjaxGreatTotals.lean).
  GIVEN WITH THE SEED: the statements are not yours to turn. If you find one false, say at which input.
  Laid BY PROGRAM, IN A SANDBOX (cutbox-rows.mjs): the forced cells as the released guide's own fill.sh prints them over the translation fb7eac6688ae04f1… (all of the seat's roots in one cut). By AI agents, Wed Nov 11 2026. No macro, syntax, notation, axiom, sorry.
-/
import Derived.Test.YthkhaemlcmkkjaxGreatChecked
import GoSem.Claim
import GoSem.ClaimJoined
import GoSem.ClaimMapViews
import Derived.JoinedTies
import Derived.KernelRfl
namespace Go.Proofs.YthkhaemlcmkkjaxGreat
/- THE CELL 'sum', in the pinned program and in every row, IS THE sha256 OF THE DUMP (.gsa) THAT YthkhaemlcmkkjaxGreatProg.lean LOADS. Nothing in Lean hashes anything: it is a label: what it is worth is what the hold of that sum in a sandbox is worth. -/
noncomputable def Tryz.pinned : Pinned := { name := "ythkhaemlcmkkjaxgreat", sum := "fb7eac6688ae04f14d283c0f51e7565fa1c1c703313e869ad6bce5fc8c5db73f", checked := Tryz.checked }
namespace Rows
def none {H : Type} : Left H := { results := [], args := [] }

/-- 'laws.FnExactStepDo': WHATEVER THE INPUT: true; the input reads as it did. -/
def fnExactStepDoSpec : ChangeSpec := { name := "fnExactStepDo", fn := fun _ => fun
  | [d1, d2, d3] => { results := [.lit (.bool true)], args := [d1, d2, d3] }
  | _ => none }
def fnExactStepDoRow : OpenClaim := { program := "ythkhaemlcmkkjaxgreat", sum := "fb7eac6688ae04f14d283c0f51e7565fa1c1c703313e869ad6bce5fc8c5db73f", func := "loop.example/drydock/laws.FnExactStepDo", spec := "fnExactStepDo", unfollowed := true, recurses := true, apart := false }
def FnExactStepDoSaid : Prop := fnExactStepDoRow.holds Tryz.pinned (OpenSpec.ofChange fnExactStepDoSpec)

/-- ITS FALSE NEIGHBOUR: 'it returns false'. Refute it at one input. -/
def fnExactStepDoWrong : ChangeSpec := { name := "fnExactStepDo", fn := fun _ => fun
  | [d1, d2, d3] => { results := [.lit (.bool false)], args := [d1, d2, d3] }
  | _ => none }
def FnExactStepDoWrongFalsely : Prop := fnExactStepDoRow.holds Tryz.pinned (OpenSpec.ofChange fnExactStepDoWrong)

/-- 'laws.FnExactPlanDo': WHATEVER THE INPUT: true; the input reads as it did. -/
def fnExactPlanDoSpec : ChangeSpec := { name := "fnExactPlanDo", fn := fun _ => fun
  | [d1, d2, d3] => { results := [.lit (.bool true)], args := [d1, d2, d3] }
  | _ => none }
def fnExactPlanDoRow : OpenClaim := { program := "ythkhaemlcmkkjaxgreat", sum := "fb7eac6688ae04f14d283c0f51e7565fa1c1c703313e869ad6bce5fc8c5db73f", func := "loop.example/drydock/laws.FnExactPlanDo", spec := "fnExactPlanDo", unfollowed := true, recurses := true, apart := false }
def FnExactPlanDoSaid : Prop := fnExactPlanDoRow.holds Tryz.pinned (OpenSpec.ofChange fnExactPlanDoSpec)

/-- ITS FALSE NEIGHBOUR: 'it returns false'. Refute it at one input. -/
def fnExactPlanDoWrong : ChangeSpec := { name := "fnExactPlanDo", fn := fun _ => fun
  | [d1, d2, d3] => { results := [.lit (.bool false)], args := [d1, d2, d3] }
  | _ => none }
def FnExactPlanDoWrongFalsely : Prop := fnExactPlanDoRow.holds Tryz.pinned (OpenSpec.ofChange fnExactPlanDoWrong)

/-- 'laws.FnExactPlanOk': WHATEVER THE INPUT: true; the input reads as it did. -/
def fnExactPlanOkSpec : ChangeSpec := { name := "fnExactPlanOk", fn := fun _ => fun
  | [d1, d2, d3, d4] => { results := [.lit (.bool true)], args := [d1, d2, d3, d4] }
  | _ => none }
def fnExactPlanOkRow : OpenClaim := { program := "ythkhaemlcmkkjaxgreat", sum := "fb7eac6688ae04f14d283c0f51e7565fa1c1c703313e869ad6bce5fc8c5db73f", func := "loop.example/drydock/laws.FnExactPlanOk", spec := "fnExactPlanOk", unfollowed := true, recurses := true, apart := false }
def FnExactPlanOkSaid : Prop := fnExactPlanOkRow.holds Tryz.pinned (OpenSpec.ofChange fnExactPlanOkSpec)

/-- ITS FALSE NEIGHBOUR: 'it returns false'. Refute it at one input. -/
def fnExactPlanOkWrong : ChangeSpec := { name := "fnExactPlanOk", fn := fun _ => fun
  | [d1, d2, d3, d4] => { results := [.lit (.bool false)], args := [d1, d2, d3, d4] }
  | _ => none }
def FnExactPlanOkWrongFalsely : Prop := fnExactPlanOkRow.holds Tryz.pinned (OpenSpec.ofChange fnExactPlanOkWrong)

/-- 'laws.FnExactPlanReach': WHATEVER THE INPUT: true; the input reads as it did. -/
def fnExactPlanReachSpec : ChangeSpec := { name := "fnExactPlanReach", fn := fun _ => fun
  | [d1, d2] => { results := [.lit (.bool true)], args := [d1, d2] }
  | _ => none }
def fnExactPlanReachRow : OpenClaim := { program := "ythkhaemlcmkkjaxgreat", sum := "fb7eac6688ae04f14d283c0f51e7565fa1c1c703313e869ad6bce5fc8c5db73f", func := "loop.example/drydock/laws.FnExactPlanReach", spec := "fnExactPlanReach", unfollowed := true, recurses := true, apart := false }
def FnExactPlanReachSaid : Prop := fnExactPlanReachRow.holds Tryz.pinned (OpenSpec.ofChange fnExactPlanReachSpec)

/-- ITS FALSE NEIGHBOUR: 'it returns false'. Refute it at one input. -/
def fnExactPlanReachWrong : ChangeSpec := { name := "fnExactPlanReach", fn := fun _ => fun
  | [d1, d2] => { results := [.lit (.bool false)], args := [d1, d2] }
  | _ => none }
def FnExactPlanReachWrongFalsely : Prop := fnExactPlanReachRow.holds Tryz.pinned (OpenSpec.ofChange fnExactPlanReachWrong)

/- THE SECOND FORM. 'bulk': how many values and letters a reading holds, each counted each time it is reached (what is shared counts as often as it is met; a slice's spare places count too). A statement '..UptoSaid' is the law's where the arguments, and the package variables that the reading takes, are together of bulk at most 1048576: NARROWER than '..Said'. Prove '..Said' where nothing that the law and all that it calls make is longer than what came in: it says more and counts as full. Else prove '..UptoSaid'. A law counts once. -/
mutual
def uptoBulk {H : Type} : DataW H → Nat
  | .lit (.string bytes) => bytes.length + 1
  | .lit _ => 1
  | .nil => 1
  | .ptr d => uptoBulk d + 1
  | .slice elems spare => uptoBulkAll elems + uptoBulkAll spare + 1
  | .agg parts => uptoBulkAll parts + 1
  | .iface _ d => uptoBulk d + 1
  | .map entries => uptoBulkEntries entries + 1
  | .held _ => 1
def uptoBulkAll {H : Type} : List (DataW H) → Nat
  | [] => 0
  | d :: r => uptoBulk d + uptoBulkAll r
def uptoBulkEntries {H : Type} : List (Lit × DataW H) → Nat
  | [] => 0
  | x :: r => uptoBulkEntry x + uptoBulkEntries r
def uptoBulkEntry {H : Type} : Lit × DataW H → Nat
  | (.string bytes, d) => bytes.length + uptoBulk d + 1
  | (_, d) => uptoBulk d + 1
 end
def uptoSmall : (H : Type) → List (DataW H) → Bool := fun _ ds => decide (uptoBulkAll ds ≤ 1048576)
def OpenSpec.upto (s : _root_.Go.ChangeSpec) : _root_.Go.OpenSpec := { _root_.Go.OpenSpec.ofChange s with cond := some uptoSmall }

/-- 'laws.FnExactStepDo', WHERE WHAT IT READS IS OF BULK AT MOST 1048576: true; the input reads as it did. -/
def fnExactStepDoUptoRow : OpenClaim := { program := "ythkhaemlcmkkjaxgreat", sum := "fb7eac6688ae04f14d283c0f51e7565fa1c1c703313e869ad6bce5fc8c5db73f", func := "loop.example/drydock/laws.FnExactStepDo", spec := "fnExactStepDo", unfollowed := true, recurses := true, apart := false, narrowed := true }
def FnExactStepDoUptoSaid : Prop := fnExactStepDoUptoRow.holds Tryz.pinned (OpenSpec.upto fnExactStepDoSpec)

/-- 'laws.FnExactPlanDo', WHERE WHAT IT READS IS OF BULK AT MOST 1048576: true; the input reads as it did. -/
def fnExactPlanDoUptoRow : OpenClaim := { program := "ythkhaemlcmkkjaxgreat", sum := "fb7eac6688ae04f14d283c0f51e7565fa1c1c703313e869ad6bce5fc8c5db73f", func := "loop.example/drydock/laws.FnExactPlanDo", spec := "fnExactPlanDo", unfollowed := true, recurses := true, apart := false, narrowed := true }
def FnExactPlanDoUptoSaid : Prop := fnExactPlanDoUptoRow.holds Tryz.pinned (OpenSpec.upto fnExactPlanDoSpec)

/-- 'laws.FnExactPlanOk', WHERE WHAT IT READS IS OF BULK AT MOST 1048576: true; the input reads as it did. -/
def fnExactPlanOkUptoRow : OpenClaim := { program := "ythkhaemlcmkkjaxgreat", sum := "fb7eac6688ae04f14d283c0f51e7565fa1c1c703313e869ad6bce5fc8c5db73f", func := "loop.example/drydock/laws.FnExactPlanOk", spec := "fnExactPlanOk", unfollowed := true, recurses := true, apart := false, narrowed := true }
def FnExactPlanOkUptoSaid : Prop := fnExactPlanOkUptoRow.holds Tryz.pinned (OpenSpec.upto fnExactPlanOkSpec)

/-- 'laws.FnExactPlanReach', WHERE WHAT IT READS IS OF BULK AT MOST 1048576: true; the input reads as it did. -/
def fnExactPlanReachUptoRow : OpenClaim := { program := "ythkhaemlcmkkjaxgreat", sum := "fb7eac6688ae04f14d283c0f51e7565fa1c1c703313e869ad6bce5fc8c5db73f", func := "loop.example/drydock/laws.FnExactPlanReach", spec := "fnExactPlanReach", unfollowed := true, recurses := true, apart := false, narrowed := true }
def FnExactPlanReachUptoSaid : Prop := fnExactPlanReachUptoRow.holds Tryz.pinned (OpenSpec.upto fnExactPlanReachSpec)

end Rows
end Go.Proofs.YthkhaemlcmkkjaxGreat
