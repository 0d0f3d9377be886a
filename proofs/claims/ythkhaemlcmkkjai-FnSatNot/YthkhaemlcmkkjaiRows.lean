/-
  No cell of these rows narrows 'for every input' (looked for: loops, veiled, ifaces, maps, wideKeys, modest, calm, conditions, laid).
  DERIVED. THE GIVEN ROWS OF THIS SEAT. 6 by the template 'for every input the law returns true; each argument reads behind the call as it read before'; 0 by the template 'total and deterministic' (their statements: YthkhaemlcmkkjaiTotals.lean).
  GIVEN WITH THE SEED: the statements are not yours to turn. If you find one false, say at which input.
  Laid BY PROGRAM, IN A SANDBOX (cutbox-rows.mjs): the forced cells as the released guide's own fill.sh prints them over the translation ce94b8e879405bc8… (all of the seat's roots in one cut). By AI agents, Wed Nov 11 2026. No macro, syntax, notation, axiom, sorry.
-/
import Derived.Test.YthkhaemlcmkkjaiChecked
import GoSem.Claim
import GoSem.ClaimJoined
import GoSem.ClaimMapViews
import Derived.JoinedTies
import Derived.KernelRfl
namespace Go.Proofs.Ythkhaemlcmkkjai
/- THE CELL 'sum', in the pinned program and in every row, IS THE sha256 OF THE DUMP (.gsa) THAT YthkhaemlcmkkjaiProg.lean LOADS. Nothing in Lean hashes anything: it is a label: what it is worth is what the hold of that sum in a sandbox is worth. -/
noncomputable def Try.pinned : Pinned := { name := "ythkhaemlcmkkjai", sum := "ce94b8e879405bc8e80c974dcdad022c315f760eda80e5ae6a934a68005f8f0b", checked := Try.checked }
namespace Rows
def none {H : Type} : Left H := { results := [], args := [] }

/-- 'laws.FnSatLong': WHATEVER THE INPUT: true; the input reads as it did. -/
def fnSatLongSpec : ChangeSpec := { name := "fnSatLong", fn := fun _ => fun
  | [d] => { results := [.lit (.bool true)], args := [d] }
  | _ => none }
def fnSatLongRow : OpenClaim := { program := "ythkhaemlcmkkjai", sum := "ce94b8e879405bc8e80c974dcdad022c315f760eda80e5ae6a934a68005f8f0b", func := "loop.example/drydock/laws.FnSatLong", spec := "fnSatLong", unfollowed := true, recurses := true, apart := false }
def FnSatLongSaid : Prop := fnSatLongRow.holds Try.pinned (OpenSpec.ofChange fnSatLongSpec)

/-- ITS FALSE NEIGHBOUR: 'it returns false'. Refute it at one input. -/
def fnSatLongWrong : ChangeSpec := { name := "fnSatLong", fn := fun _ => fun
  | [d] => { results := [.lit (.bool false)], args := [d] }
  | _ => none }
def FnSatLongWrongFalsely : Prop := fnSatLongRow.holds Try.pinned (OpenSpec.ofChange fnSatLongWrong)

/-- 'laws.FnSatNot': WHATEVER THE INPUT: true; the input reads as it did. -/
def fnSatNotSpec : ChangeSpec := { name := "fnSatNot", fn := fun _ => fun
  | [d] => { results := [.lit (.bool true)], args := [d] }
  | _ => none }
def fnSatNotRow : OpenClaim := { program := "ythkhaemlcmkkjai", sum := "ce94b8e879405bc8e80c974dcdad022c315f760eda80e5ae6a934a68005f8f0b", func := "loop.example/drydock/laws.FnSatNot", spec := "fnSatNot", unfollowed := true, recurses := true, apart := false }
def FnSatNotSaid : Prop := fnSatNotRow.holds Try.pinned (OpenSpec.ofChange fnSatNotSpec)

/-- ITS FALSE NEIGHBOUR: 'it returns false'. Refute it at one input. -/
def fnSatNotWrong : ChangeSpec := { name := "fnSatNot", fn := fun _ => fun
  | [d] => { results := [.lit (.bool false)], args := [d] }
  | _ => none }
def FnSatNotWrongFalsely : Prop := fnSatNotRow.holds Try.pinned (OpenSpec.ofChange fnSatNotWrong)

/-- 'laws.FnProofSound': WHATEVER THE INPUT: true; the input reads as it did. -/
def fnProofSoundSpec : ChangeSpec := { name := "fnProofSound", fn := fun _ => fun
  | [d] => { results := [.lit (.bool true)], args := [d] }
  | _ => none }
def fnProofSoundRow : OpenClaim := { program := "ythkhaemlcmkkjai", sum := "ce94b8e879405bc8e80c974dcdad022c315f760eda80e5ae6a934a68005f8f0b", func := "loop.example/drydock/laws.FnProofSound", spec := "fnProofSound", unfollowed := true, recurses := true, apart := false }
def FnProofSoundSaid : Prop := fnProofSoundRow.holds Try.pinned (OpenSpec.ofChange fnProofSoundSpec)

/-- ITS FALSE NEIGHBOUR: 'it returns false'. Refute it at one input. -/
def fnProofSoundWrong : ChangeSpec := { name := "fnProofSound", fn := fun _ => fun
  | [d] => { results := [.lit (.bool false)], args := [d] }
  | _ => none }
def FnProofSoundWrongFalsely : Prop := fnProofSoundRow.holds Try.pinned (OpenSpec.ofChange fnProofSoundWrong)

/-- 'laws.FnProofMore': WHATEVER THE INPUT: true; the input reads as it did. -/
def fnProofMoreSpec : ChangeSpec := { name := "fnProofMore", fn := fun _ => fun
  | [d1, d2] => { results := [.lit (.bool true)], args := [d1, d2] }
  | _ => none }
def fnProofMoreRow : OpenClaim := { program := "ythkhaemlcmkkjai", sum := "ce94b8e879405bc8e80c974dcdad022c315f760eda80e5ae6a934a68005f8f0b", func := "loop.example/drydock/laws.FnProofMore", spec := "fnProofMore", unfollowed := true, recurses := true, apart := false }
def FnProofMoreSaid : Prop := fnProofMoreRow.holds Try.pinned (OpenSpec.ofChange fnProofMoreSpec)

/-- ITS FALSE NEIGHBOUR: 'it returns false'. Refute it at one input. -/
def fnProofMoreWrong : ChangeSpec := { name := "fnProofMore", fn := fun _ => fun
  | [d1, d2] => { results := [.lit (.bool false)], args := [d1, d2] }
  | _ => none }
def FnProofMoreWrongFalsely : Prop := fnProofMoreRow.holds Try.pinned (OpenSpec.ofChange fnProofMoreWrong)

/-- 'laws.FnProofTail': WHATEVER THE INPUT: true; the input reads as it did. -/
def fnProofTailSpec : ChangeSpec := { name := "fnProofTail", fn := fun _ => fun
  | [d] => { results := [.lit (.bool true)], args := [d] }
  | _ => none }
def fnProofTailRow : OpenClaim := { program := "ythkhaemlcmkkjai", sum := "ce94b8e879405bc8e80c974dcdad022c315f760eda80e5ae6a934a68005f8f0b", func := "loop.example/drydock/laws.FnProofTail", spec := "fnProofTail", unfollowed := true, recurses := true, apart := false }
def FnProofTailSaid : Prop := fnProofTailRow.holds Try.pinned (OpenSpec.ofChange fnProofTailSpec)

/-- ITS FALSE NEIGHBOUR: 'it returns false'. Refute it at one input. -/
def fnProofTailWrong : ChangeSpec := { name := "fnProofTail", fn := fun _ => fun
  | [d] => { results := [.lit (.bool false)], args := [d] }
  | _ => none }
def FnProofTailWrongFalsely : Prop := fnProofTailRow.holds Try.pinned (OpenSpec.ofChange fnProofTailWrong)

/-- 'laws.FnProofTwice': WHATEVER THE INPUT: true; the input reads as it did. -/
def fnProofTwiceSpec : ChangeSpec := { name := "fnProofTwice", fn := fun _ => fun
  | [d] => { results := [.lit (.bool true)], args := [d] }
  | _ => none }
def fnProofTwiceRow : OpenClaim := { program := "ythkhaemlcmkkjai", sum := "ce94b8e879405bc8e80c974dcdad022c315f760eda80e5ae6a934a68005f8f0b", func := "loop.example/drydock/laws.FnProofTwice", spec := "fnProofTwice", unfollowed := true, recurses := true, apart := false }
def FnProofTwiceSaid : Prop := fnProofTwiceRow.holds Try.pinned (OpenSpec.ofChange fnProofTwiceSpec)

/-- ITS FALSE NEIGHBOUR: 'it returns false'. Refute it at one input. -/
def fnProofTwiceWrong : ChangeSpec := { name := "fnProofTwice", fn := fun _ => fun
  | [d] => { results := [.lit (.bool false)], args := [d] }
  | _ => none }
def FnProofTwiceWrongFalsely : Prop := fnProofTwiceRow.holds Try.pinned (OpenSpec.ofChange fnProofTwiceWrong)

/- THE SECOND FORM. 'bulk': how many values and letters a reading holds, each counted each time it is reached (what is shared counts as often as it is met; a slice's spare places count too). A statement '..UptoSaid' is the law's where the arguments, and the package variables that the reading takes, are together of bulk at most 1048576: NARROWER than '..Said'. Prove '..Said' where nothing that the law and all that it calls make is longer than what came in: it says more and counts as full. Else prove '..UptoSaid'. A law counts once. -/
mutual
def uptoBulk {H : Type} : DataW H → Nat
  | .lit (.string bytes) => bytes.length + 1
  | .lit _ => 1
  | .nil => 1
  | .ptr d => uptoBulk d + 1
  | .slice elems spare => uptoBulkAll elems + uptoBulkAll spare + 1
  | .agg parts => uptoBulkAll parts + 1
  | .iface _ d => uptoBulk d + 1
  | .map entries => uptoBulkEntries entries + 1
  | .held _ => 1
def uptoBulkAll {H : Type} : List (DataW H) → Nat
  | [] => 0
  | d :: r => uptoBulk d + uptoBulkAll r
def uptoBulkEntries {H : Type} : List (Lit × DataW H) → Nat
  | [] => 0
  | x :: r => uptoBulkEntry x + uptoBulkEntries r
def uptoBulkEntry {H : Type} : Lit × DataW H → Nat
  | (.string bytes, d) => bytes.length + uptoBulk d + 1
  | (_, d) => uptoBulk d + 1
 end
def uptoSmall : (H : Type) → List (DataW H) → Bool := fun _ ds => decide (uptoBulkAll ds ≤ 1048576)
def OpenSpec.upto (s : _root_.Go.ChangeSpec) : _root_.Go.OpenSpec := { _root_.Go.OpenSpec.ofChange s with cond := some uptoSmall }

/-- 'laws.FnSatLong', WHERE WHAT IT READS IS OF BULK AT MOST 1048576: true; the input reads as it did. -/
def fnSatLongUptoRow : OpenClaim := { program := "ythkhaemlcmkkjai", sum := "ce94b8e879405bc8e80c974dcdad022c315f760eda80e5ae6a934a68005f8f0b", func := "loop.example/drydock/laws.FnSatLong", spec := "fnSatLong", unfollowed := true, recurses := true, apart := false, narrowed := true }
def FnSatLongUptoSaid : Prop := fnSatLongUptoRow.holds Try.pinned (OpenSpec.upto fnSatLongSpec)

/-- 'laws.FnSatNot', WHERE WHAT IT READS IS OF BULK AT MOST 1048576: true; the input reads as it did. -/
def fnSatNotUptoRow : OpenClaim := { program := "ythkhaemlcmkkjai", sum := "ce94b8e879405bc8e80c974dcdad022c315f760eda80e5ae6a934a68005f8f0b", func := "loop.example/drydock/laws.FnSatNot", spec := "fnSatNot", unfollowed := true, recurses := true, apart := false, narrowed := true }
def FnSatNotUptoSaid : Prop := fnSatNotUptoRow.holds Try.pinned (OpenSpec.upto fnSatNotSpec)

/-- 'laws.FnProofSound', WHERE WHAT IT READS IS OF BULK AT MOST 1048576: true; the input reads as it did. -/
def fnProofSoundUptoRow : OpenClaim := { program := "ythkhaemlcmkkjai", sum := "ce94b8e879405bc8e80c974dcdad022c315f760eda80e5ae6a934a68005f8f0b", func := "loop.example/drydock/laws.FnProofSound", spec := "fnProofSound", unfollowed := true, recurses := true, apart := false, narrowed := true }
def FnProofSoundUptoSaid : Prop := fnProofSoundUptoRow.holds Try.pinned (OpenSpec.upto fnProofSoundSpec)

/-- 'laws.FnProofMore', WHERE WHAT IT READS IS OF BULK AT MOST 1048576: true; the input reads as it did. -/
def fnProofMoreUptoRow : OpenClaim := { program := "ythkhaemlcmkkjai", sum := "ce94b8e879405bc8e80c974dcdad022c315f760eda80e5ae6a934a68005f8f0b", func := "loop.example/drydock/laws.FnProofMore", spec := "fnProofMore", unfollowed := true, recurses := true, apart := false, narrowed := true }
def FnProofMoreUptoSaid : Prop := fnProofMoreUptoRow.holds Try.pinned (OpenSpec.upto fnProofMoreSpec)

/-- 'laws.FnProofTail', WHERE WHAT IT READS IS OF BULK AT MOST 1048576: true; the input reads as it did. -/
def fnProofTailUptoRow : OpenClaim := { program := "ythkhaemlcmkkjai", sum := "ce94b8e879405bc8e80c974dcdad022c315f760eda80e5ae6a934a68005f8f0b", func := "loop.example/drydock/laws.FnProofTail", spec := "fnProofTail", unfollowed := true, recurses := true, apart := false, narrowed := true }
def FnProofTailUptoSaid : Prop := fnProofTailUptoRow.holds Try.pinned (OpenSpec.upto fnProofTailSpec)

/-- 'laws.FnProofTwice', WHERE WHAT IT READS IS OF BULK AT MOST 1048576: true; the input reads as it did. -/
def fnProofTwiceUptoRow : OpenClaim := { program := "ythkhaemlcmkkjai", sum := "ce94b8e879405bc8e80c974dcdad022c315f760eda80e5ae6a934a68005f8f0b", func := "loop.example/drydock/laws.FnProofTwice", spec := "fnProofTwice", unfollowed := true, recurses := true, apart := false, narrowed := true }
def FnProofTwiceUptoSaid : Prop := fnProofTwiceUptoRow.holds Try.pinned (OpenSpec.upto fnProofTwiceSpec)

end Rows
end Go.Proofs.Ythkhaemlcmkkjai
