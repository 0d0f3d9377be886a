/-
  No cell of these rows narrows 'for every input' (looked for: loops, veiled, ifaces, maps, wideKeys, modest, calm, conditions, laid).
  DERIVED. THE GIVEN ROWS OF THIS SEAT. 6 by the template 'for every input the law returns true; each argument reads behind the call as it read before'; 0 by the template 'total and deterministic' (their statements: YthkhaemlcmkkjacTotals.lean).
  GIVEN WITH THE SEED: the statements are not yours to turn. If you find one false, say at which input.
  Laid BY PROGRAM, IN A SANDBOX (cutbox-rows.mjs): the forced cells as the released guide's own fill.sh prints them over the translation ff17f1ebabc1c72b… (all of the seat's roots in one cut). By AI agents, Wed Nov 11 2026. No macro, syntax, notation, axiom, sorry.
-/
import Derived.Test.YthkhaemlcmkkjacChecked
import GoSem.Claim
import GoSem.ClaimJoined
import GoSem.ClaimMapViews
import Derived.JoinedTies
import Derived.KernelRfl
namespace Go.Proofs.Ythkhaemlcmkkjac
/- THE CELL 'sum', in the pinned program and in every row, IS THE sha256 OF THE DUMP (.gsa) THAT YthkhaemlcmkkjacProg.lean LOADS. Nothing in Lean hashes anything: it is a label: what it is worth is what the hold of that sum in a sandbox is worth. -/
noncomputable def Try.pinned : Pinned := { name := "ythkhaemlcmkkjac", sum := "ff17f1ebabc1c72b8497e81c9d7deae06f9c200c9b683adb24348901d08cb4fc", checked := Try.checked }
namespace Rows
def none {H : Type} : Left H := { results := [], args := [] }

/-- 'laws.FnStateFree': WHATEVER THE INPUT: true; the input reads as it did. -/
def fnStateFreeSpec : ChangeSpec := { name := "fnStateFree", fn := fun _ => fun
  | [d] => { results := [.lit (.bool true)], args := [d] }
  | _ => none }
def fnStateFreeRow : OpenClaim := { program := "ythkhaemlcmkkjac", sum := "ff17f1ebabc1c72b8497e81c9d7deae06f9c200c9b683adb24348901d08cb4fc", func := "loop.example/drydock/laws.FnStateFree", spec := "fnStateFree", unfollowed := true, recurses := true, apart := false }
def FnStateFreeSaid : Prop := fnStateFreeRow.holds Try.pinned (OpenSpec.ofChange fnStateFreeSpec)

/-- ITS FALSE NEIGHBOUR: 'it returns false'. Refute it at one input. -/
def fnStateFreeWrong : ChangeSpec := { name := "fnStateFree", fn := fun _ => fun
  | [d] => { results := [.lit (.bool false)], args := [d] }
  | _ => none }
def FnStateFreeWrongFalsely : Prop := fnStateFreeRow.holds Try.pinned (OpenSpec.ofChange fnStateFreeWrong)

/-- 'laws.FnStepAll': WHATEVER THE INPUT: true; the input reads as it did. -/
def fnStepAllSpec : ChangeSpec := { name := "fnStepAll", fn := fun _ => fun
  | [d] => { results := [.lit (.bool true)], args := [d] }
  | _ => none }
def fnStepAllRow : OpenClaim := { program := "ythkhaemlcmkkjac", sum := "ff17f1ebabc1c72b8497e81c9d7deae06f9c200c9b683adb24348901d08cb4fc", func := "loop.example/drydock/laws.FnStepAll", spec := "fnStepAll", unfollowed := true, recurses := true, apart := false }
def FnStepAllSaid : Prop := fnStepAllRow.holds Try.pinned (OpenSpec.ofChange fnStepAllSpec)

/-- ITS FALSE NEIGHBOUR: 'it returns false'. Refute it at one input. -/
def fnStepAllWrong : ChangeSpec := { name := "fnStepAll", fn := fun _ => fun
  | [d] => { results := [.lit (.bool false)], args := [d] }
  | _ => none }
def FnStepAllWrongFalsely : Prop := fnStepAllRow.holds Try.pinned (OpenSpec.ofChange fnStepAllWrong)

/-- 'laws.FnStepDo': WHATEVER THE INPUT: true; the input reads as it did. -/
def fnStepDoSpec : ChangeSpec := { name := "fnStepDo", fn := fun _ => fun
  | [d] => { results := [.lit (.bool true)], args := [d] }
  | _ => none }
def fnStepDoRow : OpenClaim := { program := "ythkhaemlcmkkjac", sum := "ff17f1ebabc1c72b8497e81c9d7deae06f9c200c9b683adb24348901d08cb4fc", func := "loop.example/drydock/laws.FnStepDo", spec := "fnStepDo", unfollowed := true, recurses := true, apart := false }
def FnStepDoSaid : Prop := fnStepDoRow.holds Try.pinned (OpenSpec.ofChange fnStepDoSpec)

/-- ITS FALSE NEIGHBOUR: 'it returns false'. Refute it at one input. -/
def fnStepDoWrong : ChangeSpec := { name := "fnStepDo", fn := fun _ => fun
  | [d] => { results := [.lit (.bool false)], args := [d] }
  | _ => none }
def FnStepDoWrongFalsely : Prop := fnStepDoRow.holds Try.pinned (OpenSpec.ofChange fnStepDoWrong)

/-- 'laws.FnStepFrom': WHATEVER THE INPUT: true; the input reads as it did. -/
def fnStepFromSpec : ChangeSpec := { name := "fnStepFrom", fn := fun _ => fun
  | [d] => { results := [.lit (.bool true)], args := [d] }
  | _ => none }
def fnStepFromRow : OpenClaim := { program := "ythkhaemlcmkkjac", sum := "ff17f1ebabc1c72b8497e81c9d7deae06f9c200c9b683adb24348901d08cb4fc", func := "loop.example/drydock/laws.FnStepFrom", spec := "fnStepFrom", unfollowed := true, recurses := true, apart := false }
def FnStepFromSaid : Prop := fnStepFromRow.holds Try.pinned (OpenSpec.ofChange fnStepFromSpec)

/-- ITS FALSE NEIGHBOUR: 'it returns false'. Refute it at one input. -/
def fnStepFromWrong : ChangeSpec := { name := "fnStepFrom", fn := fun _ => fun
  | [d] => { results := [.lit (.bool false)], args := [d] }
  | _ => none }
def FnStepFromWrongFalsely : Prop := fnStepFromRow.holds Try.pinned (OpenSpec.ofChange fnStepFromWrong)

/-- 'laws.FnStepUndo': WHATEVER THE INPUT: true; the input reads as it did. -/
def fnStepUndoSpec : ChangeSpec := { name := "fnStepUndo", fn := fun _ => fun
  | [d] => { results := [.lit (.bool true)], args := [d] }
  | _ => none }
def fnStepUndoRow : OpenClaim := { program := "ythkhaemlcmkkjac", sum := "ff17f1ebabc1c72b8497e81c9d7deae06f9c200c9b683adb24348901d08cb4fc", func := "loop.example/drydock/laws.FnStepUndo", spec := "fnStepUndo", unfollowed := true, recurses := true, apart := false }
def FnStepUndoSaid : Prop := fnStepUndoRow.holds Try.pinned (OpenSpec.ofChange fnStepUndoSpec)

/-- ITS FALSE NEIGHBOUR: 'it returns false'. Refute it at one input. -/
def fnStepUndoWrong : ChangeSpec := { name := "fnStepUndo", fn := fun _ => fun
  | [d] => { results := [.lit (.bool false)], args := [d] }
  | _ => none }
def FnStepUndoWrongFalsely : Prop := fnStepUndoRow.holds Try.pinned (OpenSpec.ofChange fnStepUndoWrong)

/-- 'laws.FnStepRoom': WHATEVER THE INPUT: true; the input reads as it did. -/
def fnStepRoomSpec : ChangeSpec := { name := "fnStepRoom", fn := fun _ => fun
  | [d] => { results := [.lit (.bool true)], args := [d] }
  | _ => none }
def fnStepRoomRow : OpenClaim := { program := "ythkhaemlcmkkjac", sum := "ff17f1ebabc1c72b8497e81c9d7deae06f9c200c9b683adb24348901d08cb4fc", func := "loop.example/drydock/laws.FnStepRoom", spec := "fnStepRoom", unfollowed := true, recurses := true, apart := false }
def FnStepRoomSaid : Prop := fnStepRoomRow.holds Try.pinned (OpenSpec.ofChange fnStepRoomSpec)

/-- ITS FALSE NEIGHBOUR: 'it returns false'. Refute it at one input. -/
def fnStepRoomWrong : ChangeSpec := { name := "fnStepRoom", fn := fun _ => fun
  | [d] => { results := [.lit (.bool false)], args := [d] }
  | _ => none }
def FnStepRoomWrongFalsely : Prop := fnStepRoomRow.holds Try.pinned (OpenSpec.ofChange fnStepRoomWrong)

/- THE SECOND FORM. 'bulk': how many values and letters a reading holds, each counted each time it is reached (what is shared counts as often as it is met; a slice's spare places count too). A statement '..UptoSaid' is the law's where the arguments, and the package variables that the reading takes, are together of bulk at most 1048576: NARROWER than '..Said'. Prove '..Said' where nothing that the law and all that it calls make is longer than what came in: it says more and counts as full. Else prove '..UptoSaid'. A law counts once. -/
mutual
def uptoBulk {H : Type} : DataW H → Nat
  | .lit (.string bytes) => bytes.length + 1
  | .lit _ => 1
  | .nil => 1
  | .ptr d => uptoBulk d + 1
  | .slice elems spare => uptoBulkAll elems + uptoBulkAll spare + 1
  | .agg parts => uptoBulkAll parts + 1
  | .iface _ d => uptoBulk d + 1
  | .map entries => uptoBulkEntries entries + 1
  | .held _ => 1
def uptoBulkAll {H : Type} : List (DataW H) → Nat
  | [] => 0
  | d :: r => uptoBulk d + uptoBulkAll r
def uptoBulkEntries {H : Type} : List (Lit × DataW H) → Nat
  | [] => 0
  | x :: r => uptoBulkEntry x + uptoBulkEntries r
def uptoBulkEntry {H : Type} : Lit × DataW H → Nat
  | (.string bytes, d) => bytes.length + uptoBulk d + 1
  | (_, d) => uptoBulk d + 1
 end
def uptoSmall : (H : Type) → List (DataW H) → Bool := fun _ ds => decide (uptoBulkAll ds ≤ 1048576)
def OpenSpec.upto (s : _root_.Go.ChangeSpec) : _root_.Go.OpenSpec := { _root_.Go.OpenSpec.ofChange s with cond := some uptoSmall }

/-- 'laws.FnStateFree', WHERE WHAT IT READS IS OF BULK AT MOST 1048576: true; the input reads as it did. -/
def fnStateFreeUptoRow : OpenClaim := { program := "ythkhaemlcmkkjac", sum := "ff17f1ebabc1c72b8497e81c9d7deae06f9c200c9b683adb24348901d08cb4fc", func := "loop.example/drydock/laws.FnStateFree", spec := "fnStateFree", unfollowed := true, recurses := true, apart := false, narrowed := true }
def FnStateFreeUptoSaid : Prop := fnStateFreeUptoRow.holds Try.pinned (OpenSpec.upto fnStateFreeSpec)

/-- 'laws.FnStepAll', WHERE WHAT IT READS IS OF BULK AT MOST 1048576: true; the input reads as it did. -/
def fnStepAllUptoRow : OpenClaim := { program := "ythkhaemlcmkkjac", sum := "ff17f1ebabc1c72b8497e81c9d7deae06f9c200c9b683adb24348901d08cb4fc", func := "loop.example/drydock/laws.FnStepAll", spec := "fnStepAll", unfollowed := true, recurses := true, apart := false, narrowed := true }
def FnStepAllUptoSaid : Prop := fnStepAllUptoRow.holds Try.pinned (OpenSpec.upto fnStepAllSpec)

/-- 'laws.FnStepDo', WHERE WHAT IT READS IS OF BULK AT MOST 1048576: true; the input reads as it did. -/
def fnStepDoUptoRow : OpenClaim := { program := "ythkhaemlcmkkjac", sum := "ff17f1ebabc1c72b8497e81c9d7deae06f9c200c9b683adb24348901d08cb4fc", func := "loop.example/drydock/laws.FnStepDo", spec := "fnStepDo", unfollowed := true, recurses := true, apart := false, narrowed := true }
def FnStepDoUptoSaid : Prop := fnStepDoUptoRow.holds Try.pinned (OpenSpec.upto fnStepDoSpec)

/-- 'laws.FnStepFrom', WHERE WHAT IT READS IS OF BULK AT MOST 1048576: true; the input reads as it did. -/
def fnStepFromUptoRow : OpenClaim := { program := "ythkhaemlcmkkjac", sum := "ff17f1ebabc1c72b8497e81c9d7deae06f9c200c9b683adb24348901d08cb4fc", func := "loop.example/drydock/laws.FnStepFrom", spec := "fnStepFrom", unfollowed := true, recurses := true, apart := false, narrowed := true }
def FnStepFromUptoSaid : Prop := fnStepFromUptoRow.holds Try.pinned (OpenSpec.upto fnStepFromSpec)

/-- 'laws.FnStepUndo', WHERE WHAT IT READS IS OF BULK AT MOST 1048576: true; the input reads as it did. -/
def fnStepUndoUptoRow : OpenClaim := { program := "ythkhaemlcmkkjac", sum := "ff17f1ebabc1c72b8497e81c9d7deae06f9c200c9b683adb24348901d08cb4fc", func := "loop.example/drydock/laws.FnStepUndo", spec := "fnStepUndo", unfollowed := true, recurses := true, apart := false, narrowed := true }
def FnStepUndoUptoSaid : Prop := fnStepUndoUptoRow.holds Try.pinned (OpenSpec.upto fnStepUndoSpec)

/-- 'laws.FnStepRoom', WHERE WHAT IT READS IS OF BULK AT MOST 1048576: true; the input reads as it did. -/
def fnStepRoomUptoRow : OpenClaim := { program := "ythkhaemlcmkkjac", sum := "ff17f1ebabc1c72b8497e81c9d7deae06f9c200c9b683adb24348901d08cb4fc", func := "loop.example/drydock/laws.FnStepRoom", spec := "fnStepRoom", unfollowed := true, recurses := true, apart := false, narrowed := true }
def FnStepRoomUptoSaid : Prop := fnStepRoomUptoRow.holds Try.pinned (OpenSpec.upto fnStepRoomSpec)

end Rows
end Go.Proofs.Ythkhaemlcmkkjac
