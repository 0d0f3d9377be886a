/-
  No cell of these rows narrows 'for every input' (looked for: loops, veiled, ifaces, maps, wideKeys, modest, calm, conditions, laid).
  DERIVED. THE GIVEN ROWS OF THIS SEAT. 4 by the template 'for every input the law returns true; each argument reads behind the call as it read before'; 0 by the template 'total and deterministic' (their statements: YthkhaemlcmkkjarTotals.lean).
  GIVEN WITH THE SEED: the statements are not yours to turn. If you find one false, say at which input.
  Laid BY PROGRAM, IN A SANDBOX (cutbox-rows.mjs): the forced cells as the released guide's own fill.sh prints them over the translation 600250a50e577d5b… (all of the seat's roots in one cut). By AI agents, Wed Nov 11 2026. No macro, syntax, notation, axiom, sorry.
-/
import Derived.Test.YthkhaemlcmkkjarChecked
import GoSem.Claim
import GoSem.ClaimJoined
import GoSem.ClaimMapViews
import Derived.JoinedTies
import Derived.KernelRfl
namespace Go.Proofs.Ythkhaemlcmkkjar
/- THE CELL 'sum', in the pinned program and in every row, IS THE sha256 OF THE DUMP (.gsa) THAT YthkhaemlcmkkjarProg.lean LOADS. Nothing in Lean hashes anything: it is a label: what it is worth is what the hold of that sum in a sandbox is worth. -/
noncomputable def Try.pinned : Pinned := { name := "ythkhaemlcmkkjar", sum := "600250a50e577d5b6d5040bc8d0a4b7e0f57e42986cb11d3296ae329a667ae73", checked := Try.checked }
namespace Rows
def none {H : Type} : Left H := { results := [], args := [] }

/-- 'laws.FnStepSwap': WHATEVER THE INPUT: true; the input reads as it did. -/
def fnStepSwapSpec : ChangeSpec := { name := "fnStepSwap", fn := fun _ => fun
  | [d] => { results := [.lit (.bool true)], args := [d] }
  | _ => none }
def fnStepSwapRow : OpenClaim := { program := "ythkhaemlcmkkjar", sum := "600250a50e577d5b6d5040bc8d0a4b7e0f57e42986cb11d3296ae329a667ae73", func := "loop.example/drydock/laws.FnStepSwap", spec := "fnStepSwap", unfollowed := true, recurses := true, apart := false }
def FnStepSwapSaid : Prop := fnStepSwapRow.holds Try.pinned (OpenSpec.ofChange fnStepSwapSpec)

/-- ITS FALSE NEIGHBOUR: 'it returns false'. Refute it at one input. -/
def fnStepSwapWrong : ChangeSpec := { name := "fnStepSwap", fn := fun _ => fun
  | [d] => { results := [.lit (.bool false)], args := [d] }
  | _ => none }
def FnStepSwapWrongFalsely : Prop := fnStepSwapRow.holds Try.pinned (OpenSpec.ofChange fnStepSwapWrong)

/-- 'laws.FnStepTwice': WHATEVER THE INPUT: true; the input reads as it did. -/
def fnStepTwiceSpec : ChangeSpec := { name := "fnStepTwice", fn := fun _ => fun
  | [d] => { results := [.lit (.bool true)], args := [d] }
  | _ => none }
def fnStepTwiceRow : OpenClaim := { program := "ythkhaemlcmkkjar", sum := "600250a50e577d5b6d5040bc8d0a4b7e0f57e42986cb11d3296ae329a667ae73", func := "loop.example/drydock/laws.FnStepTwice", spec := "fnStepTwice", unfollowed := true, recurses := true, apart := false }
def FnStepTwiceSaid : Prop := fnStepTwiceRow.holds Try.pinned (OpenSpec.ofChange fnStepTwiceSpec)

/-- ITS FALSE NEIGHBOUR: 'it returns false'. Refute it at one input. -/
def fnStepTwiceWrong : ChangeSpec := { name := "fnStepTwice", fn := fun _ => fun
  | [d] => { results := [.lit (.bool false)], args := [d] }
  | _ => none }
def FnStepTwiceWrongFalsely : Prop := fnStepTwiceRow.holds Try.pinned (OpenSpec.ofChange fnStepTwiceWrong)

/-- 'laws.FnSatGiven': WHATEVER THE INPUT: true; the input reads as it did. -/
def fnSatGivenSpec : ChangeSpec := { name := "fnSatGiven", fn := fun _ => fun
  | [d1, d2] => { results := [.lit (.bool true)], args := [d1, d2] }
  | _ => none }
def fnSatGivenRow : OpenClaim := { program := "ythkhaemlcmkkjar", sum := "600250a50e577d5b6d5040bc8d0a4b7e0f57e42986cb11d3296ae329a667ae73", func := "loop.example/drydock/laws.FnSatGiven", spec := "fnSatGiven", unfollowed := true, recurses := true, apart := false }
def FnSatGivenSaid : Prop := fnSatGivenRow.holds Try.pinned (OpenSpec.ofChange fnSatGivenSpec)

/-- ITS FALSE NEIGHBOUR: 'it returns false'. Refute it at one input. -/
def fnSatGivenWrong : ChangeSpec := { name := "fnSatGiven", fn := fun _ => fun
  | [d1, d2] => { results := [.lit (.bool false)], args := [d1, d2] }
  | _ => none }
def FnSatGivenWrongFalsely : Prop := fnSatGivenRow.holds Try.pinned (OpenSpec.ofChange fnSatGivenWrong)

/-- 'laws.FnProofEach': WHATEVER THE INPUT: true; the input reads as it did. -/
def fnProofEachSpec : ChangeSpec := { name := "fnProofEach", fn := fun _ => fun
  | [d] => { results := [.lit (.bool true)], args := [d] }
  | _ => none }
def fnProofEachRow : OpenClaim := { program := "ythkhaemlcmkkjar", sum := "600250a50e577d5b6d5040bc8d0a4b7e0f57e42986cb11d3296ae329a667ae73", func := "loop.example/drydock/laws.FnProofEach", spec := "fnProofEach", unfollowed := true, recurses := true, apart := false }
def FnProofEachSaid : Prop := fnProofEachRow.holds Try.pinned (OpenSpec.ofChange fnProofEachSpec)

/-- ITS FALSE NEIGHBOUR: 'it returns false'. Refute it at one input. -/
def fnProofEachWrong : ChangeSpec := { name := "fnProofEach", fn := fun _ => fun
  | [d] => { results := [.lit (.bool false)], args := [d] }
  | _ => none }
def FnProofEachWrongFalsely : Prop := fnProofEachRow.holds Try.pinned (OpenSpec.ofChange fnProofEachWrong)

/- THE SECOND FORM. 'bulk': how many values and letters a reading holds, each counted each time it is reached (what is shared counts as often as it is met; a slice's spare places count too). A statement '..UptoSaid' is the law's where the arguments, and the package variables that the reading takes, are together of bulk at most 1048576: NARROWER than '..Said'. Prove '..Said' where nothing that the law and all that it calls make is longer than what came in: it says more and counts as full. Else prove '..UptoSaid'. A law counts once. -/
mutual
def uptoBulk {H : Type} : DataW H → Nat
  | .lit (.string bytes) => bytes.length + 1
  | .lit _ => 1
  | .nil => 1
  | .ptr d => uptoBulk d + 1
  | .slice elems spare => uptoBulkAll elems + uptoBulkAll spare + 1
  | .agg parts => uptoBulkAll parts + 1
  | .iface _ d => uptoBulk d + 1
  | .map entries => uptoBulkEntries entries + 1
  | .held _ => 1
def uptoBulkAll {H : Type} : List (DataW H) → Nat
  | [] => 0
  | d :: r => uptoBulk d + uptoBulkAll r
def uptoBulkEntries {H : Type} : List (Lit × DataW H) → Nat
  | [] => 0
  | x :: r => uptoBulkEntry x + uptoBulkEntries r
def uptoBulkEntry {H : Type} : Lit × DataW H → Nat
  | (.string bytes, d) => bytes.length + uptoBulk d + 1
  | (_, d) => uptoBulk d + 1
 end
def uptoSmall : (H : Type) → List (DataW H) → Bool := fun _ ds => decide (uptoBulkAll ds ≤ 1048576)
def OpenSpec.upto (s : _root_.Go.ChangeSpec) : _root_.Go.OpenSpec := { _root_.Go.OpenSpec.ofChange s with cond := some uptoSmall }

/-- 'laws.FnStepSwap', WHERE WHAT IT READS IS OF BULK AT MOST 1048576: true; the input reads as it did. -/
def fnStepSwapUptoRow : OpenClaim := { program := "ythkhaemlcmkkjar", sum := "600250a50e577d5b6d5040bc8d0a4b7e0f57e42986cb11d3296ae329a667ae73", func := "loop.example/drydock/laws.FnStepSwap", spec := "fnStepSwap", unfollowed := true, recurses := true, apart := false, narrowed := true }
def FnStepSwapUptoSaid : Prop := fnStepSwapUptoRow.holds Try.pinned (OpenSpec.upto fnStepSwapSpec)

/-- 'laws.FnStepTwice', WHERE WHAT IT READS IS OF BULK AT MOST 1048576: true; the input reads as it did. -/
def fnStepTwiceUptoRow : OpenClaim := { program := "ythkhaemlcmkkjar", sum := "600250a50e577d5b6d5040bc8d0a4b7e0f57e42986cb11d3296ae329a667ae73", func := "loop.example/drydock/laws.FnStepTwice", spec := "fnStepTwice", unfollowed := true, recurses := true, apart := false, narrowed := true }
def FnStepTwiceUptoSaid : Prop := fnStepTwiceUptoRow.holds Try.pinned (OpenSpec.upto fnStepTwiceSpec)

/-- 'laws.FnSatGiven', WHERE WHAT IT READS IS OF BULK AT MOST 1048576: true; the input reads as it did. -/
def fnSatGivenUptoRow : OpenClaim := { program := "ythkhaemlcmkkjar", sum := "600250a50e577d5b6d5040bc8d0a4b7e0f57e42986cb11d3296ae329a667ae73", func := "loop.example/drydock/laws.FnSatGiven", spec := "fnSatGiven", unfollowed := true, recurses := true, apart := false, narrowed := true }
def FnSatGivenUptoSaid : Prop := fnSatGivenUptoRow.holds Try.pinned (OpenSpec.upto fnSatGivenSpec)

/-- 'laws.FnProofEach', WHERE WHAT IT READS IS OF BULK AT MOST 1048576: true; the input reads as it did. -/
def fnProofEachUptoRow : OpenClaim := { program := "ythkhaemlcmkkjar", sum := "600250a50e577d5b6d5040bc8d0a4b7e0f57e42986cb11d3296ae329a667ae73", func := "loop.example/drydock/laws.FnProofEach", spec := "fnProofEach", unfollowed := true, recurses := true, apart := false, narrowed := true }
def FnProofEachUptoSaid : Prop := fnProofEachUptoRow.holds Try.pinned (OpenSpec.upto fnProofEachSpec)

end Rows
end Go.Proofs.Ythkhaemlcmkkjar
