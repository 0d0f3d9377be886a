/-
  No cell of these rows narrows 'for every input' (looked for: loops, veiled, ifaces, maps, wideKeys, modest, calm, conditions, laid).
  DERIVED. THE GIVEN ROWS OF THIS SEAT. 6 by the template 'for every input the law returns true; each argument reads behind the call as it read before'; 0 by the template 'total and deterministic' (their statements: YthkhaemlcmkkjatTotals.lean).
  GIVEN WITH THE SEED: the statements are not yours to turn. If you find one false, say at which input.
  Laid BY PROGRAM, IN A SANDBOX (cutbox-rows.mjs): the forced cells as the released guide's own fill.sh prints them over the translation ad11c1b8b7c3f708… (all of the seat's roots in one cut). By AI agents, Wed Nov 11 2026. No macro, syntax, notation, axiom, sorry.
-/
import Derived.Test.YthkhaemlcmkkjatChecked
import GoSem.Claim
import GoSem.ClaimJoined
import GoSem.ClaimMapViews
import Derived.JoinedTies
import Derived.KernelRfl
namespace Go.Proofs.Ythkhaemlcmkkjat
/- THE CELL 'sum', in the pinned program and in every row, IS THE sha256 OF THE DUMP (.gsa) THAT YthkhaemlcmkkjatProg.lean LOADS. Nothing in Lean hashes anything: it is a label: what it is worth is what the hold of that sum in a sandbox is worth. -/
noncomputable def Try.pinned : Pinned := { name := "ythkhaemlcmkkjat", sum := "ad11c1b8b7c3f7081732656fe8cc02c250fce86acc0a789b6ee2d1020535451d", checked := Try.checked }
namespace Rows
def none {H : Type} : Left H := { results := [], args := [] }

/-- 'laws.FnExactSatFind': WHATEVER THE INPUT: true; the input reads as it did. -/
def fnExactSatFindSpec : ChangeSpec := { name := "fnExactSatFind", fn := fun _ => fun
  | [d1, d2] => { results := [.lit (.bool true)], args := [d1, d2] }
  | _ => none }
def fnExactSatFindRow : OpenClaim := { program := "ythkhaemlcmkkjat", sum := "ad11c1b8b7c3f7081732656fe8cc02c250fce86acc0a789b6ee2d1020535451d", func := "loop.example/drydock/laws.FnExactSatFind", spec := "fnExactSatFind", unfollowed := true, recurses := true, apart := false }
def FnExactSatFindSaid : Prop := fnExactSatFindRow.holds Try.pinned (OpenSpec.ofChange fnExactSatFindSpec)

/-- ITS FALSE NEIGHBOUR: 'it returns false'. Refute it at one input. -/
def fnExactSatFindWrong : ChangeSpec := { name := "fnExactSatFind", fn := fun _ => fun
  | [d1, d2] => { results := [.lit (.bool false)], args := [d1, d2] }
  | _ => none }
def FnExactSatFindWrongFalsely : Prop := fnExactSatFindRow.holds Try.pinned (OpenSpec.ofChange fnExactSatFindWrong)

/-- 'laws.FnExactSatProof': WHATEVER THE INPUT: true; the input reads as it did. -/
def fnExactSatProofSpec : ChangeSpec := { name := "fnExactSatProof", fn := fun _ => fun
  | [d1, d2] => { results := [.lit (.bool true)], args := [d1, d2] }
  | _ => none }
def fnExactSatProofRow : OpenClaim := { program := "ythkhaemlcmkkjat", sum := "ad11c1b8b7c3f7081732656fe8cc02c250fce86acc0a789b6ee2d1020535451d", func := "loop.example/drydock/laws.FnExactSatProof", spec := "fnExactSatProof", unfollowed := true, recurses := true, apart := false }
def FnExactSatProofSaid : Prop := fnExactSatProofRow.holds Try.pinned (OpenSpec.ofChange fnExactSatProofSpec)

/-- ITS FALSE NEIGHBOUR: 'it returns false'. Refute it at one input. -/
def fnExactSatProofWrong : ChangeSpec := { name := "fnExactSatProof", fn := fun _ => fun
  | [d1, d2] => { results := [.lit (.bool false)], args := [d1, d2] }
  | _ => none }
def FnExactSatProofWrongFalsely : Prop := fnExactSatProofRow.holds Try.pinned (OpenSpec.ofChange fnExactSatProofWrong)

/-- 'laws.FnExactCoreOf': WHATEVER THE INPUT: true; the input reads as it did. -/
def fnExactCoreOfSpec : ChangeSpec := { name := "fnExactCoreOf", fn := fun _ => fun
  | [d] => { results := [.lit (.bool true)], args := [d] }
  | _ => none }
def fnExactCoreOfRow : OpenClaim := { program := "ythkhaemlcmkkjat", sum := "ad11c1b8b7c3f7081732656fe8cc02c250fce86acc0a789b6ee2d1020535451d", func := "loop.example/drydock/laws.FnExactCoreOf", spec := "fnExactCoreOf", unfollowed := true, recurses := true, apart := false }
def FnExactCoreOfSaid : Prop := fnExactCoreOfRow.holds Try.pinned (OpenSpec.ofChange fnExactCoreOfSpec)

/-- ITS FALSE NEIGHBOUR: 'it returns false'. Refute it at one input. -/
def fnExactCoreOfWrong : ChangeSpec := { name := "fnExactCoreOf", fn := fun _ => fun
  | [d] => { results := [.lit (.bool false)], args := [d] }
  | _ => none }
def FnExactCoreOfWrongFalsely : Prop := fnExactCoreOfRow.holds Try.pinned (OpenSpec.ofChange fnExactCoreOfWrong)

/-- 'laws.FnExactCoreCount': WHATEVER THE INPUT: true; the input reads as it did. -/
def fnExactCoreCountSpec : ChangeSpec := { name := "fnExactCoreCount", fn := fun _ => fun
  | [d] => { results := [.lit (.bool true)], args := [d] }
  | _ => none }
def fnExactCoreCountRow : OpenClaim := { program := "ythkhaemlcmkkjat", sum := "ad11c1b8b7c3f7081732656fe8cc02c250fce86acc0a789b6ee2d1020535451d", func := "loop.example/drydock/laws.FnExactCoreCount", spec := "fnExactCoreCount", unfollowed := true, recurses := true, apart := false }
def FnExactCoreCountSaid : Prop := fnExactCoreCountRow.holds Try.pinned (OpenSpec.ofChange fnExactCoreCountSpec)

/-- ITS FALSE NEIGHBOUR: 'it returns false'. Refute it at one input. -/
def fnExactCoreCountWrong : ChangeSpec := { name := "fnExactCoreCount", fn := fun _ => fun
  | [d] => { results := [.lit (.bool false)], args := [d] }
  | _ => none }
def FnExactCoreCountWrongFalsely : Prop := fnExactCoreCountRow.holds Try.pinned (OpenSpec.ofChange fnExactCoreCountWrong)

/-- 'laws.FnExactCoreFixed': WHATEVER THE INPUT: true; the input reads as it did. -/
def fnExactCoreFixedSpec : ChangeSpec := { name := "fnExactCoreFixed", fn := fun _ => fun
  | [d] => { results := [.lit (.bool true)], args := [d] }
  | _ => none }
def fnExactCoreFixedRow : OpenClaim := { program := "ythkhaemlcmkkjat", sum := "ad11c1b8b7c3f7081732656fe8cc02c250fce86acc0a789b6ee2d1020535451d", func := "loop.example/drydock/laws.FnExactCoreFixed", spec := "fnExactCoreFixed", unfollowed := true, recurses := true, apart := false }
def FnExactCoreFixedSaid : Prop := fnExactCoreFixedRow.holds Try.pinned (OpenSpec.ofChange fnExactCoreFixedSpec)

/-- ITS FALSE NEIGHBOUR: 'it returns false'. Refute it at one input. -/
def fnExactCoreFixedWrong : ChangeSpec := { name := "fnExactCoreFixed", fn := fun _ => fun
  | [d] => { results := [.lit (.bool false)], args := [d] }
  | _ => none }
def FnExactCoreFixedWrongFalsely : Prop := fnExactCoreFixedRow.holds Try.pinned (OpenSpec.ofChange fnExactCoreFixedWrong)

/-- 'laws.FnExactRepoOk': WHATEVER THE INPUT: true; the input reads as it did. -/
def fnExactRepoOkSpec : ChangeSpec := { name := "fnExactRepoOk", fn := fun _ => fun
  | [d] => { results := [.lit (.bool true)], args := [d] }
  | _ => none }
def fnExactRepoOkRow : OpenClaim := { program := "ythkhaemlcmkkjat", sum := "ad11c1b8b7c3f7081732656fe8cc02c250fce86acc0a789b6ee2d1020535451d", func := "loop.example/drydock/laws.FnExactRepoOk", spec := "fnExactRepoOk", unfollowed := true, recurses := true, apart := false }
def FnExactRepoOkSaid : Prop := fnExactRepoOkRow.holds Try.pinned (OpenSpec.ofChange fnExactRepoOkSpec)

/-- ITS FALSE NEIGHBOUR: 'it returns false'. Refute it at one input. -/
def fnExactRepoOkWrong : ChangeSpec := { name := "fnExactRepoOk", fn := fun _ => fun
  | [d] => { results := [.lit (.bool false)], args := [d] }
  | _ => none }
def FnExactRepoOkWrongFalsely : Prop := fnExactRepoOkRow.holds Try.pinned (OpenSpec.ofChange fnExactRepoOkWrong)

/- THE SECOND FORM. 'bulk': how many values and letters a reading holds, each counted each time it is reached (what is shared counts as often as it is met; a slice's spare places count too). A statement '..UptoSaid' is the law's where the arguments, and the package variables that the reading takes, are together of bulk at most 1048576: NARROWER than '..Said'. Prove '..Said' where nothing that the law and all that it calls make is longer than what came in: it says more and counts as full. Else prove '..UptoSaid'. A law counts once. -/
mutual
def uptoBulk {H : Type} : DataW H → Nat
  | .lit (.string bytes) => bytes.length + 1
  | .lit _ => 1
  | .nil => 1
  | .ptr d => uptoBulk d + 1
  | .slice elems spare => uptoBulkAll elems + uptoBulkAll spare + 1
  | .agg parts => uptoBulkAll parts + 1
  | .iface _ d => uptoBulk d + 1
  | .map entries => uptoBulkEntries entries + 1
  | .held _ => 1
def uptoBulkAll {H : Type} : List (DataW H) → Nat
  | [] => 0
  | d :: r => uptoBulk d + uptoBulkAll r
def uptoBulkEntries {H : Type} : List (Lit × DataW H) → Nat
  | [] => 0
  | x :: r => uptoBulkEntry x + uptoBulkEntries r
def uptoBulkEntry {H : Type} : Lit × DataW H → Nat
  | (.string bytes, d) => bytes.length + uptoBulk d + 1
  | (_, d) => uptoBulk d + 1
 end
def uptoSmall : (H : Type) → List (DataW H) → Bool := fun _ ds => decide (uptoBulkAll ds ≤ 1048576)
def OpenSpec.upto (s : _root_.Go.ChangeSpec) : _root_.Go.OpenSpec := { _root_.Go.OpenSpec.ofChange s with cond := some uptoSmall }

/-- 'laws.FnExactSatFind', WHERE WHAT IT READS IS OF BULK AT MOST 1048576: true; the input reads as it did. -/
def fnExactSatFindUptoRow : OpenClaim := { program := "ythkhaemlcmkkjat", sum := "ad11c1b8b7c3f7081732656fe8cc02c250fce86acc0a789b6ee2d1020535451d", func := "loop.example/drydock/laws.FnExactSatFind", spec := "fnExactSatFind", unfollowed := true, recurses := true, apart := false, narrowed := true }
def FnExactSatFindUptoSaid : Prop := fnExactSatFindUptoRow.holds Try.pinned (OpenSpec.upto fnExactSatFindSpec)

/-- 'laws.FnExactSatProof', WHERE WHAT IT READS IS OF BULK AT MOST 1048576: true; the input reads as it did. -/
def fnExactSatProofUptoRow : OpenClaim := { program := "ythkhaemlcmkkjat", sum := "ad11c1b8b7c3f7081732656fe8cc02c250fce86acc0a789b6ee2d1020535451d", func := "loop.example/drydock/laws.FnExactSatProof", spec := "fnExactSatProof", unfollowed := true, recurses := true, apart := false, narrowed := true }
def FnExactSatProofUptoSaid : Prop := fnExactSatProofUptoRow.holds Try.pinned (OpenSpec.upto fnExactSatProofSpec)

/-- 'laws.FnExactCoreOf', WHERE WHAT IT READS IS OF BULK AT MOST 1048576: true; the input reads as it did. -/
def fnExactCoreOfUptoRow : OpenClaim := { program := "ythkhaemlcmkkjat", sum := "ad11c1b8b7c3f7081732656fe8cc02c250fce86acc0a789b6ee2d1020535451d", func := "loop.example/drydock/laws.FnExactCoreOf", spec := "fnExactCoreOf", unfollowed := true, recurses := true, apart := false, narrowed := true }
def FnExactCoreOfUptoSaid : Prop := fnExactCoreOfUptoRow.holds Try.pinned (OpenSpec.upto fnExactCoreOfSpec)

/-- 'laws.FnExactCoreCount', WHERE WHAT IT READS IS OF BULK AT MOST 1048576: true; the input reads as it did. -/
def fnExactCoreCountUptoRow : OpenClaim := { program := "ythkhaemlcmkkjat", sum := "ad11c1b8b7c3f7081732656fe8cc02c250fce86acc0a789b6ee2d1020535451d", func := "loop.example/drydock/laws.FnExactCoreCount", spec := "fnExactCoreCount", unfollowed := true, recurses := true, apart := false, narrowed := true }
def FnExactCoreCountUptoSaid : Prop := fnExactCoreCountUptoRow.holds Try.pinned (OpenSpec.upto fnExactCoreCountSpec)

/-- 'laws.FnExactCoreFixed', WHERE WHAT IT READS IS OF BULK AT MOST 1048576: true; the input reads as it did. -/
def fnExactCoreFixedUptoRow : OpenClaim := { program := "ythkhaemlcmkkjat", sum := "ad11c1b8b7c3f7081732656fe8cc02c250fce86acc0a789b6ee2d1020535451d", func := "loop.example/drydock/laws.FnExactCoreFixed", spec := "fnExactCoreFixed", unfollowed := true, recurses := true, apart := false, narrowed := true }
def FnExactCoreFixedUptoSaid : Prop := fnExactCoreFixedUptoRow.holds Try.pinned (OpenSpec.upto fnExactCoreFixedSpec)

/-- 'laws.FnExactRepoOk', WHERE WHAT IT READS IS OF BULK AT MOST 1048576: true; the input reads as it did. -/
def fnExactRepoOkUptoRow : OpenClaim := { program := "ythkhaemlcmkkjat", sum := "ad11c1b8b7c3f7081732656fe8cc02c250fce86acc0a789b6ee2d1020535451d", func := "loop.example/drydock/laws.FnExactRepoOk", spec := "fnExactRepoOk", unfollowed := true, recurses := true, apart := false, narrowed := true }
def FnExactRepoOkUptoSaid : Prop := fnExactRepoOkUptoRow.holds Try.pinned (OpenSpec.upto fnExactRepoOkSpec)

end Rows
end Go.Proofs.Ythkhaemlcmkkjat
