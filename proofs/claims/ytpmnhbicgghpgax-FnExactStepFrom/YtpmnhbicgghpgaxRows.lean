/-
  No cell of these rows narrows 'for every input' (looked for: loops, veiled, ifaces, maps, wideKeys, modest, calm, conditions, laid).
  DERIVED. THE GIVEN ROWS OF THIS SEAT. 3 by the template 'for every input the law returns true; each argument reads behind the call as it read before'; 0 by the template 'total and deterministic' (their statements: YtpmnhbicgghpgaxTotals.lean).
  GIVEN WITH THE SEED: the statements are not yours to turn. If you find one false, say at which input.
  Laid BY PROGRAM, IN A SANDBOX (cutbox-rows.mjs): the forced cells as the released guide's own fill.sh prints them over the translation 7db0eaf303b10622… (all of the seat's roots in one cut). By AI agents, Wed Nov 11 2026. No macro, syntax, notation, axiom, sorry.
-/
import Derived.Test.YtpmnhbicgghpgaxChecked
import GoSem.Claim
import GoSem.ClaimJoined
import GoSem.ClaimMapViews
import Derived.JoinedTies
import Derived.KernelRfl
namespace Go.Proofs.Ytpmnhbicgghpgax
/- THE CELL 'sum', in the pinned program and in every row, IS THE sha256 OF THE DUMP (.gsa) THAT YtpmnhbicgghpgaxProg.lean LOADS. Nothing in Lean hashes anything: it is a label: what it is worth is what the hold of that sum in a sandbox is worth. -/
noncomputable def Try.pinned : Pinned := { name := "ytpmnhbicgghpgax", sum := "7db0eaf303b10622424e60e9e673e78dfb1c465b3e7e3b50eba7bd426c4bb636", checked := Try.checked }
namespace Rows
def none {H : Type} : Left H := { results := [], args := [] }

/-- 'laws.FnExactStepAll': WHATEVER THE INPUT: true; the input reads as it did. -/
def fnExactStepAllSpec : ChangeSpec := { name := "fnExactStepAll", fn := fun _ => fun
  | [d] => { results := [.lit (.bool true)], args := [d] }
  | _ => none }
def fnExactStepAllRow : OpenClaim := { program := "ytpmnhbicgghpgax", sum := "7db0eaf303b10622424e60e9e673e78dfb1c465b3e7e3b50eba7bd426c4bb636", func := "loop.example/drydock/laws.FnExactStepAll", spec := "fnExactStepAll", unfollowed := true, recurses := true, apart := false }
def FnExactStepAllSaid : Prop := fnExactStepAllRow.holds Try.pinned (OpenSpec.ofChange fnExactStepAllSpec)

/-- ITS FALSE NEIGHBOUR: 'it returns false'. Refute it at one input. -/
def fnExactStepAllWrong : ChangeSpec := { name := "fnExactStepAll", fn := fun _ => fun
  | [d] => { results := [.lit (.bool false)], args := [d] }
  | _ => none }
def FnExactStepAllWrongFalsely : Prop := fnExactStepAllRow.holds Try.pinned (OpenSpec.ofChange fnExactStepAllWrong)

/-- 'laws.FnExactStepDo': WHATEVER THE INPUT: true; the input reads as it did. -/
def fnExactStepDoSpec : ChangeSpec := { name := "fnExactStepDo", fn := fun _ => fun
  | [d1, d2, d3] => { results := [.lit (.bool true)], args := [d1, d2, d3] }
  | _ => none }
def fnExactStepDoRow : OpenClaim := { program := "ytpmnhbicgghpgax", sum := "7db0eaf303b10622424e60e9e673e78dfb1c465b3e7e3b50eba7bd426c4bb636", func := "loop.example/drydock/laws.FnExactStepDo", spec := "fnExactStepDo", unfollowed := true, recurses := true, apart := false }
def FnExactStepDoSaid : Prop := fnExactStepDoRow.holds Try.pinned (OpenSpec.ofChange fnExactStepDoSpec)

/-- ITS FALSE NEIGHBOUR: 'it returns false'. Refute it at one input. -/
def fnExactStepDoWrong : ChangeSpec := { name := "fnExactStepDo", fn := fun _ => fun
  | [d1, d2, d3] => { results := [.lit (.bool false)], args := [d1, d2, d3] }
  | _ => none }
def FnExactStepDoWrongFalsely : Prop := fnExactStepDoRow.holds Try.pinned (OpenSpec.ofChange fnExactStepDoWrong)

/-- 'laws.FnExactStepFrom': WHATEVER THE INPUT: true; the input reads as it did. -/
def fnExactStepFromSpec : ChangeSpec := { name := "fnExactStepFrom", fn := fun _ => fun
  | [d1, d2] => { results := [.lit (.bool true)], args := [d1, d2] }
  | _ => none }
def fnExactStepFromRow : OpenClaim := { program := "ytpmnhbicgghpgax", sum := "7db0eaf303b10622424e60e9e673e78dfb1c465b3e7e3b50eba7bd426c4bb636", func := "loop.example/drydock/laws.FnExactStepFrom", spec := "fnExactStepFrom", unfollowed := true, recurses := true, apart := false }
def FnExactStepFromSaid : Prop := fnExactStepFromRow.holds Try.pinned (OpenSpec.ofChange fnExactStepFromSpec)

/-- ITS FALSE NEIGHBOUR: 'it returns false'. Refute it at one input. -/
def fnExactStepFromWrong : ChangeSpec := { name := "fnExactStepFrom", fn := fun _ => fun
  | [d1, d2] => { results := [.lit (.bool false)], args := [d1, d2] }
  | _ => none }
def FnExactStepFromWrongFalsely : Prop := fnExactStepFromRow.holds Try.pinned (OpenSpec.ofChange fnExactStepFromWrong)

/- THE SECOND FORM. 'bulk': how many values and letters a reading holds, each counted each time it is reached (what is shared counts as often as it is met; a slice's spare places count too). A statement '..UptoSaid' is the law's where the arguments, and the package variables that the reading takes, are together of bulk at most 1048576: NARROWER than '..Said'. Prove '..Said' where nothing that the law and all that it calls make is longer than what came in: it says more and counts as full. Else prove '..UptoSaid'. A law counts once. -/
mutual
def uptoBulk {H : Type} : DataW H → Nat
  | .lit (.string bytes) => bytes.length + 1
  | .lit _ => 1
  | .nil => 1
  | .ptr d => uptoBulk d + 1
  | .slice elems spare => uptoBulkAll elems + uptoBulkAll spare + 1
  | .agg parts => uptoBulkAll parts + 1
  | .iface _ d => uptoBulk d + 1
  | .map entries => uptoBulkEntries entries + 1
  | .held _ => 1
def uptoBulkAll {H : Type} : List (DataW H) → Nat
  | [] => 0
  | d :: r => uptoBulk d + uptoBulkAll r
def uptoBulkEntries {H : Type} : List (Lit × DataW H) → Nat
  | [] => 0
  | x :: r => uptoBulkEntry x + uptoBulkEntries r
def uptoBulkEntry {H : Type} : Lit × DataW H → Nat
  | (.string bytes, d) => bytes.length + uptoBulk d + 1
  | (_, d) => uptoBulk d + 1
 end
def uptoSmall : (H : Type) → List (DataW H) → Bool := fun _ ds => decide (uptoBulkAll ds ≤ 1048576)
def OpenSpec.upto (s : _root_.Go.ChangeSpec) : _root_.Go.OpenSpec := { _root_.Go.OpenSpec.ofChange s with cond := some uptoSmall }

/-- 'laws.FnExactStepAll', WHERE WHAT IT READS IS OF BULK AT MOST 1048576: true; the input reads as it did. -/
def fnExactStepAllUptoRow : OpenClaim := { program := "ytpmnhbicgghpgax", sum := "7db0eaf303b10622424e60e9e673e78dfb1c465b3e7e3b50eba7bd426c4bb636", func := "loop.example/drydock/laws.FnExactStepAll", spec := "fnExactStepAll", unfollowed := true, recurses := true, apart := false, narrowed := true }
def FnExactStepAllUptoSaid : Prop := fnExactStepAllUptoRow.holds Try.pinned (OpenSpec.upto fnExactStepAllSpec)

/-- 'laws.FnExactStepDo', WHERE WHAT IT READS IS OF BULK AT MOST 1048576: true; the input reads as it did. -/
def fnExactStepDoUptoRow : OpenClaim := { program := "ytpmnhbicgghpgax", sum := "7db0eaf303b10622424e60e9e673e78dfb1c465b3e7e3b50eba7bd426c4bb636", func := "loop.example/drydock/laws.FnExactStepDo", spec := "fnExactStepDo", unfollowed := true, recurses := true, apart := false, narrowed := true }
def FnExactStepDoUptoSaid : Prop := fnExactStepDoUptoRow.holds Try.pinned (OpenSpec.upto fnExactStepDoSpec)

/-- 'laws.FnExactStepFrom', WHERE WHAT IT READS IS OF BULK AT MOST 1048576: true; the input reads as it did. -/
def fnExactStepFromUptoRow : OpenClaim := { program := "ytpmnhbicgghpgax", sum := "7db0eaf303b10622424e60e9e673e78dfb1c465b3e7e3b50eba7bd426c4bb636", func := "loop.example/drydock/laws.FnExactStepFrom", spec := "fnExactStepFrom", unfollowed := true, recurses := true, apart := false, narrowed := true }
def FnExactStepFromUptoSaid : Prop := fnExactStepFromUptoRow.holds Try.pinned (OpenSpec.upto fnExactStepFromSpec)

end Rows
end Go.Proofs.Ytpmnhbicgghpgax
