/-
  No cell of these rows narrows 'for every input' (looked for: loops, veiled, ifaces, maps, wideKeys, modest, calm, conditions, laid).
  DERIVED. THE GIVEN ROWS OF THIS SEAT. 3 by the template 'for every input the law returns true; each argument reads behind the call as it read before'; 0 by the template 'total and deterministic' (their statements: YthkhaemlcmkkjafTotals.lean).
  GIVEN WITH THE SEED: the statements are not yours to turn. If you find one false, say at which input.
  Laid BY PROGRAM, IN A SANDBOX (cutbox-rows.mjs): the forced cells as the released guide's own fill.sh prints them over the translation 12283c455bc3f0a5… (all of the seat's roots in one cut). By AI agents, Wed Nov 11 2026. No macro, syntax, notation, axiom, sorry.
-/
import Derived.Test.YthkhaemlcmkkjafChecked
import GoSem.Claim
import GoSem.ClaimJoined
import GoSem.ClaimMapViews
import Derived.JoinedTies
import Derived.KernelRfl
namespace Go.Proofs.Ythkhaemlcmkkjaf
/- THE CELL 'sum', in the pinned program and in every row, IS THE sha256 OF THE DUMP (.gsa) THAT YthkhaemlcmkkjafProg.lean LOADS. Nothing in Lean hashes anything: it is a label: what it is worth is what the hold of that sum in a sandbox is worth. -/
noncomputable def Try.pinned : Pinned := { name := "ythkhaemlcmkkjaf", sum := "12283c455bc3f0a54b5e5726e7c1f6ee6b8e997edc5da7f5f3ed8cf085308d51", checked := Try.checked }
namespace Rows
def none {H : Type} : Left H := { results := [], args := [] }

/-- 'laws.FnPlanHealthy': WHATEVER THE INPUT: true; the input reads as it did. -/
def fnPlanHealthySpec : ChangeSpec := { name := "fnPlanHealthy", fn := fun _ => fun
  | [d] => { results := [.lit (.bool true)], args := [d] }
  | _ => none }
def fnPlanHealthyRow : OpenClaim := { program := "ythkhaemlcmkkjaf", sum := "12283c455bc3f0a54b5e5726e7c1f6ee6b8e997edc5da7f5f3ed8cf085308d51", func := "loop.example/drydock/laws.FnPlanHealthy", spec := "fnPlanHealthy", unfollowed := true, recurses := true, apart := false }
def FnPlanHealthySaid : Prop := fnPlanHealthyRow.holds Try.pinned (OpenSpec.ofChange fnPlanHealthySpec)

/-- ITS FALSE NEIGHBOUR: 'it returns false'. Refute it at one input. -/
def fnPlanHealthyWrong : ChangeSpec := { name := "fnPlanHealthy", fn := fun _ => fun
  | [d] => { results := [.lit (.bool false)], args := [d] }
  | _ => none }
def FnPlanHealthyWrongFalsely : Prop := fnPlanHealthyRow.holds Try.pinned (OpenSpec.ofChange fnPlanHealthyWrong)

/-- 'laws.FnCnfTrue': WHATEVER THE INPUT: true; the input reads as it did. -/
def fnCnfTrueSpec : ChangeSpec := { name := "fnCnfTrue", fn := fun _ => fun
  | [d1, d2] => { results := [.lit (.bool true)], args := [d1, d2] }
  | _ => none }
def fnCnfTrueRow : OpenClaim := { program := "ythkhaemlcmkkjaf", sum := "12283c455bc3f0a54b5e5726e7c1f6ee6b8e997edc5da7f5f3ed8cf085308d51", func := "loop.example/drydock/laws.FnCnfTrue", spec := "fnCnfTrue", unfollowed := true, recurses := true, apart := false }
def FnCnfTrueSaid : Prop := fnCnfTrueRow.holds Try.pinned (OpenSpec.ofChange fnCnfTrueSpec)

/-- ITS FALSE NEIGHBOUR: 'it returns false'. Refute it at one input. -/
def fnCnfTrueWrong : ChangeSpec := { name := "fnCnfTrue", fn := fun _ => fun
  | [d1, d2] => { results := [.lit (.bool false)], args := [d1, d2] }
  | _ => none }
def FnCnfTrueWrongFalsely : Prop := fnCnfTrueRow.holds Try.pinned (OpenSpec.ofChange fnCnfTrueWrong)

/-- 'laws.FnCnfUnits': WHATEVER THE INPUT: true; the input reads as it did. -/
def fnCnfUnitsSpec : ChangeSpec := { name := "fnCnfUnits", fn := fun _ => fun
  | [d1, d2] => { results := [.lit (.bool true)], args := [d1, d2] }
  | _ => none }
def fnCnfUnitsRow : OpenClaim := { program := "ythkhaemlcmkkjaf", sum := "12283c455bc3f0a54b5e5726e7c1f6ee6b8e997edc5da7f5f3ed8cf085308d51", func := "loop.example/drydock/laws.FnCnfUnits", spec := "fnCnfUnits", unfollowed := true, recurses := true, apart := false }
def FnCnfUnitsSaid : Prop := fnCnfUnitsRow.holds Try.pinned (OpenSpec.ofChange fnCnfUnitsSpec)

/-- ITS FALSE NEIGHBOUR: 'it returns false'. Refute it at one input. -/
def fnCnfUnitsWrong : ChangeSpec := { name := "fnCnfUnits", fn := fun _ => fun
  | [d1, d2] => { results := [.lit (.bool false)], args := [d1, d2] }
  | _ => none }
def FnCnfUnitsWrongFalsely : Prop := fnCnfUnitsRow.holds Try.pinned (OpenSpec.ofChange fnCnfUnitsWrong)

/- THE SECOND FORM. 'bulk': how many values and letters a reading holds, each counted each time it is reached (what is shared counts as often as it is met; a slice's spare places count too). A statement '..UptoSaid' is the law's where the arguments, and the package variables that the reading takes, are together of bulk at most 1048576: NARROWER than '..Said'. Prove '..Said' where nothing that the law and all that it calls make is longer than what came in: it says more and counts as full. Else prove '..UptoSaid'. A law counts once. -/
mutual
def uptoBulk {H : Type} : DataW H → Nat
  | .lit (.string bytes) => bytes.length + 1
  | .lit _ => 1
  | .nil => 1
  | .ptr d => uptoBulk d + 1
  | .slice elems spare => uptoBulkAll elems + uptoBulkAll spare + 1
  | .agg parts => uptoBulkAll parts + 1
  | .iface _ d => uptoBulk d + 1
  | .map entries => uptoBulkEntries entries + 1
  | .held _ => 1
def uptoBulkAll {H : Type} : List (DataW H) → Nat
  | [] => 0
  | d :: r => uptoBulk d + uptoBulkAll r
def uptoBulkEntries {H : Type} : List (Lit × DataW H) → Nat
  | [] => 0
  | x :: r => uptoBulkEntry x + uptoBulkEntries r
def uptoBulkEntry {H : Type} : Lit × DataW H → Nat
  | (.string bytes, d) => bytes.length + uptoBulk d + 1
  | (_, d) => uptoBulk d + 1
 end
def uptoSmall : (H : Type) → List (DataW H) → Bool := fun _ ds => decide (uptoBulkAll ds ≤ 1048576)
def OpenSpec.upto (s : _root_.Go.ChangeSpec) : _root_.Go.OpenSpec := { _root_.Go.OpenSpec.ofChange s with cond := some uptoSmall }

/-- 'laws.FnPlanHealthy', WHERE WHAT IT READS IS OF BULK AT MOST 1048576: true; the input reads as it did. -/
def fnPlanHealthyUptoRow : OpenClaim := { program := "ythkhaemlcmkkjaf", sum := "12283c455bc3f0a54b5e5726e7c1f6ee6b8e997edc5da7f5f3ed8cf085308d51", func := "loop.example/drydock/laws.FnPlanHealthy", spec := "fnPlanHealthy", unfollowed := true, recurses := true, apart := false, narrowed := true }
def FnPlanHealthyUptoSaid : Prop := fnPlanHealthyUptoRow.holds Try.pinned (OpenSpec.upto fnPlanHealthySpec)

/-- 'laws.FnCnfTrue', WHERE WHAT IT READS IS OF BULK AT MOST 1048576: true; the input reads as it did. -/
def fnCnfTrueUptoRow : OpenClaim := { program := "ythkhaemlcmkkjaf", sum := "12283c455bc3f0a54b5e5726e7c1f6ee6b8e997edc5da7f5f3ed8cf085308d51", func := "loop.example/drydock/laws.FnCnfTrue", spec := "fnCnfTrue", unfollowed := true, recurses := true, apart := false, narrowed := true }
def FnCnfTrueUptoSaid : Prop := fnCnfTrueUptoRow.holds Try.pinned (OpenSpec.upto fnCnfTrueSpec)

/-- 'laws.FnCnfUnits', WHERE WHAT IT READS IS OF BULK AT MOST 1048576: true; the input reads as it did. -/
def fnCnfUnitsUptoRow : OpenClaim := { program := "ythkhaemlcmkkjaf", sum := "12283c455bc3f0a54b5e5726e7c1f6ee6b8e997edc5da7f5f3ed8cf085308d51", func := "loop.example/drydock/laws.FnCnfUnits", spec := "fnCnfUnits", unfollowed := true, recurses := true, apart := false, narrowed := true }
def FnCnfUnitsUptoSaid : Prop := fnCnfUnitsUptoRow.holds Try.pinned (OpenSpec.upto fnCnfUnitsSpec)

end Rows
end Go.Proofs.Ythkhaemlcmkkjaf
