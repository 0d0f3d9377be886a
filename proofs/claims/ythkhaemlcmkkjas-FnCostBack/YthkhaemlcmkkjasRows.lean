/-
  No cell of these rows narrows 'for every input' (looked for: loops, veiled, ifaces, maps, wideKeys, modest, calm, conditions, laid).
  DERIVED. THE GIVEN ROWS OF THIS SEAT. 4 by the template 'for every input the law returns true; each argument reads behind the call as it read before'; 0 by the template 'total and deterministic' (their statements: YthkhaemlcmkkjasTotals.lean).
  GIVEN WITH THE SEED: the statements are not yours to turn. If you find one false, say at which input.
  Laid BY PROGRAM, IN A SANDBOX (cutbox-rows.mjs): the forced cells as the released guide's own fill.sh prints them over the translation 65ea58d579828762… (all of the seat's roots in one cut). By AI agents, Wed Nov 11 2026. No macro, syntax, notation, axiom, sorry.
-/
import Derived.Test.YthkhaemlcmkkjasChecked
import GoSem.Claim
import GoSem.ClaimJoined
import GoSem.ClaimMapViews
import Derived.JoinedTies
import Derived.KernelRfl
namespace Go.Proofs.Ythkhaemlcmkkjas
/- THE CELL 'sum', in the pinned program and in every row, IS THE sha256 OF THE DUMP (.gsa) THAT YthkhaemlcmkkjasProg.lean LOADS. Nothing in Lean hashes anything: it is a label: what it is worth is what the hold of that sum in a sandbox is worth. -/
noncomputable def Try.pinned : Pinned := { name := "ythkhaemlcmkkjas", sum := "65ea58d5798287620da3d791613a4315dc7bee9333555aedd70e25b499bd2c74", checked := Try.checked }
namespace Rows
def none {H : Type} : Left H := { results := [], args := [] }

/-- 'laws.FnCostBack': WHATEVER THE INPUT: true; the input reads as it did. -/
def fnCostBackSpec : ChangeSpec := { name := "fnCostBack", fn := fun _ => fun
  | [d] => { results := [.lit (.bool true)], args := [d] }
  | _ => none }
def fnCostBackRow : OpenClaim := { program := "ythkhaemlcmkkjas", sum := "65ea58d5798287620da3d791613a4315dc7bee9333555aedd70e25b499bd2c74", func := "loop.example/drydock/laws.FnCostBack", spec := "fnCostBack", unfollowed := true, recurses := true, apart := false }
def FnCostBackSaid : Prop := fnCostBackRow.holds Try.pinned (OpenSpec.ofChange fnCostBackSpec)

/-- ITS FALSE NEIGHBOUR: 'it returns false'. Refute it at one input. -/
def fnCostBackWrong : ChangeSpec := { name := "fnCostBack", fn := fun _ => fun
  | [d] => { results := [.lit (.bool false)], args := [d] }
  | _ => none }
def FnCostBackWrongFalsely : Prop := fnCostBackRow.holds Try.pinned (OpenSpec.ofChange fnCostBackWrong)

/-- 'laws.FnExactCnfOk': WHATEVER THE INPUT: true; the input reads as it did. -/
def fnExactCnfOkSpec : ChangeSpec := { name := "fnExactCnfOk", fn := fun _ => fun
  | [d] => { results := [.lit (.bool true)], args := [d] }
  | _ => none }
def fnExactCnfOkRow : OpenClaim := { program := "ythkhaemlcmkkjas", sum := "65ea58d5798287620da3d791613a4315dc7bee9333555aedd70e25b499bd2c74", func := "loop.example/drydock/laws.FnExactCnfOk", spec := "fnExactCnfOk", unfollowed := true, recurses := true, apart := false }
def FnExactCnfOkSaid : Prop := fnExactCnfOkRow.holds Try.pinned (OpenSpec.ofChange fnExactCnfOkSpec)

/-- ITS FALSE NEIGHBOUR: 'it returns false'. Refute it at one input. -/
def fnExactCnfOkWrong : ChangeSpec := { name := "fnExactCnfOk", fn := fun _ => fun
  | [d] => { results := [.lit (.bool false)], args := [d] }
  | _ => none }
def FnExactCnfOkWrongFalsely : Prop := fnExactCnfOkRow.holds Try.pinned (OpenSpec.ofChange fnExactCnfOkWrong)

/-- 'laws.FnExactCnfTrue': WHATEVER THE INPUT: true; the input reads as it did. -/
def fnExactCnfTrueSpec : ChangeSpec := { name := "fnExactCnfTrue", fn := fun _ => fun
  | [d1, d2] => { results := [.lit (.bool true)], args := [d1, d2] }
  | _ => none }
def fnExactCnfTrueRow : OpenClaim := { program := "ythkhaemlcmkkjas", sum := "65ea58d5798287620da3d791613a4315dc7bee9333555aedd70e25b499bd2c74", func := "loop.example/drydock/laws.FnExactCnfTrue", spec := "fnExactCnfTrue", unfollowed := true, recurses := true, apart := false }
def FnExactCnfTrueSaid : Prop := fnExactCnfTrueRow.holds Try.pinned (OpenSpec.ofChange fnExactCnfTrueSpec)

/-- ITS FALSE NEIGHBOUR: 'it returns false'. Refute it at one input. -/
def fnExactCnfTrueWrong : ChangeSpec := { name := "fnExactCnfTrue", fn := fun _ => fun
  | [d1, d2] => { results := [.lit (.bool false)], args := [d1, d2] }
  | _ => none }
def FnExactCnfTrueWrongFalsely : Prop := fnExactCnfTrueRow.holds Try.pinned (OpenSpec.ofChange fnExactCnfTrueWrong)

/-- 'laws.FnExactCnfUnits': WHATEVER THE INPUT: true; the input reads as it did. -/
def fnExactCnfUnitsSpec : ChangeSpec := { name := "fnExactCnfUnits", fn := fun _ => fun
  | [d1, d2] => { results := [.lit (.bool true)], args := [d1, d2] }
  | _ => none }
def fnExactCnfUnitsRow : OpenClaim := { program := "ythkhaemlcmkkjas", sum := "65ea58d5798287620da3d791613a4315dc7bee9333555aedd70e25b499bd2c74", func := "loop.example/drydock/laws.FnExactCnfUnits", spec := "fnExactCnfUnits", unfollowed := true, recurses := true, apart := false }
def FnExactCnfUnitsSaid : Prop := fnExactCnfUnitsRow.holds Try.pinned (OpenSpec.ofChange fnExactCnfUnitsSpec)

/-- ITS FALSE NEIGHBOUR: 'it returns false'. Refute it at one input. -/
def fnExactCnfUnitsWrong : ChangeSpec := { name := "fnExactCnfUnits", fn := fun _ => fun
  | [d1, d2] => { results := [.lit (.bool false)], args := [d1, d2] }
  | _ => none }
def FnExactCnfUnitsWrongFalsely : Prop := fnExactCnfUnitsRow.holds Try.pinned (OpenSpec.ofChange fnExactCnfUnitsWrong)

/- THE SECOND FORM. 'bulk': how many values and letters a reading holds, each counted each time it is reached (what is shared counts as often as it is met; a slice's spare places count too). A statement '..UptoSaid' is the law's where the arguments, and the package variables that the reading takes, are together of bulk at most 1048576: NARROWER than '..Said'. Prove '..Said' where nothing that the law and all that it calls make is longer than what came in: it says more and counts as full. Else prove '..UptoSaid'. A law counts once. -/
mutual
def uptoBulk {H : Type} : DataW H → Nat
  | .lit (.string bytes) => bytes.length + 1
  | .lit _ => 1
  | .nil => 1
  | .ptr d => uptoBulk d + 1
  | .slice elems spare => uptoBulkAll elems + uptoBulkAll spare + 1
  | .agg parts => uptoBulkAll parts + 1
  | .iface _ d => uptoBulk d + 1
  | .map entries => uptoBulkEntries entries + 1
  | .held _ => 1
def uptoBulkAll {H : Type} : List (DataW H) → Nat
  | [] => 0
  | d :: r => uptoBulk d + uptoBulkAll r
def uptoBulkEntries {H : Type} : List (Lit × DataW H) → Nat
  | [] => 0
  | x :: r => uptoBulkEntry x + uptoBulkEntries r
def uptoBulkEntry {H : Type} : Lit × DataW H → Nat
  | (.string bytes, d) => bytes.length + uptoBulk d + 1
  | (_, d) => uptoBulk d + 1
 end
def uptoSmall : (H : Type) → List (DataW H) → Bool := fun _ ds => decide (uptoBulkAll ds ≤ 1048576)
def OpenSpec.upto (s : _root_.Go.ChangeSpec) : _root_.Go.OpenSpec := { _root_.Go.OpenSpec.ofChange s with cond := some uptoSmall }

/-- 'laws.FnCostBack', WHERE WHAT IT READS IS OF BULK AT MOST 1048576: true; the input reads as it did. -/
def fnCostBackUptoRow : OpenClaim := { program := "ythkhaemlcmkkjas", sum := "65ea58d5798287620da3d791613a4315dc7bee9333555aedd70e25b499bd2c74", func := "loop.example/drydock/laws.FnCostBack", spec := "fnCostBack", unfollowed := true, recurses := true, apart := false, narrowed := true }
def FnCostBackUptoSaid : Prop := fnCostBackUptoRow.holds Try.pinned (OpenSpec.upto fnCostBackSpec)

/-- 'laws.FnExactCnfOk', WHERE WHAT IT READS IS OF BULK AT MOST 1048576: true; the input reads as it did. -/
def fnExactCnfOkUptoRow : OpenClaim := { program := "ythkhaemlcmkkjas", sum := "65ea58d5798287620da3d791613a4315dc7bee9333555aedd70e25b499bd2c74", func := "loop.example/drydock/laws.FnExactCnfOk", spec := "fnExactCnfOk", unfollowed := true, recurses := true, apart := false, narrowed := true }
def FnExactCnfOkUptoSaid : Prop := fnExactCnfOkUptoRow.holds Try.pinned (OpenSpec.upto fnExactCnfOkSpec)

/-- 'laws.FnExactCnfTrue', WHERE WHAT IT READS IS OF BULK AT MOST 1048576: true; the input reads as it did. -/
def fnExactCnfTrueUptoRow : OpenClaim := { program := "ythkhaemlcmkkjas", sum := "65ea58d5798287620da3d791613a4315dc7bee9333555aedd70e25b499bd2c74", func := "loop.example/drydock/laws.FnExactCnfTrue", spec := "fnExactCnfTrue", unfollowed := true, recurses := true, apart := false, narrowed := true }
def FnExactCnfTrueUptoSaid : Prop := fnExactCnfTrueUptoRow.holds Try.pinned (OpenSpec.upto fnExactCnfTrueSpec)

/-- 'laws.FnExactCnfUnits', WHERE WHAT IT READS IS OF BULK AT MOST 1048576: true; the input reads as it did. -/
def fnExactCnfUnitsUptoRow : OpenClaim := { program := "ythkhaemlcmkkjas", sum := "65ea58d5798287620da3d791613a4315dc7bee9333555aedd70e25b499bd2c74", func := "loop.example/drydock/laws.FnExactCnfUnits", spec := "fnExactCnfUnits", unfollowed := true, recurses := true, apart := false, narrowed := true }
def FnExactCnfUnitsUptoSaid : Prop := fnExactCnfUnitsUptoRow.holds Try.pinned (OpenSpec.upto fnExactCnfUnitsSpec)

end Rows
end Go.Proofs.Ythkhaemlcmkkjas
