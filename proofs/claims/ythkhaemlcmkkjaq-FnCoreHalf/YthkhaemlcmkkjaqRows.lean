/-
  No cell of these rows narrows 'for every input' (looked for: loops, veiled, ifaces, maps, wideKeys, modest, calm, conditions, laid).
  DERIVED. THE GIVEN ROWS OF THIS SEAT. 6 by the template 'for every input the law returns true; each argument reads behind the call as it read before'; 0 by the template 'total and deterministic' (their statements: YthkhaemlcmkkjaqTotals.lean).
  GIVEN WITH THE SEED: the statements are not yours to turn. If you find one false, say at which input.
  Laid BY PROGRAM, IN A SANDBOX (cutbox-rows.mjs): the forced cells as the released guide's own fill.sh prints them over the translation cc1e571b9005dc87… (all of the seat's roots in one cut). By AI agents, Wed Nov 11 2026. No macro, syntax, notation, axiom, sorry.
-/
import Derived.Test.YthkhaemlcmkkjaqChecked
import GoSem.Claim
import GoSem.ClaimJoined
import GoSem.ClaimMapViews
import Derived.JoinedTies
import Derived.KernelRfl
namespace Go.Proofs.Ythkhaemlcmkkjaq
/- THE CELL 'sum', in the pinned program and in every row, IS THE sha256 OF THE DUMP (.gsa) THAT YthkhaemlcmkkjaqProg.lean LOADS. Nothing in Lean hashes anything: it is a label: what it is worth is what the hold of that sum in a sandbox is worth. -/
noncomputable def Try.pinned : Pinned := { name := "ythkhaemlcmkkjaq", sum := "cc1e571b9005dc876c83fdd6202aa8bd28b8508059879334c06762033947d538", checked := Try.checked }
namespace Rows
def none {H : Type} : Left H := { results := [], args := [] }

/-- 'laws.FnCoreCount': WHATEVER THE INPUT: true; the input reads as it did. -/
def fnCoreCountSpec : ChangeSpec := { name := "fnCoreCount", fn := fun _ => fun
  | [d] => { results := [.lit (.bool true)], args := [d] }
  | _ => none }
def fnCoreCountRow : OpenClaim := { program := "ythkhaemlcmkkjaq", sum := "cc1e571b9005dc876c83fdd6202aa8bd28b8508059879334c06762033947d538", func := "loop.example/drydock/laws.FnCoreCount", spec := "fnCoreCount", unfollowed := true, recurses := true, apart := false }
def FnCoreCountSaid : Prop := fnCoreCountRow.holds Try.pinned (OpenSpec.ofChange fnCoreCountSpec)

/-- ITS FALSE NEIGHBOUR: 'it returns false'. Refute it at one input. -/
def fnCoreCountWrong : ChangeSpec := { name := "fnCoreCount", fn := fun _ => fun
  | [d] => { results := [.lit (.bool false)], args := [d] }
  | _ => none }
def FnCoreCountWrongFalsely : Prop := fnCoreCountRow.holds Try.pinned (OpenSpec.ofChange fnCoreCountWrong)

/-- 'laws.FnCoreHalf': WHATEVER THE INPUT: true; the input reads as it did. -/
def fnCoreHalfSpec : ChangeSpec := { name := "fnCoreHalf", fn := fun _ => fun
  | [d1, d2] => { results := [.lit (.bool true)], args := [d1, d2] }
  | _ => none }
def fnCoreHalfRow : OpenClaim := { program := "ythkhaemlcmkkjaq", sum := "cc1e571b9005dc876c83fdd6202aa8bd28b8508059879334c06762033947d538", func := "loop.example/drydock/laws.FnCoreHalf", spec := "fnCoreHalf", unfollowed := true, recurses := true, apart := false }
def FnCoreHalfSaid : Prop := fnCoreHalfRow.holds Try.pinned (OpenSpec.ofChange fnCoreHalfSpec)

/-- ITS FALSE NEIGHBOUR: 'it returns false'. Refute it at one input. -/
def fnCoreHalfWrong : ChangeSpec := { name := "fnCoreHalf", fn := fun _ => fun
  | [d1, d2] => { results := [.lit (.bool false)], args := [d1, d2] }
  | _ => none }
def FnCoreHalfWrongFalsely : Prop := fnCoreHalfRow.holds Try.pinned (OpenSpec.ofChange fnCoreHalfWrong)

/-- 'laws.FnCoreLess': WHATEVER THE INPUT: true; the input reads as it did. -/
def fnCoreLessSpec : ChangeSpec := { name := "fnCoreLess", fn := fun _ => fun
  | [d1, d2] => { results := [.lit (.bool true)], args := [d1, d2] }
  | _ => none }
def fnCoreLessRow : OpenClaim := { program := "ythkhaemlcmkkjaq", sum := "cc1e571b9005dc876c83fdd6202aa8bd28b8508059879334c06762033947d538", func := "loop.example/drydock/laws.FnCoreLess", spec := "fnCoreLess", unfollowed := true, recurses := true, apart := false }
def FnCoreLessSaid : Prop := fnCoreLessRow.holds Try.pinned (OpenSpec.ofChange fnCoreLessSpec)

/-- ITS FALSE NEIGHBOUR: 'it returns false'. Refute it at one input. -/
def fnCoreLessWrong : ChangeSpec := { name := "fnCoreLess", fn := fun _ => fun
  | [d1, d2] => { results := [.lit (.bool false)], args := [d1, d2] }
  | _ => none }
def FnCoreLessWrongFalsely : Prop := fnCoreLessRow.holds Try.pinned (OpenSpec.ofChange fnCoreLessWrong)

/-- 'laws.FnCoreFixed': WHATEVER THE INPUT: true; the input reads as it did. -/
def fnCoreFixedSpec : ChangeSpec := { name := "fnCoreFixed", fn := fun _ => fun
  | [d] => { results := [.lit (.bool true)], args := [d] }
  | _ => none }
def fnCoreFixedRow : OpenClaim := { program := "ythkhaemlcmkkjaq", sum := "cc1e571b9005dc876c83fdd6202aa8bd28b8508059879334c06762033947d538", func := "loop.example/drydock/laws.FnCoreFixed", spec := "fnCoreFixed", unfollowed := true, recurses := true, apart := false }
def FnCoreFixedSaid : Prop := fnCoreFixedRow.holds Try.pinned (OpenSpec.ofChange fnCoreFixedSpec)

/-- ITS FALSE NEIGHBOUR: 'it returns false'. Refute it at one input. -/
def fnCoreFixedWrong : ChangeSpec := { name := "fnCoreFixed", fn := fun _ => fun
  | [d] => { results := [.lit (.bool false)], args := [d] }
  | _ => none }
def FnCoreFixedWrongFalsely : Prop := fnCoreFixedRow.holds Try.pinned (OpenSpec.ofChange fnCoreFixedWrong)

/-- 'laws.FnCoreFree': WHATEVER THE INPUT: true; the input reads as it did. -/
def fnCoreFreeSpec : ChangeSpec := { name := "fnCoreFree", fn := fun _ => fun
  | [d] => { results := [.lit (.bool true)], args := [d] }
  | _ => none }
def fnCoreFreeRow : OpenClaim := { program := "ythkhaemlcmkkjaq", sum := "cc1e571b9005dc876c83fdd6202aa8bd28b8508059879334c06762033947d538", func := "loop.example/drydock/laws.FnCoreFree", spec := "fnCoreFree", unfollowed := true, recurses := true, apart := false }
def FnCoreFreeSaid : Prop := fnCoreFreeRow.holds Try.pinned (OpenSpec.ofChange fnCoreFreeSpec)

/-- ITS FALSE NEIGHBOUR: 'it returns false'. Refute it at one input. -/
def fnCoreFreeWrong : ChangeSpec := { name := "fnCoreFree", fn := fun _ => fun
  | [d] => { results := [.lit (.bool false)], args := [d] }
  | _ => none }
def FnCoreFreeWrongFalsely : Prop := fnCoreFreeRow.holds Try.pinned (OpenSpec.ofChange fnCoreFreeWrong)

/-- 'laws.FnCoreUnits': WHATEVER THE INPUT: true; the input reads as it did. -/
def fnCoreUnitsSpec : ChangeSpec := { name := "fnCoreUnits", fn := fun _ => fun
  | [d] => { results := [.lit (.bool true)], args := [d] }
  | _ => none }
def fnCoreUnitsRow : OpenClaim := { program := "ythkhaemlcmkkjaq", sum := "cc1e571b9005dc876c83fdd6202aa8bd28b8508059879334c06762033947d538", func := "loop.example/drydock/laws.FnCoreUnits", spec := "fnCoreUnits", unfollowed := true, recurses := true, apart := false }
def FnCoreUnitsSaid : Prop := fnCoreUnitsRow.holds Try.pinned (OpenSpec.ofChange fnCoreUnitsSpec)

/-- ITS FALSE NEIGHBOUR: 'it returns false'. Refute it at one input. -/
def fnCoreUnitsWrong : ChangeSpec := { name := "fnCoreUnits", fn := fun _ => fun
  | [d] => { results := [.lit (.bool false)], args := [d] }
  | _ => none }
def FnCoreUnitsWrongFalsely : Prop := fnCoreUnitsRow.holds Try.pinned (OpenSpec.ofChange fnCoreUnitsWrong)

/- THE SECOND FORM. 'bulk': how many values and letters a reading holds, each counted each time it is reached (what is shared counts as often as it is met; a slice's spare places count too). A statement '..UptoSaid' is the law's where the arguments, and the package variables that the reading takes, are together of bulk at most 1048576: NARROWER than '..Said'. Prove '..Said' where nothing that the law and all that it calls make is longer than what came in: it says more and counts as full. Else prove '..UptoSaid'. A law counts once. -/
mutual
def uptoBulk {H : Type} : DataW H → Nat
  | .lit (.string bytes) => bytes.length + 1
  | .lit _ => 1
  | .nil => 1
  | .ptr d => uptoBulk d + 1
  | .slice elems spare => uptoBulkAll elems + uptoBulkAll spare + 1
  | .agg parts => uptoBulkAll parts + 1
  | .iface _ d => uptoBulk d + 1
  | .map entries => uptoBulkEntries entries + 1
  | .held _ => 1
def uptoBulkAll {H : Type} : List (DataW H) → Nat
  | [] => 0
  | d :: r => uptoBulk d + uptoBulkAll r
def uptoBulkEntries {H : Type} : List (Lit × DataW H) → Nat
  | [] => 0
  | x :: r => uptoBulkEntry x + uptoBulkEntries r
def uptoBulkEntry {H : Type} : Lit × DataW H → Nat
  | (.string bytes, d) => bytes.length + uptoBulk d + 1
  | (_, d) => uptoBulk d + 1
 end
def uptoSmall : (H : Type) → List (DataW H) → Bool := fun _ ds => decide (uptoBulkAll ds ≤ 1048576)
def OpenSpec.upto (s : _root_.Go.ChangeSpec) : _root_.Go.OpenSpec := { _root_.Go.OpenSpec.ofChange s with cond := some uptoSmall }

/-- 'laws.FnCoreCount', WHERE WHAT IT READS IS OF BULK AT MOST 1048576: true; the input reads as it did. -/
def fnCoreCountUptoRow : OpenClaim := { program := "ythkhaemlcmkkjaq", sum := "cc1e571b9005dc876c83fdd6202aa8bd28b8508059879334c06762033947d538", func := "loop.example/drydock/laws.FnCoreCount", spec := "fnCoreCount", unfollowed := true, recurses := true, apart := false, narrowed := true }
def FnCoreCountUptoSaid : Prop := fnCoreCountUptoRow.holds Try.pinned (OpenSpec.upto fnCoreCountSpec)

/-- 'laws.FnCoreHalf', WHERE WHAT IT READS IS OF BULK AT MOST 1048576: true; the input reads as it did. -/
def fnCoreHalfUptoRow : OpenClaim := { program := "ythkhaemlcmkkjaq", sum := "cc1e571b9005dc876c83fdd6202aa8bd28b8508059879334c06762033947d538", func := "loop.example/drydock/laws.FnCoreHalf", spec := "fnCoreHalf", unfollowed := true, recurses := true, apart := false, narrowed := true }
def FnCoreHalfUptoSaid : Prop := fnCoreHalfUptoRow.holds Try.pinned (OpenSpec.upto fnCoreHalfSpec)

/-- 'laws.FnCoreLess', WHERE WHAT IT READS IS OF BULK AT MOST 1048576: true; the input reads as it did. -/
def fnCoreLessUptoRow : OpenClaim := { program := "ythkhaemlcmkkjaq", sum := "cc1e571b9005dc876c83fdd6202aa8bd28b8508059879334c06762033947d538", func := "loop.example/drydock/laws.FnCoreLess", spec := "fnCoreLess", unfollowed := true, recurses := true, apart := false, narrowed := true }
def FnCoreLessUptoSaid : Prop := fnCoreLessUptoRow.holds Try.pinned (OpenSpec.upto fnCoreLessSpec)

/-- 'laws.FnCoreFixed', WHERE WHAT IT READS IS OF BULK AT MOST 1048576: true; the input reads as it did. -/
def fnCoreFixedUptoRow : OpenClaim := { program := "ythkhaemlcmkkjaq", sum := "cc1e571b9005dc876c83fdd6202aa8bd28b8508059879334c06762033947d538", func := "loop.example/drydock/laws.FnCoreFixed", spec := "fnCoreFixed", unfollowed := true, recurses := true, apart := false, narrowed := true }
def FnCoreFixedUptoSaid : Prop := fnCoreFixedUptoRow.holds Try.pinned (OpenSpec.upto fnCoreFixedSpec)

/-- 'laws.FnCoreFree', WHERE WHAT IT READS IS OF BULK AT MOST 1048576: true; the input reads as it did. -/
def fnCoreFreeUptoRow : OpenClaim := { program := "ythkhaemlcmkkjaq", sum := "cc1e571b9005dc876c83fdd6202aa8bd28b8508059879334c06762033947d538", func := "loop.example/drydock/laws.FnCoreFree", spec := "fnCoreFree", unfollowed := true, recurses := true, apart := false, narrowed := true }
def FnCoreFreeUptoSaid : Prop := fnCoreFreeUptoRow.holds Try.pinned (OpenSpec.upto fnCoreFreeSpec)

/-- 'laws.FnCoreUnits', WHERE WHAT IT READS IS OF BULK AT MOST 1048576: true; the input reads as it did. -/
def fnCoreUnitsUptoRow : OpenClaim := { program := "ythkhaemlcmkkjaq", sum := "cc1e571b9005dc876c83fdd6202aa8bd28b8508059879334c06762033947d538", func := "loop.example/drydock/laws.FnCoreUnits", spec := "fnCoreUnits", unfollowed := true, recurses := true, apart := false, narrowed := true }
def FnCoreUnitsUptoSaid : Prop := fnCoreUnitsUptoRow.holds Try.pinned (OpenSpec.upto fnCoreUnitsSpec)

end Rows
end Go.Proofs.Ythkhaemlcmkkjaq
