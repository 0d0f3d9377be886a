/-
  No cell of these rows narrows 'for every input' (looked for: loops, veiled, ifaces, maps, wideKeys, modest, calm, conditions, laid).
  DERIVED. THE GIVEN ROWS OF THIS SEAT. 6 by the template 'for every input the law returns true; each argument reads behind the call as it read before'; 0 by the template 'total and deterministic' (their statements: YthkhaemlcmkkjagTotals.lean).
  GIVEN WITH THE SEED: the statements are not yours to turn. If you find one false, say at which input.
  Laid BY PROGRAM, IN A SANDBOX (cutbox-rows.mjs): the forced cells as the released guide's own fill.sh prints them over the translation 62fcde4361888ea6… (all of the seat's roots in one cut). By AI agents, Wed Nov 11 2026. No macro, syntax, notation, axiom, sorry.
-/
import Derived.Test.YthkhaemlcmkkjagChecked
import GoSem.Claim
import GoSem.ClaimJoined
import GoSem.ClaimMapViews
import Derived.JoinedTies
import Derived.KernelRfl
namespace Go.Proofs.Ythkhaemlcmkkjag
/- THE CELL 'sum', in the pinned program and in every row, IS THE sha256 OF THE DUMP (.gsa) THAT YthkhaemlcmkkjagProg.lean LOADS. Nothing in Lean hashes anything: it is a label: what it is worth is what the hold of that sum in a sandbox is worth. -/
noncomputable def Try.pinned : Pinned := { name := "ythkhaemlcmkkjag", sum := "62fcde4361888ea674168a860c5369cf761dad91e6135d4ad5723ee1d4aff544", checked := Try.checked }
namespace Rows
def none {H : Type} : Left H := { results := [], args := [] }

/-- 'laws.FnCnfTwice': WHATEVER THE INPUT: true; the input reads as it did. -/
def fnCnfTwiceSpec : ChangeSpec := { name := "fnCnfTwice", fn := fun _ => fun
  | [d] => { results := [.lit (.bool true)], args := [d] }
  | _ => none }
def fnCnfTwiceRow : OpenClaim := { program := "ythkhaemlcmkkjag", sum := "62fcde4361888ea674168a860c5369cf761dad91e6135d4ad5723ee1d4aff544", func := "loop.example/drydock/laws.FnCnfTwice", spec := "fnCnfTwice", unfollowed := true, recurses := true, apart := false }
def FnCnfTwiceSaid : Prop := fnCnfTwiceRow.holds Try.pinned (OpenSpec.ofChange fnCnfTwiceSpec)

/-- ITS FALSE NEIGHBOUR: 'it returns false'. Refute it at one input. -/
def fnCnfTwiceWrong : ChangeSpec := { name := "fnCnfTwice", fn := fun _ => fun
  | [d] => { results := [.lit (.bool false)], args := [d] }
  | _ => none }
def FnCnfTwiceWrongFalsely : Prop := fnCnfTwiceRow.holds Try.pinned (OpenSpec.ofChange fnCnfTwiceWrong)

/-- 'laws.FnCnfNo': WHATEVER THE INPUT: true; the input reads as it did. -/
def fnCnfNoSpec : ChangeSpec := { name := "fnCnfNo", fn := fun _ => fun
  | [d] => { results := [.lit (.bool true)], args := [d] }
  | _ => none }
def fnCnfNoRow : OpenClaim := { program := "ythkhaemlcmkkjag", sum := "62fcde4361888ea674168a860c5369cf761dad91e6135d4ad5723ee1d4aff544", func := "loop.example/drydock/laws.FnCnfNo", spec := "fnCnfNo", unfollowed := true, recurses := true, apart := false }
def FnCnfNoSaid : Prop := fnCnfNoRow.holds Try.pinned (OpenSpec.ofChange fnCnfNoSpec)

/-- ITS FALSE NEIGHBOUR: 'it returns false'. Refute it at one input. -/
def fnCnfNoWrong : ChangeSpec := { name := "fnCnfNo", fn := fun _ => fun
  | [d] => { results := [.lit (.bool false)], args := [d] }
  | _ => none }
def FnCnfNoWrongFalsely : Prop := fnCnfNoRow.holds Try.pinned (OpenSpec.ofChange fnCnfNoWrong)

/-- 'laws.FnCnfMore': WHATEVER THE INPUT: true; the input reads as it did. -/
def fnCnfMoreSpec : ChangeSpec := { name := "fnCnfMore", fn := fun _ => fun
  | [d] => { results := [.lit (.bool true)], args := [d] }
  | _ => none }
def fnCnfMoreRow : OpenClaim := { program := "ythkhaemlcmkkjag", sum := "62fcde4361888ea674168a860c5369cf761dad91e6135d4ad5723ee1d4aff544", func := "loop.example/drydock/laws.FnCnfMore", spec := "fnCnfMore", unfollowed := true, recurses := true, apart := false }
def FnCnfMoreSaid : Prop := fnCnfMoreRow.holds Try.pinned (OpenSpec.ofChange fnCnfMoreSpec)

/-- ITS FALSE NEIGHBOUR: 'it returns false'. Refute it at one input. -/
def fnCnfMoreWrong : ChangeSpec := { name := "fnCnfMore", fn := fun _ => fun
  | [d] => { results := [.lit (.bool false)], args := [d] }
  | _ => none }
def FnCnfMoreWrongFalsely : Prop := fnCnfMoreRow.holds Try.pinned (OpenSpec.ofChange fnCnfMoreWrong)

/-- 'laws.FnCnfTurn': WHATEVER THE INPUT: true; the input reads as it did. -/
def fnCnfTurnSpec : ChangeSpec := { name := "fnCnfTurn", fn := fun _ => fun
  | [d] => { results := [.lit (.bool true)], args := [d] }
  | _ => none }
def fnCnfTurnRow : OpenClaim := { program := "ythkhaemlcmkkjag", sum := "62fcde4361888ea674168a860c5369cf761dad91e6135d4ad5723ee1d4aff544", func := "loop.example/drydock/laws.FnCnfTurn", spec := "fnCnfTurn", unfollowed := true, recurses := true, apart := false }
def FnCnfTurnSaid : Prop := fnCnfTurnRow.holds Try.pinned (OpenSpec.ofChange fnCnfTurnSpec)

/-- ITS FALSE NEIGHBOUR: 'it returns false'. Refute it at one input. -/
def fnCnfTurnWrong : ChangeSpec := { name := "fnCnfTurn", fn := fun _ => fun
  | [d] => { results := [.lit (.bool false)], args := [d] }
  | _ => none }
def FnCnfTurnWrongFalsely : Prop := fnCnfTurnRow.holds Try.pinned (OpenSpec.ofChange fnCnfTurnWrong)

/-- 'laws.FnCnfNull': WHATEVER THE INPUT: true; the input reads as it did. -/
def fnCnfNullSpec : ChangeSpec := { name := "fnCnfNull", fn := fun _ => fun
  | [d] => { results := [.lit (.bool true)], args := [d] }
  | _ => none }
def fnCnfNullRow : OpenClaim := { program := "ythkhaemlcmkkjag", sum := "62fcde4361888ea674168a860c5369cf761dad91e6135d4ad5723ee1d4aff544", func := "loop.example/drydock/laws.FnCnfNull", spec := "fnCnfNull", unfollowed := true, recurses := true, apart := false }
def FnCnfNullSaid : Prop := fnCnfNullRow.holds Try.pinned (OpenSpec.ofChange fnCnfNullSpec)

/-- ITS FALSE NEIGHBOUR: 'it returns false'. Refute it at one input. -/
def fnCnfNullWrong : ChangeSpec := { name := "fnCnfNull", fn := fun _ => fun
  | [d] => { results := [.lit (.bool false)], args := [d] }
  | _ => none }
def FnCnfNullWrongFalsely : Prop := fnCnfNullRow.holds Try.pinned (OpenSpec.ofChange fnCnfNullWrong)

/-- 'laws.FnSatYes': WHATEVER THE INPUT: true; the input reads as it did. -/
def fnSatYesSpec : ChangeSpec := { name := "fnSatYes", fn := fun _ => fun
  | [d] => { results := [.lit (.bool true)], args := [d] }
  | _ => none }
def fnSatYesRow : OpenClaim := { program := "ythkhaemlcmkkjag", sum := "62fcde4361888ea674168a860c5369cf761dad91e6135d4ad5723ee1d4aff544", func := "loop.example/drydock/laws.FnSatYes", spec := "fnSatYes", unfollowed := true, recurses := true, apart := false }
def FnSatYesSaid : Prop := fnSatYesRow.holds Try.pinned (OpenSpec.ofChange fnSatYesSpec)

/-- ITS FALSE NEIGHBOUR: 'it returns false'. Refute it at one input. -/
def fnSatYesWrong : ChangeSpec := { name := "fnSatYes", fn := fun _ => fun
  | [d] => { results := [.lit (.bool false)], args := [d] }
  | _ => none }
def FnSatYesWrongFalsely : Prop := fnSatYesRow.holds Try.pinned (OpenSpec.ofChange fnSatYesWrong)

/- THE SECOND FORM. 'bulk': how many values and letters a reading holds, each counted each time it is reached (what is shared counts as often as it is met; a slice's spare places count too). A statement '..UptoSaid' is the law's where the arguments, and the package variables that the reading takes, are together of bulk at most 1048576: NARROWER than '..Said'. Prove '..Said' where nothing that the law and all that it calls make is longer than what came in: it says more and counts as full. Else prove '..UptoSaid'. A law counts once. -/
mutual
def uptoBulk {H : Type} : DataW H → Nat
  | .lit (.string bytes) => bytes.length + 1
  | .lit _ => 1
  | .nil => 1
  | .ptr d => uptoBulk d + 1
  | .slice elems spare => uptoBulkAll elems + uptoBulkAll spare + 1
  | .agg parts => uptoBulkAll parts + 1
  | .iface _ d => uptoBulk d + 1
  | .map entries => uptoBulkEntries entries + 1
  | .held _ => 1
def uptoBulkAll {H : Type} : List (DataW H) → Nat
  | [] => 0
  | d :: r => uptoBulk d + uptoBulkAll r
def uptoBulkEntries {H : Type} : List (Lit × DataW H) → Nat
  | [] => 0
  | x :: r => uptoBulkEntry x + uptoBulkEntries r
def uptoBulkEntry {H : Type} : Lit × DataW H → Nat
  | (.string bytes, d) => bytes.length + uptoBulk d + 1
  | (_, d) => uptoBulk d + 1
 end
def uptoSmall : (H : Type) → List (DataW H) → Bool := fun _ ds => decide (uptoBulkAll ds ≤ 1048576)
def OpenSpec.upto (s : _root_.Go.ChangeSpec) : _root_.Go.OpenSpec := { _root_.Go.OpenSpec.ofChange s with cond := some uptoSmall }

/-- 'laws.FnCnfTwice', WHERE WHAT IT READS IS OF BULK AT MOST 1048576: true; the input reads as it did. -/
def fnCnfTwiceUptoRow : OpenClaim := { program := "ythkhaemlcmkkjag", sum := "62fcde4361888ea674168a860c5369cf761dad91e6135d4ad5723ee1d4aff544", func := "loop.example/drydock/laws.FnCnfTwice", spec := "fnCnfTwice", unfollowed := true, recurses := true, apart := false, narrowed := true }
def FnCnfTwiceUptoSaid : Prop := fnCnfTwiceUptoRow.holds Try.pinned (OpenSpec.upto fnCnfTwiceSpec)

/-- 'laws.FnCnfNo', WHERE WHAT IT READS IS OF BULK AT MOST 1048576: true; the input reads as it did. -/
def fnCnfNoUptoRow : OpenClaim := { program := "ythkhaemlcmkkjag", sum := "62fcde4361888ea674168a860c5369cf761dad91e6135d4ad5723ee1d4aff544", func := "loop.example/drydock/laws.FnCnfNo", spec := "fnCnfNo", unfollowed := true, recurses := true, apart := false, narrowed := true }
def FnCnfNoUptoSaid : Prop := fnCnfNoUptoRow.holds Try.pinned (OpenSpec.upto fnCnfNoSpec)

/-- 'laws.FnCnfMore', WHERE WHAT IT READS IS OF BULK AT MOST 1048576: true; the input reads as it did. -/
def fnCnfMoreUptoRow : OpenClaim := { program := "ythkhaemlcmkkjag", sum := "62fcde4361888ea674168a860c5369cf761dad91e6135d4ad5723ee1d4aff544", func := "loop.example/drydock/laws.FnCnfMore", spec := "fnCnfMore", unfollowed := true, recurses := true, apart := false, narrowed := true }
def FnCnfMoreUptoSaid : Prop := fnCnfMoreUptoRow.holds Try.pinned (OpenSpec.upto fnCnfMoreSpec)

/-- 'laws.FnCnfTurn', WHERE WHAT IT READS IS OF BULK AT MOST 1048576: true; the input reads as it did. -/
def fnCnfTurnUptoRow : OpenClaim := { program := "ythkhaemlcmkkjag", sum := "62fcde4361888ea674168a860c5369cf761dad91e6135d4ad5723ee1d4aff544", func := "loop.example/drydock/laws.FnCnfTurn", spec := "fnCnfTurn", unfollowed := true, recurses := true, apart := false, narrowed := true }
def FnCnfTurnUptoSaid : Prop := fnCnfTurnUptoRow.holds Try.pinned (OpenSpec.upto fnCnfTurnSpec)

/-- 'laws.FnCnfNull', WHERE WHAT IT READS IS OF BULK AT MOST 1048576: true; the input reads as it did. -/
def fnCnfNullUptoRow : OpenClaim := { program := "ythkhaemlcmkkjag", sum := "62fcde4361888ea674168a860c5369cf761dad91e6135d4ad5723ee1d4aff544", func := "loop.example/drydock/laws.FnCnfNull", spec := "fnCnfNull", unfollowed := true, recurses := true, apart := false, narrowed := true }
def FnCnfNullUptoSaid : Prop := fnCnfNullUptoRow.holds Try.pinned (OpenSpec.upto fnCnfNullSpec)

/-- 'laws.FnSatYes', WHERE WHAT IT READS IS OF BULK AT MOST 1048576: true; the input reads as it did. -/
def fnSatYesUptoRow : OpenClaim := { program := "ythkhaemlcmkkjag", sum := "62fcde4361888ea674168a860c5369cf761dad91e6135d4ad5723ee1d4aff544", func := "loop.example/drydock/laws.FnSatYes", spec := "fnSatYes", unfollowed := true, recurses := true, apart := false, narrowed := true }
def FnSatYesUptoSaid : Prop := fnSatYesUptoRow.holds Try.pinned (OpenSpec.upto fnSatYesSpec)

end Rows
end Go.Proofs.Ythkhaemlcmkkjag
