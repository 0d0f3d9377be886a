/-
  No cell of these rows narrows 'for every input' (looked for: loops, veiled, ifaces, maps, wideKeys, modest, calm, conditions, laid).
  DERIVED. THE GIVEN ROWS OF THIS SEAT. 4 by the template 'for every input the law returns true; each argument reads behind the call as it read before'; 0 by the template 'total and deterministic' (their statements: YtecipjdbfmldlawTotals.lean).
  GIVEN WITH THE SEED: the statements are not yours to turn. If you find one false, say at which input.
  Laid BY PROGRAM, IN A SANDBOX (cutbox-rows.mjs): the forced cells as the released guide's own fill.sh prints them over the translation 313a9bf69b58a3b1… (all of the seat's roots in one cut). By AI agents, Wed Nov 11 2026. No macro, syntax, notation, axiom, sorry.
-/
import Derived.Test.YtecipjdbfmldlawChecked
import GoSem.Claim
import GoSem.ClaimJoined
import GoSem.ClaimMapViews
import Derived.JoinedTies
import Derived.KernelRfl
namespace Go.Proofs.Ytecipjdbfmldlaw
/- THE CELL 'sum', in the pinned program and in every row, IS THE sha256 OF THE DUMP (.gsa) THAT YtecipjdbfmldlawProg.lean LOADS. Nothing in Lean hashes anything: it is a label: what it is worth is what the hold of that sum in a sandbox is worth. -/
noncomputable def Try.pinned : Pinned := { name := "ytecipjdbfmldlaw", sum := "313a9bf69b58a3b1abe0e586d8fe87597b21c7633e03986aee34dd1d9c3693b1", checked := Try.checked }
namespace Rows
def none {H : Type} : Left H := { results := [], args := [] }

/-- 'laws.FnExactStateSize': WHATEVER THE INPUT: true; the input reads as it did. -/
def fnExactStateSizeSpec : ChangeSpec := { name := "fnExactStateSize", fn := fun _ => fun
  | [d1, d2] => { results := [.lit (.bool true)], args := [d1, d2] }
  | _ => none }
def fnExactStateSizeRow : OpenClaim := { program := "ytecipjdbfmldlaw", sum := "313a9bf69b58a3b1abe0e586d8fe87597b21c7633e03986aee34dd1d9c3693b1", func := "loop.example/drydock/laws.FnExactStateSize", spec := "fnExactStateSize", unfollowed := true, recurses := true, apart := false }
def FnExactStateSizeSaid : Prop := fnExactStateSizeRow.holds Try.pinned (OpenSpec.ofChange fnExactStateSizeSpec)

/-- ITS FALSE NEIGHBOUR: 'it returns false'. Refute it at one input. -/
def fnExactStateSizeWrong : ChangeSpec := { name := "fnExactStateSize", fn := fun _ => fun
  | [d1, d2] => { results := [.lit (.bool false)], args := [d1, d2] }
  | _ => none }
def FnExactStateSizeWrongFalsely : Prop := fnExactStateSizeRow.holds Try.pinned (OpenSpec.ofChange fnExactStateSizeWrong)

/-- 'laws.FnExactStateOk': WHATEVER THE INPUT: true; the input reads as it did. -/
def fnExactStateOkSpec : ChangeSpec := { name := "fnExactStateOk", fn := fun _ => fun
  | [d1, d2] => { results := [.lit (.bool true)], args := [d1, d2] }
  | _ => none }
def fnExactStateOkRow : OpenClaim := { program := "ytecipjdbfmldlaw", sum := "313a9bf69b58a3b1abe0e586d8fe87597b21c7633e03986aee34dd1d9c3693b1", func := "loop.example/drydock/laws.FnExactStateOk", spec := "fnExactStateOk", unfollowed := true, recurses := true, apart := false }
def FnExactStateOkSaid : Prop := fnExactStateOkRow.holds Try.pinned (OpenSpec.ofChange fnExactStateOkSpec)

/-- ITS FALSE NEIGHBOUR: 'it returns false'. Refute it at one input. -/
def fnExactStateOkWrong : ChangeSpec := { name := "fnExactStateOk", fn := fun _ => fun
  | [d1, d2] => { results := [.lit (.bool false)], args := [d1, d2] }
  | _ => none }
def FnExactStateOkWrongFalsely : Prop := fnExactStateOkRow.holds Try.pinned (OpenSpec.ofChange fnExactStateOkWrong)

/-- 'laws.FnExactStateList': WHATEVER THE INPUT: true; the input reads as it did. -/
def fnExactStateListSpec : ChangeSpec := { name := "fnExactStateList", fn := fun _ => fun
  | [d] => { results := [.lit (.bool true)], args := [d] }
  | _ => none }
def fnExactStateListRow : OpenClaim := { program := "ytecipjdbfmldlaw", sum := "313a9bf69b58a3b1abe0e586d8fe87597b21c7633e03986aee34dd1d9c3693b1", func := "loop.example/drydock/laws.FnExactStateList", spec := "fnExactStateList", unfollowed := true, recurses := true, apart := false }
def FnExactStateListSaid : Prop := fnExactStateListRow.holds Try.pinned (OpenSpec.ofChange fnExactStateListSpec)

/-- ITS FALSE NEIGHBOUR: 'it returns false'. Refute it at one input. -/
def fnExactStateListWrong : ChangeSpec := { name := "fnExactStateList", fn := fun _ => fun
  | [d] => { results := [.lit (.bool false)], args := [d] }
  | _ => none }
def FnExactStateListWrongFalsely : Prop := fnExactStateListRow.holds Try.pinned (OpenSpec.ofChange fnExactStateListWrong)

/-- 'laws.FnExactDockWrite': WHATEVER THE INPUT: true; the input reads as it did. -/
def fnExactDockWriteSpec : ChangeSpec := { name := "fnExactDockWrite", fn := fun _ => fun
  | [d1, d2] => { results := [.lit (.bool true)], args := [d1, d2] }
  | _ => none }
def fnExactDockWriteRow : OpenClaim := { program := "ytecipjdbfmldlaw", sum := "313a9bf69b58a3b1abe0e586d8fe87597b21c7633e03986aee34dd1d9c3693b1", func := "loop.example/drydock/laws.FnExactDockWrite", spec := "fnExactDockWrite", recurses := true, apart := false }
def FnExactDockWriteSaid : Prop := fnExactDockWriteRow.holds Try.pinned (OpenSpec.ofChange fnExactDockWriteSpec)

/-- ITS FALSE NEIGHBOUR: 'it returns false'. Refute it at one input. -/
def fnExactDockWriteWrong : ChangeSpec := { name := "fnExactDockWrite", fn := fun _ => fun
  | [d1, d2] => { results := [.lit (.bool false)], args := [d1, d2] }
  | _ => none }
def FnExactDockWriteWrongFalsely : Prop := fnExactDockWriteRow.holds Try.pinned (OpenSpec.ofChange fnExactDockWriteWrong)

/- THE SECOND FORM. 'bulk': how many values and letters a reading holds, each counted each time it is reached (what is shared counts as often as it is met; a slice's spare places count too). A statement '..UptoSaid' is the law's where the arguments, and the package variables that the reading takes, are together of bulk at most 1048576: NARROWER than '..Said'. Prove '..Said' where nothing that the law and all that it calls make is longer than what came in: it says more and counts as full. Else prove '..UptoSaid'. A law counts once. -/
mutual
def uptoBulk {H : Type} : DataW H → Nat
  | .lit (.string bytes) => bytes.length + 1
  | .lit _ => 1
  | .nil => 1
  | .ptr d => uptoBulk d + 1
  | .slice elems spare => uptoBulkAll elems + uptoBulkAll spare + 1
  | .agg parts => uptoBulkAll parts + 1
  | .iface _ d => uptoBulk d + 1
  | .map entries => uptoBulkEntries entries + 1
  | .held _ => 1
def uptoBulkAll {H : Type} : List (DataW H) → Nat
  | [] => 0
  | d :: r => uptoBulk d + uptoBulkAll r
def uptoBulkEntries {H : Type} : List (Lit × DataW H) → Nat
  | [] => 0
  | x :: r => uptoBulkEntry x + uptoBulkEntries r
def uptoBulkEntry {H : Type} : Lit × DataW H → Nat
  | (.string bytes, d) => bytes.length + uptoBulk d + 1
  | (_, d) => uptoBulk d + 1
 end
def uptoSmall : (H : Type) → List (DataW H) → Bool := fun _ ds => decide (uptoBulkAll ds ≤ 1048576)
def OpenSpec.upto (s : _root_.Go.ChangeSpec) : _root_.Go.OpenSpec := { _root_.Go.OpenSpec.ofChange s with cond := some uptoSmall }

/-- 'laws.FnExactStateSize', WHERE WHAT IT READS IS OF BULK AT MOST 1048576: true; the input reads as it did. -/
def fnExactStateSizeUptoRow : OpenClaim := { program := "ytecipjdbfmldlaw", sum := "313a9bf69b58a3b1abe0e586d8fe87597b21c7633e03986aee34dd1d9c3693b1", func := "loop.example/drydock/laws.FnExactStateSize", spec := "fnExactStateSize", unfollowed := true, recurses := true, apart := false, narrowed := true }
def FnExactStateSizeUptoSaid : Prop := fnExactStateSizeUptoRow.holds Try.pinned (OpenSpec.upto fnExactStateSizeSpec)

/-- 'laws.FnExactStateOk', WHERE WHAT IT READS IS OF BULK AT MOST 1048576: true; the input reads as it did. -/
def fnExactStateOkUptoRow : OpenClaim := { program := "ytecipjdbfmldlaw", sum := "313a9bf69b58a3b1abe0e586d8fe87597b21c7633e03986aee34dd1d9c3693b1", func := "loop.example/drydock/laws.FnExactStateOk", spec := "fnExactStateOk", unfollowed := true, recurses := true, apart := false, narrowed := true }
def FnExactStateOkUptoSaid : Prop := fnExactStateOkUptoRow.holds Try.pinned (OpenSpec.upto fnExactStateOkSpec)

/-- 'laws.FnExactStateList', WHERE WHAT IT READS IS OF BULK AT MOST 1048576: true; the input reads as it did. -/
def fnExactStateListUptoRow : OpenClaim := { program := "ytecipjdbfmldlaw", sum := "313a9bf69b58a3b1abe0e586d8fe87597b21c7633e03986aee34dd1d9c3693b1", func := "loop.example/drydock/laws.FnExactStateList", spec := "fnExactStateList", unfollowed := true, recurses := true, apart := false, narrowed := true }
def FnExactStateListUptoSaid : Prop := fnExactStateListUptoRow.holds Try.pinned (OpenSpec.upto fnExactStateListSpec)

/-- 'laws.FnExactDockWrite', WHERE WHAT IT READS IS OF BULK AT MOST 1048576: true; the input reads as it did. -/
def fnExactDockWriteUptoRow : OpenClaim := { program := "ytecipjdbfmldlaw", sum := "313a9bf69b58a3b1abe0e586d8fe87597b21c7633e03986aee34dd1d9c3693b1", func := "loop.example/drydock/laws.FnExactDockWrite", spec := "fnExactDockWrite", recurses := true, apart := false, narrowed := true }
def FnExactDockWriteUptoSaid : Prop := fnExactDockWriteUptoRow.holds Try.pinned (OpenSpec.upto fnExactDockWriteSpec)

end Rows
end Go.Proofs.Ytecipjdbfmldlaw
