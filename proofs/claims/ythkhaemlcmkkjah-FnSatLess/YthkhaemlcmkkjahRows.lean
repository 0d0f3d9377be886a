/-
  No cell of these rows narrows 'for every input' (looked for: loops, veiled, ifaces, maps, wideKeys, modest, calm, conditions, laid).
  DERIVED. THE GIVEN ROWS OF THIS SEAT. 6 by the template 'for every input the law returns true; each argument reads behind the call as it read before'; 0 by the template 'total and deterministic' (their statements: YthkhaemlcmkkjahTotals.lean).
  GIVEN WITH THE SEED: the statements are not yours to turn. If you find one false, say at which input.
  Laid BY PROGRAM, IN A SANDBOX (cutbox-rows.mjs): the forced cells as the released guide's own fill.sh prints them over the translation 22854bba309ecf21… (all of the seat's roots in one cut). By AI agents, Wed Nov 11 2026. No macro, syntax, notation, axiom, sorry.
-/
import Derived.Test.YthkhaemlcmkkjahChecked
import GoSem.Claim
import GoSem.ClaimJoined
import GoSem.ClaimMapViews
import Derived.JoinedTies
import Derived.KernelRfl
namespace Go.Proofs.Ythkhaemlcmkkjah
/- THE CELL 'sum', in the pinned program and in every row, IS THE sha256 OF THE DUMP (.gsa) THAT YthkhaemlcmkkjahProg.lean LOADS. Nothing in Lean hashes anything: it is a label: what it is worth is what the hold of that sum in a sandbox is worth. -/
noncomputable def Try.pinned : Pinned := { name := "ythkhaemlcmkkjah", sum := "22854bba309ecf21a3a14b1511aa154a29e77fff5c20b45ba11ea793539b56f7", checked := Try.checked }
namespace Rows
def none {H : Type} : Left H := { results := [], args := [] }

/-- 'laws.FnSatNo': WHATEVER THE INPUT: true; the input reads as it did. -/
def fnSatNoSpec : ChangeSpec := { name := "fnSatNo", fn := fun _ => fun
  | [d] => { results := [.lit (.bool true)], args := [d] }
  | _ => none }
def fnSatNoRow : OpenClaim := { program := "ythkhaemlcmkkjah", sum := "22854bba309ecf21a3a14b1511aa154a29e77fff5c20b45ba11ea793539b56f7", func := "loop.example/drydock/laws.FnSatNo", spec := "fnSatNo", unfollowed := true, recurses := true, apart := false }
def FnSatNoSaid : Prop := fnSatNoRow.holds Try.pinned (OpenSpec.ofChange fnSatNoSpec)

/-- ITS FALSE NEIGHBOUR: 'it returns false'. Refute it at one input. -/
def fnSatNoWrong : ChangeSpec := { name := "fnSatNo", fn := fun _ => fun
  | [d] => { results := [.lit (.bool false)], args := [d] }
  | _ => none }
def FnSatNoWrongFalsely : Prop := fnSatNoRow.holds Try.pinned (OpenSpec.ofChange fnSatNoWrong)

/-- 'laws.FnSatFirst': WHATEVER THE INPUT: true; the input reads as it did. -/
def fnSatFirstSpec : ChangeSpec := { name := "fnSatFirst", fn := fun _ => fun
  | [d] => { results := [.lit (.bool true)], args := [d] }
  | _ => none }
def fnSatFirstRow : OpenClaim := { program := "ythkhaemlcmkkjah", sum := "22854bba309ecf21a3a14b1511aa154a29e77fff5c20b45ba11ea793539b56f7", func := "loop.example/drydock/laws.FnSatFirst", spec := "fnSatFirst", unfollowed := true, recurses := true, apart := false }
def FnSatFirstSaid : Prop := fnSatFirstRow.holds Try.pinned (OpenSpec.ofChange fnSatFirstSpec)

/-- ITS FALSE NEIGHBOUR: 'it returns false'. Refute it at one input. -/
def fnSatFirstWrong : ChangeSpec := { name := "fnSatFirst", fn := fun _ => fun
  | [d] => { results := [.lit (.bool false)], args := [d] }
  | _ => none }
def FnSatFirstWrongFalsely : Prop := fnSatFirstRow.holds Try.pinned (OpenSpec.ofChange fnSatFirstWrong)

/-- 'laws.FnSatAll': WHATEVER THE INPUT: true; the input reads as it did. -/
def fnSatAllSpec : ChangeSpec := { name := "fnSatAll", fn := fun _ => fun
  | [d] => { results := [.lit (.bool true)], args := [d] }
  | _ => none }
def fnSatAllRow : OpenClaim := { program := "ythkhaemlcmkkjah", sum := "22854bba309ecf21a3a14b1511aa154a29e77fff5c20b45ba11ea793539b56f7", func := "loop.example/drydock/laws.FnSatAll", spec := "fnSatAll", unfollowed := true, recurses := true, apart := false }
def FnSatAllSaid : Prop := fnSatAllRow.holds Try.pinned (OpenSpec.ofChange fnSatAllSpec)

/-- ITS FALSE NEIGHBOUR: 'it returns false'. Refute it at one input. -/
def fnSatAllWrong : ChangeSpec := { name := "fnSatAll", fn := fun _ => fun
  | [d] => { results := [.lit (.bool false)], args := [d] }
  | _ => none }
def FnSatAllWrongFalsely : Prop := fnSatAllRow.holds Try.pinned (OpenSpec.ofChange fnSatAllWrong)

/-- 'laws.FnSatLess': WHATEVER THE INPUT: true; the input reads as it did. -/
def fnSatLessSpec : ChangeSpec := { name := "fnSatLess", fn := fun _ => fun
  | [d1, d2] => { results := [.lit (.bool true)], args := [d1, d2] }
  | _ => none }
def fnSatLessRow : OpenClaim := { program := "ythkhaemlcmkkjah", sum := "22854bba309ecf21a3a14b1511aa154a29e77fff5c20b45ba11ea793539b56f7", func := "loop.example/drydock/laws.FnSatLess", spec := "fnSatLess", unfollowed := true, recurses := true, apart := false }
def FnSatLessSaid : Prop := fnSatLessRow.holds Try.pinned (OpenSpec.ofChange fnSatLessSpec)

/-- ITS FALSE NEIGHBOUR: 'it returns false'. Refute it at one input. -/
def fnSatLessWrong : ChangeSpec := { name := "fnSatLess", fn := fun _ => fun
  | [d1, d2] => { results := [.lit (.bool false)], args := [d1, d2] }
  | _ => none }
def FnSatLessWrongFalsely : Prop := fnSatLessRow.holds Try.pinned (OpenSpec.ofChange fnSatLessWrong)

/-- 'laws.FnSatMore': WHATEVER THE INPUT: true; the input reads as it did. -/
def fnSatMoreSpec : ChangeSpec := { name := "fnSatMore", fn := fun _ => fun
  | [d1, d2] => { results := [.lit (.bool true)], args := [d1, d2] }
  | _ => none }
def fnSatMoreRow : OpenClaim := { program := "ythkhaemlcmkkjah", sum := "22854bba309ecf21a3a14b1511aa154a29e77fff5c20b45ba11ea793539b56f7", func := "loop.example/drydock/laws.FnSatMore", spec := "fnSatMore", unfollowed := true, recurses := true, apart := false }
def FnSatMoreSaid : Prop := fnSatMoreRow.holds Try.pinned (OpenSpec.ofChange fnSatMoreSpec)

/-- ITS FALSE NEIGHBOUR: 'it returns false'. Refute it at one input. -/
def fnSatMoreWrong : ChangeSpec := { name := "fnSatMore", fn := fun _ => fun
  | [d1, d2] => { results := [.lit (.bool false)], args := [d1, d2] }
  | _ => none }
def FnSatMoreWrongFalsely : Prop := fnSatMoreRow.holds Try.pinned (OpenSpec.ofChange fnSatMoreWrong)

/-- 'laws.FnSatTurn': WHATEVER THE INPUT: true; the input reads as it did. -/
def fnSatTurnSpec : ChangeSpec := { name := "fnSatTurn", fn := fun _ => fun
  | [d] => { results := [.lit (.bool true)], args := [d] }
  | _ => none }
def fnSatTurnRow : OpenClaim := { program := "ythkhaemlcmkkjah", sum := "22854bba309ecf21a3a14b1511aa154a29e77fff5c20b45ba11ea793539b56f7", func := "loop.example/drydock/laws.FnSatTurn", spec := "fnSatTurn", unfollowed := true, recurses := true, apart := false }
def FnSatTurnSaid : Prop := fnSatTurnRow.holds Try.pinned (OpenSpec.ofChange fnSatTurnSpec)

/-- ITS FALSE NEIGHBOUR: 'it returns false'. Refute it at one input. -/
def fnSatTurnWrong : ChangeSpec := { name := "fnSatTurn", fn := fun _ => fun
  | [d] => { results := [.lit (.bool false)], args := [d] }
  | _ => none }
def FnSatTurnWrongFalsely : Prop := fnSatTurnRow.holds Try.pinned (OpenSpec.ofChange fnSatTurnWrong)

/- THE SECOND FORM. 'bulk': how many values and letters a reading holds, each counted each time it is reached (what is shared counts as often as it is met; a slice's spare places count too). A statement '..UptoSaid' is the law's where the arguments, and the package variables that the reading takes, are together of bulk at most 1048576: NARROWER than '..Said'. Prove '..Said' where nothing that the law and all that it calls make is longer than what came in: it says more and counts as full. Else prove '..UptoSaid'. A law counts once. -/
mutual
def uptoBulk {H : Type} : DataW H → Nat
  | .lit (.string bytes) => bytes.length + 1
  | .lit _ => 1
  | .nil => 1
  | .ptr d => uptoBulk d + 1
  | .slice elems spare => uptoBulkAll elems + uptoBulkAll spare + 1
  | .agg parts => uptoBulkAll parts + 1
  | .iface _ d => uptoBulk d + 1
  | .map entries => uptoBulkEntries entries + 1
  | .held _ => 1
def uptoBulkAll {H : Type} : List (DataW H) → Nat
  | [] => 0
  | d :: r => uptoBulk d + uptoBulkAll r
def uptoBulkEntries {H : Type} : List (Lit × DataW H) → Nat
  | [] => 0
  | x :: r => uptoBulkEntry x + uptoBulkEntries r
def uptoBulkEntry {H : Type} : Lit × DataW H → Nat
  | (.string bytes, d) => bytes.length + uptoBulk d + 1
  | (_, d) => uptoBulk d + 1
 end
def uptoSmall : (H : Type) → List (DataW H) → Bool := fun _ ds => decide (uptoBulkAll ds ≤ 1048576)
def OpenSpec.upto (s : _root_.Go.ChangeSpec) : _root_.Go.OpenSpec := { _root_.Go.OpenSpec.ofChange s with cond := some uptoSmall }

/-- 'laws.FnSatNo', WHERE WHAT IT READS IS OF BULK AT MOST 1048576: true; the input reads as it did. -/
def fnSatNoUptoRow : OpenClaim := { program := "ythkhaemlcmkkjah", sum := "22854bba309ecf21a3a14b1511aa154a29e77fff5c20b45ba11ea793539b56f7", func := "loop.example/drydock/laws.FnSatNo", spec := "fnSatNo", unfollowed := true, recurses := true, apart := false, narrowed := true }
def FnSatNoUptoSaid : Prop := fnSatNoUptoRow.holds Try.pinned (OpenSpec.upto fnSatNoSpec)

/-- 'laws.FnSatFirst', WHERE WHAT IT READS IS OF BULK AT MOST 1048576: true; the input reads as it did. -/
def fnSatFirstUptoRow : OpenClaim := { program := "ythkhaemlcmkkjah", sum := "22854bba309ecf21a3a14b1511aa154a29e77fff5c20b45ba11ea793539b56f7", func := "loop.example/drydock/laws.FnSatFirst", spec := "fnSatFirst", unfollowed := true, recurses := true, apart := false, narrowed := true }
def FnSatFirstUptoSaid : Prop := fnSatFirstUptoRow.holds Try.pinned (OpenSpec.upto fnSatFirstSpec)

/-- 'laws.FnSatAll', WHERE WHAT IT READS IS OF BULK AT MOST 1048576: true; the input reads as it did. -/
def fnSatAllUptoRow : OpenClaim := { program := "ythkhaemlcmkkjah", sum := "22854bba309ecf21a3a14b1511aa154a29e77fff5c20b45ba11ea793539b56f7", func := "loop.example/drydock/laws.FnSatAll", spec := "fnSatAll", unfollowed := true, recurses := true, apart := false, narrowed := true }
def FnSatAllUptoSaid : Prop := fnSatAllUptoRow.holds Try.pinned (OpenSpec.upto fnSatAllSpec)

/-- 'laws.FnSatLess', WHERE WHAT IT READS IS OF BULK AT MOST 1048576: true; the input reads as it did. -/
def fnSatLessUptoRow : OpenClaim := { program := "ythkhaemlcmkkjah", sum := "22854bba309ecf21a3a14b1511aa154a29e77fff5c20b45ba11ea793539b56f7", func := "loop.example/drydock/laws.FnSatLess", spec := "fnSatLess", unfollowed := true, recurses := true, apart := false, narrowed := true }
def FnSatLessUptoSaid : Prop := fnSatLessUptoRow.holds Try.pinned (OpenSpec.upto fnSatLessSpec)

/-- 'laws.FnSatMore', WHERE WHAT IT READS IS OF BULK AT MOST 1048576: true; the input reads as it did. -/
def fnSatMoreUptoRow : OpenClaim := { program := "ythkhaemlcmkkjah", sum := "22854bba309ecf21a3a14b1511aa154a29e77fff5c20b45ba11ea793539b56f7", func := "loop.example/drydock/laws.FnSatMore", spec := "fnSatMore", unfollowed := true, recurses := true, apart := false, narrowed := true }
def FnSatMoreUptoSaid : Prop := fnSatMoreUptoRow.holds Try.pinned (OpenSpec.upto fnSatMoreSpec)

/-- 'laws.FnSatTurn', WHERE WHAT IT READS IS OF BULK AT MOST 1048576: true; the input reads as it did. -/
def fnSatTurnUptoRow : OpenClaim := { program := "ythkhaemlcmkkjah", sum := "22854bba309ecf21a3a14b1511aa154a29e77fff5c20b45ba11ea793539b56f7", func := "loop.example/drydock/laws.FnSatTurn", spec := "fnSatTurn", unfollowed := true, recurses := true, apart := false, narrowed := true }
def FnSatTurnUptoSaid : Prop := fnSatTurnUptoRow.holds Try.pinned (OpenSpec.upto fnSatTurnSpec)

end Rows
end Go.Proofs.Ythkhaemlcmkkjah
