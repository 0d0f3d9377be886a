/-
  No cell of these rows narrows 'for every input' (looked for: loops, veiled, ifaces, maps, wideKeys, modest, calm, conditions, laid).
  DERIVED. THE GIVEN ROWS OF THIS SEAT. 5 by the template 'for every input the law returns true; each argument reads behind the call as it read before'; 0 by the template 'total and deterministic' (their statements: YthkhaemlcmkkjaeTotals.lean).
  GIVEN WITH THE SEED: the statements are not yours to turn. If you find one false, say at which input.
  Laid BY PROGRAM, IN A SANDBOX (cutbox-rows.mjs): the forced cells as the released guide's own fill.sh prints them over the translation 9f3a839035c83045… (all of the seat's roots in one cut). By AI agents, Wed Nov 11 2026. No macro, syntax, notation, axiom, sorry.
-/
import Derived.Test.YthkhaemlcmkkjaeChecked
import GoSem.Claim
import GoSem.ClaimJoined
import GoSem.ClaimMapViews
import Derived.JoinedTies
import Derived.KernelRfl
namespace Go.Proofs.Ythkhaemlcmkkjae
/- THE CELL 'sum', in the pinned program and in every row, IS THE sha256 OF THE DUMP (.gsa) THAT YthkhaemlcmkkjaeProg.lean LOADS. Nothing in Lean hashes anything: it is a label: what it is worth is what the hold of that sum in a sandbox is worth. -/
noncomputable def Try.pinned : Pinned := { name := "ythkhaemlcmkkjae", sum := "9f3a839035c8304551584ef6f4ba551fd9738723d2fa25fb71476cdd7e9154fa", checked := Try.checked }
namespace Rows
def none {H : Type} : Left H := { results := [], args := [] }

/-- 'laws.FnPlanTop': WHATEVER THE INPUT: true; the input reads as it did. -/
def fnPlanTopSpec : ChangeSpec := { name := "fnPlanTop", fn := fun _ => fun
  | [d] => { results := [.lit (.bool true)], args := [d] }
  | _ => none }
def fnPlanTopRow : OpenClaim := { program := "ythkhaemlcmkkjae", sum := "9f3a839035c8304551584ef6f4ba551fd9738723d2fa25fb71476cdd7e9154fa", func := "loop.example/drydock/laws.FnPlanTop", spec := "fnPlanTop", unfollowed := true, recurses := true, apart := false }
def FnPlanTopSaid : Prop := fnPlanTopRow.holds Try.pinned (OpenSpec.ofChange fnPlanTopSpec)

/-- ITS FALSE NEIGHBOUR: 'it returns false'. Refute it at one input. -/
def fnPlanTopWrong : ChangeSpec := { name := "fnPlanTop", fn := fun _ => fun
  | [d] => { results := [.lit (.bool false)], args := [d] }
  | _ => none }
def FnPlanTopWrongFalsely : Prop := fnPlanTopRow.holds Try.pinned (OpenSpec.ofChange fnPlanTopWrong)

/-- 'laws.FnPlanFirst': WHATEVER THE INPUT: true; the input reads as it did. -/
def fnPlanFirstSpec : ChangeSpec := { name := "fnPlanFirst", fn := fun _ => fun
  | [d] => { results := [.lit (.bool true)], args := [d] }
  | _ => none }
def fnPlanFirstRow : OpenClaim := { program := "ythkhaemlcmkkjae", sum := "9f3a839035c8304551584ef6f4ba551fd9738723d2fa25fb71476cdd7e9154fa", func := "loop.example/drydock/laws.FnPlanFirst", spec := "fnPlanFirst", unfollowed := true, recurses := true, apart := false }
def FnPlanFirstSaid : Prop := fnPlanFirstRow.holds Try.pinned (OpenSpec.ofChange fnPlanFirstSpec)

/-- ITS FALSE NEIGHBOUR: 'it returns false'. Refute it at one input. -/
def fnPlanFirstWrong : ChangeSpec := { name := "fnPlanFirst", fn := fun _ => fun
  | [d] => { results := [.lit (.bool false)], args := [d] }
  | _ => none }
def FnPlanFirstWrongFalsely : Prop := fnPlanFirstRow.holds Try.pinned (OpenSpec.ofChange fnPlanFirstWrong)

/-- 'laws.FnPlanOn': WHATEVER THE INPUT: true; the input reads as it did. -/
def fnPlanOnSpec : ChangeSpec := { name := "fnPlanOn", fn := fun _ => fun
  | [d1, d2] => { results := [.lit (.bool true)], args := [d1, d2] }
  | _ => none }
def fnPlanOnRow : OpenClaim := { program := "ythkhaemlcmkkjae", sum := "9f3a839035c8304551584ef6f4ba551fd9738723d2fa25fb71476cdd7e9154fa", func := "loop.example/drydock/laws.FnPlanOn", spec := "fnPlanOn", unfollowed := true, recurses := true, apart := false }
def FnPlanOnSaid : Prop := fnPlanOnRow.holds Try.pinned (OpenSpec.ofChange fnPlanOnSpec)

/-- ITS FALSE NEIGHBOUR: 'it returns false'. Refute it at one input. -/
def fnPlanOnWrong : ChangeSpec := { name := "fnPlanOn", fn := fun _ => fun
  | [d1, d2] => { results := [.lit (.bool false)], args := [d1, d2] }
  | _ => none }
def FnPlanOnWrongFalsely : Prop := fnPlanOnRow.holds Try.pinned (OpenSpec.ofChange fnPlanOnWrong)

/-- 'laws.FnPlanRoom': WHATEVER THE INPUT: true; the input reads as it did. -/
def fnPlanRoomSpec : ChangeSpec := { name := "fnPlanRoom", fn := fun _ => fun
  | [d1, d2] => { results := [.lit (.bool true)], args := [d1, d2] }
  | _ => none }
def fnPlanRoomRow : OpenClaim := { program := "ythkhaemlcmkkjae", sum := "9f3a839035c8304551584ef6f4ba551fd9738723d2fa25fb71476cdd7e9154fa", func := "loop.example/drydock/laws.FnPlanRoom", spec := "fnPlanRoom", unfollowed := true, recurses := true, apart := false }
def FnPlanRoomSaid : Prop := fnPlanRoomRow.holds Try.pinned (OpenSpec.ofChange fnPlanRoomSpec)

/-- ITS FALSE NEIGHBOUR: 'it returns false'. Refute it at one input. -/
def fnPlanRoomWrong : ChangeSpec := { name := "fnPlanRoom", fn := fun _ => fun
  | [d1, d2] => { results := [.lit (.bool false)], args := [d1, d2] }
  | _ => none }
def FnPlanRoomWrongFalsely : Prop := fnPlanRoomRow.holds Try.pinned (OpenSpec.ofChange fnPlanRoomWrong)

/-- 'laws.FnPlanNull': WHATEVER THE INPUT: true; the input reads as it did. -/
def fnPlanNullSpec : ChangeSpec := { name := "fnPlanNull", fn := fun _ => fun
  | [d] => { results := [.lit (.bool true)], args := [d] }
  | _ => none }
def fnPlanNullRow : OpenClaim := { program := "ythkhaemlcmkkjae", sum := "9f3a839035c8304551584ef6f4ba551fd9738723d2fa25fb71476cdd7e9154fa", func := "loop.example/drydock/laws.FnPlanNull", spec := "fnPlanNull", unfollowed := true, recurses := true, apart := false }
def FnPlanNullSaid : Prop := fnPlanNullRow.holds Try.pinned (OpenSpec.ofChange fnPlanNullSpec)

/-- ITS FALSE NEIGHBOUR: 'it returns false'. Refute it at one input. -/
def fnPlanNullWrong : ChangeSpec := { name := "fnPlanNull", fn := fun _ => fun
  | [d] => { results := [.lit (.bool false)], args := [d] }
  | _ => none }
def FnPlanNullWrongFalsely : Prop := fnPlanNullRow.holds Try.pinned (OpenSpec.ofChange fnPlanNullWrong)

/- THE SECOND FORM. 'bulk': how many values and letters a reading holds, each counted each time it is reached (what is shared counts as often as it is met; a slice's spare places count too). A statement '..UptoSaid' is the law's where the arguments, and the package variables that the reading takes, are together of bulk at most 1048576: NARROWER than '..Said'. Prove '..Said' where nothing that the law and all that it calls make is longer than what came in: it says more and counts as full. Else prove '..UptoSaid'. A law counts once. -/
mutual
def uptoBulk {H : Type} : DataW H → Nat
  | .lit (.string bytes) => bytes.length + 1
  | .lit _ => 1
  | .nil => 1
  | .ptr d => uptoBulk d + 1
  | .slice elems spare => uptoBulkAll elems + uptoBulkAll spare + 1
  | .agg parts => uptoBulkAll parts + 1
  | .iface _ d => uptoBulk d + 1
  | .map entries => uptoBulkEntries entries + 1
  | .held _ => 1
def uptoBulkAll {H : Type} : List (DataW H) → Nat
  | [] => 0
  | d :: r => uptoBulk d + uptoBulkAll r
def uptoBulkEntries {H : Type} : List (Lit × DataW H) → Nat
  | [] => 0
  | x :: r => uptoBulkEntry x + uptoBulkEntries r
def uptoBulkEntry {H : Type} : Lit × DataW H → Nat
  | (.string bytes, d) => bytes.length + uptoBulk d + 1
  | (_, d) => uptoBulk d + 1
 end
def uptoSmall : (H : Type) → List (DataW H) → Bool := fun _ ds => decide (uptoBulkAll ds ≤ 1048576)
def OpenSpec.upto (s : _root_.Go.ChangeSpec) : _root_.Go.OpenSpec := { _root_.Go.OpenSpec.ofChange s with cond := some uptoSmall }

/-- 'laws.FnPlanTop', WHERE WHAT IT READS IS OF BULK AT MOST 1048576: true; the input reads as it did. -/
def fnPlanTopUptoRow : OpenClaim := { program := "ythkhaemlcmkkjae", sum := "9f3a839035c8304551584ef6f4ba551fd9738723d2fa25fb71476cdd7e9154fa", func := "loop.example/drydock/laws.FnPlanTop", spec := "fnPlanTop", unfollowed := true, recurses := true, apart := false, narrowed := true }
def FnPlanTopUptoSaid : Prop := fnPlanTopUptoRow.holds Try.pinned (OpenSpec.upto fnPlanTopSpec)

/-- 'laws.FnPlanFirst', WHERE WHAT IT READS IS OF BULK AT MOST 1048576: true; the input reads as it did. -/
def fnPlanFirstUptoRow : OpenClaim := { program := "ythkhaemlcmkkjae", sum := "9f3a839035c8304551584ef6f4ba551fd9738723d2fa25fb71476cdd7e9154fa", func := "loop.example/drydock/laws.FnPlanFirst", spec := "fnPlanFirst", unfollowed := true, recurses := true, apart := false, narrowed := true }
def FnPlanFirstUptoSaid : Prop := fnPlanFirstUptoRow.holds Try.pinned (OpenSpec.upto fnPlanFirstSpec)

/-- 'laws.FnPlanOn', WHERE WHAT IT READS IS OF BULK AT MOST 1048576: true; the input reads as it did. -/
def fnPlanOnUptoRow : OpenClaim := { program := "ythkhaemlcmkkjae", sum := "9f3a839035c8304551584ef6f4ba551fd9738723d2fa25fb71476cdd7e9154fa", func := "loop.example/drydock/laws.FnPlanOn", spec := "fnPlanOn", unfollowed := true, recurses := true, apart := false, narrowed := true }
def FnPlanOnUptoSaid : Prop := fnPlanOnUptoRow.holds Try.pinned (OpenSpec.upto fnPlanOnSpec)

/-- 'laws.FnPlanRoom', WHERE WHAT IT READS IS OF BULK AT MOST 1048576: true; the input reads as it did. -/
def fnPlanRoomUptoRow : OpenClaim := { program := "ythkhaemlcmkkjae", sum := "9f3a839035c8304551584ef6f4ba551fd9738723d2fa25fb71476cdd7e9154fa", func := "loop.example/drydock/laws.FnPlanRoom", spec := "fnPlanRoom", unfollowed := true, recurses := true, apart := false, narrowed := true }
def FnPlanRoomUptoSaid : Prop := fnPlanRoomUptoRow.holds Try.pinned (OpenSpec.upto fnPlanRoomSpec)

/-- 'laws.FnPlanNull', WHERE WHAT IT READS IS OF BULK AT MOST 1048576: true; the input reads as it did. -/
def fnPlanNullUptoRow : OpenClaim := { program := "ythkhaemlcmkkjae", sum := "9f3a839035c8304551584ef6f4ba551fd9738723d2fa25fb71476cdd7e9154fa", func := "loop.example/drydock/laws.FnPlanNull", spec := "fnPlanNull", unfollowed := true, recurses := true, apart := false, narrowed := true }
def FnPlanNullUptoSaid : Prop := fnPlanNullUptoRow.holds Try.pinned (OpenSpec.upto fnPlanNullSpec)

end Rows
end Go.Proofs.Ythkhaemlcmkkjae
