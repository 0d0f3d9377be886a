/-
  No cell of these rows narrows 'for every input' (looked for: loops, veiled, ifaces, maps, wideKeys, modest, calm, conditions, laid).
  DERIVED. THE GIVEN ROWS OF THIS SEAT. 3 by the template 'for every input the law returns true; each argument reads behind the call as it read before'; 0 by the template 'total and deterministic' (their statements: YthkhaemlcmkkjaoTotals.lean).
  GIVEN WITH THE SEED: the statements are not yours to turn. If you find one false, say at which input.
  Laid BY PROGRAM, IN A SANDBOX (cutbox-rows.mjs): the forced cells as the released guide's own fill.sh prints them over the translation facc049ee876309a… (all of the seat's roots in one cut). By AI agents, Wed Nov 11 2026. No macro, syntax, notation, axiom, sorry.
-/
import Derived.Test.YthkhaemlcmkkjaoChecked
import GoSem.Claim
import GoSem.ClaimJoined
import GoSem.ClaimMapViews
import Derived.JoinedTies
import Derived.KernelRfl
namespace Go.Proofs.Ythkhaemlcmkkjao
/- THE CELL 'sum', in the pinned program and in every row, IS THE sha256 OF THE DUMP (.gsa) THAT YthkhaemlcmkkjaoProg.lean LOADS. Nothing in Lean hashes anything: it is a label: what it is worth is what the hold of that sum in a sandbox is worth. -/
noncomputable def Try.pinned : Pinned := { name := "ythkhaemlcmkkjao", sum := "facc049ee876309a5a1536dca2be01d35f73b0bace5959edf91cdefa95f33126", checked := Try.checked }
namespace Rows
def none {H : Type} : Left H := { results := [], args := [] }

/-- 'laws.FnWhyTwice': WHATEVER THE INPUT: true; the input reads as it did. -/
def fnWhyTwiceSpec : ChangeSpec := { name := "fnWhyTwice", fn := fun _ => fun
  | [d] => { results := [.lit (.bool true)], args := [d] }
  | _ => none }
def fnWhyTwiceRow : OpenClaim := { program := "ythkhaemlcmkkjao", sum := "facc049ee876309a5a1536dca2be01d35f73b0bace5959edf91cdefa95f33126", func := "loop.example/drydock/laws.FnWhyTwice", spec := "fnWhyTwice", unfollowed := true, recurses := true, apart := false }
def FnWhyTwiceSaid : Prop := fnWhyTwiceRow.holds Try.pinned (OpenSpec.ofChange fnWhyTwiceSpec)

/-- ITS FALSE NEIGHBOUR: 'it returns false'. Refute it at one input. -/
def fnWhyTwiceWrong : ChangeSpec := { name := "fnWhyTwice", fn := fun _ => fun
  | [d] => { results := [.lit (.bool false)], args := [d] }
  | _ => none }
def FnWhyTwiceWrongFalsely : Prop := fnWhyTwiceRow.holds Try.pinned (OpenSpec.ofChange fnWhyTwiceWrong)

/-- 'laws.FnCostOf': WHATEVER THE INPUT: true; the input reads as it did. -/
def fnCostOfSpec : ChangeSpec := { name := "fnCostOf", fn := fun _ => fun
  | [d] => { results := [.lit (.bool true)], args := [d] }
  | _ => none }
def fnCostOfRow : OpenClaim := { program := "ythkhaemlcmkkjao", sum := "facc049ee876309a5a1536dca2be01d35f73b0bace5959edf91cdefa95f33126", func := "loop.example/drydock/laws.FnCostOf", spec := "fnCostOf", unfollowed := true, recurses := true, apart := false }
def FnCostOfSaid : Prop := fnCostOfRow.holds Try.pinned (OpenSpec.ofChange fnCostOfSpec)

/-- ITS FALSE NEIGHBOUR: 'it returns false'. Refute it at one input. -/
def fnCostOfWrong : ChangeSpec := { name := "fnCostOf", fn := fun _ => fun
  | [d] => { results := [.lit (.bool false)], args := [d] }
  | _ => none }
def FnCostOfWrongFalsely : Prop := fnCostOfRow.holds Try.pinned (OpenSpec.ofChange fnCostOfWrong)

/-- 'laws.FnCostPlan': WHATEVER THE INPUT: true; the input reads as it did. -/
def fnCostPlanSpec : ChangeSpec := { name := "fnCostPlan", fn := fun _ => fun
  | [d1, d2] => { results := [.lit (.bool true)], args := [d1, d2] }
  | _ => none }
def fnCostPlanRow : OpenClaim := { program := "ythkhaemlcmkkjao", sum := "facc049ee876309a5a1536dca2be01d35f73b0bace5959edf91cdefa95f33126", func := "loop.example/drydock/laws.FnCostPlan", spec := "fnCostPlan", unfollowed := true, recurses := true, apart := false }
def FnCostPlanSaid : Prop := fnCostPlanRow.holds Try.pinned (OpenSpec.ofChange fnCostPlanSpec)

/-- ITS FALSE NEIGHBOUR: 'it returns false'. Refute it at one input. -/
def fnCostPlanWrong : ChangeSpec := { name := "fnCostPlan", fn := fun _ => fun
  | [d1, d2] => { results := [.lit (.bool false)], args := [d1, d2] }
  | _ => none }
def FnCostPlanWrongFalsely : Prop := fnCostPlanRow.holds Try.pinned (OpenSpec.ofChange fnCostPlanWrong)

/- THE SECOND FORM. 'bulk': how many values and letters a reading holds, each counted each time it is reached (what is shared counts as often as it is met; a slice's spare places count too). A statement '..UptoSaid' is the law's where the arguments, and the package variables that the reading takes, are together of bulk at most 1048576: NARROWER than '..Said'. Prove '..Said' where nothing that the law and all that it calls make is longer than what came in: it says more and counts as full. Else prove '..UptoSaid'. A law counts once. -/
mutual
def uptoBulk {H : Type} : DataW H → Nat
  | .lit (.string bytes) => bytes.length + 1
  | .lit _ => 1
  | .nil => 1
  | .ptr d => uptoBulk d + 1
  | .slice elems spare => uptoBulkAll elems + uptoBulkAll spare + 1
  | .agg parts => uptoBulkAll parts + 1
  | .iface _ d => uptoBulk d + 1
  | .map entries => uptoBulkEntries entries + 1
  | .held _ => 1
def uptoBulkAll {H : Type} : List (DataW H) → Nat
  | [] => 0
  | d :: r => uptoBulk d + uptoBulkAll r
def uptoBulkEntries {H : Type} : List (Lit × DataW H) → Nat
  | [] => 0
  | x :: r => uptoBulkEntry x + uptoBulkEntries r
def uptoBulkEntry {H : Type} : Lit × DataW H → Nat
  | (.string bytes, d) => bytes.length + uptoBulk d + 1
  | (_, d) => uptoBulk d + 1
 end
def uptoSmall : (H : Type) → List (DataW H) → Bool := fun _ ds => decide (uptoBulkAll ds ≤ 1048576)
def OpenSpec.upto (s : _root_.Go.ChangeSpec) : _root_.Go.OpenSpec := { _root_.Go.OpenSpec.ofChange s with cond := some uptoSmall }

/-- 'laws.FnWhyTwice', WHERE WHAT IT READS IS OF BULK AT MOST 1048576: true; the input reads as it did. -/
def fnWhyTwiceUptoRow : OpenClaim := { program := "ythkhaemlcmkkjao", sum := "facc049ee876309a5a1536dca2be01d35f73b0bace5959edf91cdefa95f33126", func := "loop.example/drydock/laws.FnWhyTwice", spec := "fnWhyTwice", unfollowed := true, recurses := true, apart := false, narrowed := true }
def FnWhyTwiceUptoSaid : Prop := fnWhyTwiceUptoRow.holds Try.pinned (OpenSpec.upto fnWhyTwiceSpec)

/-- 'laws.FnCostOf', WHERE WHAT IT READS IS OF BULK AT MOST 1048576: true; the input reads as it did. -/
def fnCostOfUptoRow : OpenClaim := { program := "ythkhaemlcmkkjao", sum := "facc049ee876309a5a1536dca2be01d35f73b0bace5959edf91cdefa95f33126", func := "loop.example/drydock/laws.FnCostOf", spec := "fnCostOf", unfollowed := true, recurses := true, apart := false, narrowed := true }
def FnCostOfUptoSaid : Prop := fnCostOfUptoRow.holds Try.pinned (OpenSpec.upto fnCostOfSpec)

/-- 'laws.FnCostPlan', WHERE WHAT IT READS IS OF BULK AT MOST 1048576: true; the input reads as it did. -/
def fnCostPlanUptoRow : OpenClaim := { program := "ythkhaemlcmkkjao", sum := "facc049ee876309a5a1536dca2be01d35f73b0bace5959edf91cdefa95f33126", func := "loop.example/drydock/laws.FnCostPlan", spec := "fnCostPlan", unfollowed := true, recurses := true, apart := false, narrowed := true }
def FnCostPlanUptoSaid : Prop := fnCostPlanUptoRow.holds Try.pinned (OpenSpec.upto fnCostPlanSpec)

end Rows
end Go.Proofs.Ythkhaemlcmkkjao
