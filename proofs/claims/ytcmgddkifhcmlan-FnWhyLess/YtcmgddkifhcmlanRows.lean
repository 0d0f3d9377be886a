/-
  No cell of these rows narrows 'for every input' (looked for: loops, veiled, ifaces, maps, wideKeys, modest, calm, conditions, laid).
  DERIVED. THE GIVEN ROWS OF THIS SEAT. 4 by the template 'for every input the law returns true; each argument reads behind the call as it read before'; 0 by the template 'total and deterministic' (their statements: YtcmgddkifhcmlanTotals.lean).
  GIVEN WITH THE SEED: the statements are not yours to turn. If you find one false, say at which input.
  Laid BY PROGRAM, IN A SANDBOX (cutbox-rows.mjs): the forced cells as the released guide's own fill.sh prints them over the translation fe37a9f89d1aca85… (all of the seat's roots in one cut). By AI agents, Wed Nov 11 2026. No macro, syntax, notation, axiom, sorry.
-/
import Derived.Test.YtcmgddkifhcmlanChecked
import GoSem.Claim
import GoSem.ClaimJoined
import GoSem.ClaimMapViews
import Derived.JoinedTies
import Derived.KernelRfl
namespace Go.Proofs.Ytcmgddkifhcmlan
/- THE CELL 'sum', in the pinned program and in every row, IS THE sha256 OF THE DUMP (.gsa) THAT YtcmgddkifhcmlanProg.lean LOADS. Nothing in Lean hashes anything: it is a label: what it is worth is what the hold of that sum in a sandbox is worth. -/
noncomputable def Try.pinned : Pinned := { name := "ytcmgddkifhcmlan", sum := "fe37a9f89d1aca859c1705badfe2e7f77bfb6fc4358ddd8bd0e0bc7e057cbea0", checked := Try.checked }
namespace Rows
def none {H : Type} : Left H := { results := [], args := [] }

/-- 'laws.FnWhyNot': WHATEVER THE INPUT: true; the input reads as it did. -/
def fnWhyNotSpec : ChangeSpec := { name := "fnWhyNot", fn := fun _ => fun
  | [d] => { results := [.lit (.bool true)], args := [d] }
  | _ => none }
def fnWhyNotRow : OpenClaim := { program := "ytcmgddkifhcmlan", sum := "fe37a9f89d1aca859c1705badfe2e7f77bfb6fc4358ddd8bd0e0bc7e057cbea0", func := "loop.example/drydock/laws.FnWhyNot", spec := "fnWhyNot", unfollowed := true, recurses := true, apart := false }
def FnWhyNotSaid : Prop := fnWhyNotRow.holds Try.pinned (OpenSpec.ofChange fnWhyNotSpec)

/-- ITS FALSE NEIGHBOUR: 'it returns false'. Refute it at one input. -/
def fnWhyNotWrong : ChangeSpec := { name := "fnWhyNot", fn := fun _ => fun
  | [d] => { results := [.lit (.bool false)], args := [d] }
  | _ => none }
def FnWhyNotWrongFalsely : Prop := fnWhyNotRow.holds Try.pinned (OpenSpec.ofChange fnWhyNotWrong)

/-- 'laws.FnWhyKinds': WHATEVER THE INPUT: true; the input reads as it did. -/
def fnWhyKindsSpec : ChangeSpec := { name := "fnWhyKinds", fn := fun _ => fun
  | [d] => { results := [.lit (.bool true)], args := [d] }
  | _ => none }
def fnWhyKindsRow : OpenClaim := { program := "ytcmgddkifhcmlan", sum := "fe37a9f89d1aca859c1705badfe2e7f77bfb6fc4358ddd8bd0e0bc7e057cbea0", func := "loop.example/drydock/laws.FnWhyKinds", spec := "fnWhyKinds", unfollowed := true, recurses := true, apart := false }
def FnWhyKindsSaid : Prop := fnWhyKindsRow.holds Try.pinned (OpenSpec.ofChange fnWhyKindsSpec)

/-- ITS FALSE NEIGHBOUR: 'it returns false'. Refute it at one input. -/
def fnWhyKindsWrong : ChangeSpec := { name := "fnWhyKinds", fn := fun _ => fun
  | [d] => { results := [.lit (.bool false)], args := [d] }
  | _ => none }
def FnWhyKindsWrongFalsely : Prop := fnWhyKindsRow.holds Try.pinned (OpenSpec.ofChange fnWhyKindsWrong)

/-- 'laws.FnWhyLess': WHATEVER THE INPUT: true; the input reads as it did. -/
def fnWhyLessSpec : ChangeSpec := { name := "fnWhyLess", fn := fun _ => fun
  | [d1, d2] => { results := [.lit (.bool true)], args := [d1, d2] }
  | _ => none }
def fnWhyLessRow : OpenClaim := { program := "ytcmgddkifhcmlan", sum := "fe37a9f89d1aca859c1705badfe2e7f77bfb6fc4358ddd8bd0e0bc7e057cbea0", func := "loop.example/drydock/laws.FnWhyLess", spec := "fnWhyLess", unfollowed := true, recurses := true, apart := false }
def FnWhyLessSaid : Prop := fnWhyLessRow.holds Try.pinned (OpenSpec.ofChange fnWhyLessSpec)

/-- ITS FALSE NEIGHBOUR: 'it returns false'. Refute it at one input. -/
def fnWhyLessWrong : ChangeSpec := { name := "fnWhyLess", fn := fun _ => fun
  | [d1, d2] => { results := [.lit (.bool false)], args := [d1, d2] }
  | _ => none }
def FnWhyLessWrongFalsely : Prop := fnWhyLessRow.holds Try.pinned (OpenSpec.ofChange fnWhyLessWrong)

/-- 'laws.FnWhyRoom': WHATEVER THE INPUT: true; the input reads as it did. -/
def fnWhyRoomSpec : ChangeSpec := { name := "fnWhyRoom", fn := fun _ => fun
  | [d] => { results := [.lit (.bool true)], args := [d] }
  | _ => none }
def fnWhyRoomRow : OpenClaim := { program := "ytcmgddkifhcmlan", sum := "fe37a9f89d1aca859c1705badfe2e7f77bfb6fc4358ddd8bd0e0bc7e057cbea0", func := "loop.example/drydock/laws.FnWhyRoom", spec := "fnWhyRoom", unfollowed := true, recurses := true, apart := false }
def FnWhyRoomSaid : Prop := fnWhyRoomRow.holds Try.pinned (OpenSpec.ofChange fnWhyRoomSpec)

/-- ITS FALSE NEIGHBOUR: 'it returns false'. Refute it at one input. -/
def fnWhyRoomWrong : ChangeSpec := { name := "fnWhyRoom", fn := fun _ => fun
  | [d] => { results := [.lit (.bool false)], args := [d] }
  | _ => none }
def FnWhyRoomWrongFalsely : Prop := fnWhyRoomRow.holds Try.pinned (OpenSpec.ofChange fnWhyRoomWrong)

/- THE SECOND FORM. 'bulk': how many values and letters a reading holds, each counted each time it is reached (what is shared counts as often as it is met; a slice's spare places count too). A statement '..UptoSaid' is the law's where the arguments, and the package variables that the reading takes, are together of bulk at most 1048576: NARROWER than '..Said'. Prove '..Said' where nothing that the law and all that it calls make is longer than what came in: it says more and counts as full. Else prove '..UptoSaid'. A law counts once. -/
mutual
def uptoBulk {H : Type} : DataW H → Nat
  | .lit (.string bytes) => bytes.length + 1
  | .lit _ => 1
  | .nil => 1
  | .ptr d => uptoBulk d + 1
  | .slice elems spare => uptoBulkAll elems + uptoBulkAll spare + 1
  | .agg parts => uptoBulkAll parts + 1
  | .iface _ d => uptoBulk d + 1
  | .map entries => uptoBulkEntries entries + 1
  | .held _ => 1
def uptoBulkAll {H : Type} : List (DataW H) → Nat
  | [] => 0
  | d :: r => uptoBulk d + uptoBulkAll r
def uptoBulkEntries {H : Type} : List (Lit × DataW H) → Nat
  | [] => 0
  | x :: r => uptoBulkEntry x + uptoBulkEntries r
def uptoBulkEntry {H : Type} : Lit × DataW H → Nat
  | (.string bytes, d) => bytes.length + uptoBulk d + 1
  | (_, d) => uptoBulk d + 1
 end
def uptoSmall : (H : Type) → List (DataW H) → Bool := fun _ ds => decide (uptoBulkAll ds ≤ 1048576)
def OpenSpec.upto (s : _root_.Go.ChangeSpec) : _root_.Go.OpenSpec := { _root_.Go.OpenSpec.ofChange s with cond := some uptoSmall }

/-- 'laws.FnWhyNot', WHERE WHAT IT READS IS OF BULK AT MOST 1048576: true; the input reads as it did. -/
def fnWhyNotUptoRow : OpenClaim := { program := "ytcmgddkifhcmlan", sum := "fe37a9f89d1aca859c1705badfe2e7f77bfb6fc4358ddd8bd0e0bc7e057cbea0", func := "loop.example/drydock/laws.FnWhyNot", spec := "fnWhyNot", unfollowed := true, recurses := true, apart := false, narrowed := true }
def FnWhyNotUptoSaid : Prop := fnWhyNotUptoRow.holds Try.pinned (OpenSpec.upto fnWhyNotSpec)

/-- 'laws.FnWhyKinds', WHERE WHAT IT READS IS OF BULK AT MOST 1048576: true; the input reads as it did. -/
def fnWhyKindsUptoRow : OpenClaim := { program := "ytcmgddkifhcmlan", sum := "fe37a9f89d1aca859c1705badfe2e7f77bfb6fc4358ddd8bd0e0bc7e057cbea0", func := "loop.example/drydock/laws.FnWhyKinds", spec := "fnWhyKinds", unfollowed := true, recurses := true, apart := false, narrowed := true }
def FnWhyKindsUptoSaid : Prop := fnWhyKindsUptoRow.holds Try.pinned (OpenSpec.upto fnWhyKindsSpec)

/-- 'laws.FnWhyLess', WHERE WHAT IT READS IS OF BULK AT MOST 1048576: true; the input reads as it did. -/
def fnWhyLessUptoRow : OpenClaim := { program := "ytcmgddkifhcmlan", sum := "fe37a9f89d1aca859c1705badfe2e7f77bfb6fc4358ddd8bd0e0bc7e057cbea0", func := "loop.example/drydock/laws.FnWhyLess", spec := "fnWhyLess", unfollowed := true, recurses := true, apart := false, narrowed := true }
def FnWhyLessUptoSaid : Prop := fnWhyLessUptoRow.holds Try.pinned (OpenSpec.upto fnWhyLessSpec)

/-- 'laws.FnWhyRoom', WHERE WHAT IT READS IS OF BULK AT MOST 1048576: true; the input reads as it did. -/
def fnWhyRoomUptoRow : OpenClaim := { program := "ytcmgddkifhcmlan", sum := "fe37a9f89d1aca859c1705badfe2e7f77bfb6fc4358ddd8bd0e0bc7e057cbea0", func := "loop.example/drydock/laws.FnWhyRoom", spec := "fnWhyRoom", unfollowed := true, recurses := true, apart := false, narrowed := true }
def FnWhyRoomUptoSaid : Prop := fnWhyRoomUptoRow.holds Try.pinned (OpenSpec.upto fnWhyRoomSpec)

end Rows
end Go.Proofs.Ytcmgddkifhcmlan
