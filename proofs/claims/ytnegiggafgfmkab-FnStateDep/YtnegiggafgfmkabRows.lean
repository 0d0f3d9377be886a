/-
  No cell of these rows narrows 'for every input' (looked for: loops, veiled, ifaces, maps, wideKeys, modest, calm, conditions, laid).
  DERIVED. THE GIVEN ROWS OF THIS SEAT. 6 by the template 'for every input the law returns true; each argument reads behind the call as it read before'; 0 by the template 'total and deterministic' (their statements: YtnegiggafgfmkabTotals.lean).
  GIVEN WITH THE SEED: the statements are not yours to turn. If you find one false, say at which input.
  Laid BY PROGRAM, IN A SANDBOX (cutbox-rows.mjs): the forced cells as the released guide's own fill.sh prints them over the translation 6938a70e8668c2e1… (all of the seat's roots in one cut). By AI agents, Wed Nov 11 2026. No macro, syntax, notation, axiom, sorry.
-/
import Derived.Test.YtnegiggafgfmkabChecked
import GoSem.Claim
import GoSem.ClaimJoined
import GoSem.ClaimMapViews
import Derived.JoinedTies
import Derived.KernelRfl
namespace Go.Proofs.Ytnegiggafgfmkab
/- THE CELL 'sum', in the pinned program and in every row, IS THE sha256 OF THE DUMP (.gsa) THAT YtnegiggafgfmkabProg.lean LOADS. Nothing in Lean hashes anything: it is a label: what it is worth is what the hold of that sum in a sandbox is worth. -/
noncomputable def Try.pinned : Pinned := { name := "ytnegiggafgfmkab", sum := "6938a70e8668c2e1c7d92886721c237526ef8e9d5291a0e531957c6d02003897", checked := Try.checked }
namespace Rows
def none {H : Type} : Left H := { results := [], args := [] }

/-- 'laws.FnStateOk': WHATEVER THE INPUT: true; the input reads as it did. -/
def fnStateOkSpec : ChangeSpec := { name := "fnStateOk", fn := fun _ => fun
  | [d] => { results := [.lit (.bool true)], args := [d] }
  | _ => none }
def fnStateOkRow : OpenClaim := { program := "ytnegiggafgfmkab", sum := "6938a70e8668c2e1c7d92886721c237526ef8e9d5291a0e531957c6d02003897", func := "loop.example/drydock/laws.FnStateOk", spec := "fnStateOk", unfollowed := true, recurses := true, apart := false }
def FnStateOkSaid : Prop := fnStateOkRow.holds Try.pinned (OpenSpec.ofChange fnStateOkSpec)

/-- ITS FALSE NEIGHBOUR: 'it returns false'. Refute it at one input. -/
def fnStateOkWrong : ChangeSpec := { name := "fnStateOk", fn := fun _ => fun
  | [d] => { results := [.lit (.bool false)], args := [d] }
  | _ => none }
def FnStateOkWrongFalsely : Prop := fnStateOkRow.holds Try.pinned (OpenSpec.ofChange fnStateOkWrong)

/-- 'laws.FnStateNull': WHATEVER THE INPUT: true; the input reads as it did. -/
def fnStateNullSpec : ChangeSpec := { name := "fnStateNull", fn := fun _ => fun
  | [d] => { results := [.lit (.bool true)], args := [d] }
  | _ => none }
def fnStateNullRow : OpenClaim := { program := "ytnegiggafgfmkab", sum := "6938a70e8668c2e1c7d92886721c237526ef8e9d5291a0e531957c6d02003897", func := "loop.example/drydock/laws.FnStateNull", spec := "fnStateNull", unfollowed := true, recurses := true, apart := false }
def FnStateNullSaid : Prop := fnStateNullRow.holds Try.pinned (OpenSpec.ofChange fnStateNullSpec)

/-- ITS FALSE NEIGHBOUR: 'it returns false'. Refute it at one input. -/
def fnStateNullWrong : ChangeSpec := { name := "fnStateNull", fn := fun _ => fun
  | [d] => { results := [.lit (.bool false)], args := [d] }
  | _ => none }
def FnStateNullWrongFalsely : Prop := fnStateNullRow.holds Try.pinned (OpenSpec.ofChange fnStateNullWrong)

/-- 'laws.FnStateList': WHATEVER THE INPUT: true; the input reads as it did. -/
def fnStateListSpec : ChangeSpec := { name := "fnStateList", fn := fun _ => fun
  | [d1, d2] => { results := [.lit (.bool true)], args := [d1, d2] }
  | _ => none }
def fnStateListRow : OpenClaim := { program := "ytnegiggafgfmkab", sum := "6938a70e8668c2e1c7d92886721c237526ef8e9d5291a0e531957c6d02003897", func := "loop.example/drydock/laws.FnStateList", spec := "fnStateList", unfollowed := true, recurses := true, apart := false }
def FnStateListSaid : Prop := fnStateListRow.holds Try.pinned (OpenSpec.ofChange fnStateListSpec)

/-- ITS FALSE NEIGHBOUR: 'it returns false'. Refute it at one input. -/
def fnStateListWrong : ChangeSpec := { name := "fnStateList", fn := fun _ => fun
  | [d1, d2] => { results := [.lit (.bool false)], args := [d1, d2] }
  | _ => none }
def FnStateListWrongFalsely : Prop := fnStateListRow.holds Try.pinned (OpenSpec.ofChange fnStateListWrong)

/-- 'laws.FnStateRoom': WHATEVER THE INPUT: true; the input reads as it did. -/
def fnStateRoomSpec : ChangeSpec := { name := "fnStateRoom", fn := fun _ => fun
  | [d1, d2] => { results := [.lit (.bool true)], args := [d1, d2] }
  | _ => none }
def fnStateRoomRow : OpenClaim := { program := "ytnegiggafgfmkab", sum := "6938a70e8668c2e1c7d92886721c237526ef8e9d5291a0e531957c6d02003897", func := "loop.example/drydock/laws.FnStateRoom", spec := "fnStateRoom", unfollowed := true, recurses := true, apart := false }
def FnStateRoomSaid : Prop := fnStateRoomRow.holds Try.pinned (OpenSpec.ofChange fnStateRoomSpec)

/-- ITS FALSE NEIGHBOUR: 'it returns false'. Refute it at one input. -/
def fnStateRoomWrong : ChangeSpec := { name := "fnStateRoom", fn := fun _ => fun
  | [d1, d2] => { results := [.lit (.bool false)], args := [d1, d2] }
  | _ => none }
def FnStateRoomWrongFalsely : Prop := fnStateRoomRow.holds Try.pinned (OpenSpec.ofChange fnStateRoomWrong)

/-- 'laws.FnStateDep': WHATEVER THE INPUT: true; the input reads as it did. -/
def fnStateDepSpec : ChangeSpec := { name := "fnStateDep", fn := fun _ => fun
  | [d] => { results := [.lit (.bool true)], args := [d] }
  | _ => none }
def fnStateDepRow : OpenClaim := { program := "ytnegiggafgfmkab", sum := "6938a70e8668c2e1c7d92886721c237526ef8e9d5291a0e531957c6d02003897", func := "loop.example/drydock/laws.FnStateDep", spec := "fnStateDep", unfollowed := true, recurses := true, apart := false }
def FnStateDepSaid : Prop := fnStateDepRow.holds Try.pinned (OpenSpec.ofChange fnStateDepSpec)

/-- ITS FALSE NEIGHBOUR: 'it returns false'. Refute it at one input. -/
def fnStateDepWrong : ChangeSpec := { name := "fnStateDep", fn := fun _ => fun
  | [d] => { results := [.lit (.bool false)], args := [d] }
  | _ => none }
def FnStateDepWrongFalsely : Prop := fnStateDepRow.holds Try.pinned (OpenSpec.ofChange fnStateDepWrong)

/-- 'laws.FnStateBan': WHATEVER THE INPUT: true; the input reads as it did. -/
def fnStateBanSpec : ChangeSpec := { name := "fnStateBan", fn := fun _ => fun
  | [d] => { results := [.lit (.bool true)], args := [d] }
  | _ => none }
def fnStateBanRow : OpenClaim := { program := "ytnegiggafgfmkab", sum := "6938a70e8668c2e1c7d92886721c237526ef8e9d5291a0e531957c6d02003897", func := "loop.example/drydock/laws.FnStateBan", spec := "fnStateBan", unfollowed := true, recurses := true, apart := false }
def FnStateBanSaid : Prop := fnStateBanRow.holds Try.pinned (OpenSpec.ofChange fnStateBanSpec)

/-- ITS FALSE NEIGHBOUR: 'it returns false'. Refute it at one input. -/
def fnStateBanWrong : ChangeSpec := { name := "fnStateBan", fn := fun _ => fun
  | [d] => { results := [.lit (.bool false)], args := [d] }
  | _ => none }
def FnStateBanWrongFalsely : Prop := fnStateBanRow.holds Try.pinned (OpenSpec.ofChange fnStateBanWrong)

/- THE SECOND FORM. 'bulk': how many values and letters a reading holds, each counted each time it is reached (what is shared counts as often as it is met; a slice's spare places count too). A statement '..UptoSaid' is the law's where the arguments, and the package variables that the reading takes, are together of bulk at most 1048576: NARROWER than '..Said'. Prove '..Said' where nothing that the law and all that it calls make is longer than what came in: it says more and counts as full. Else prove '..UptoSaid'. A law counts once. -/
mutual
def uptoBulk {H : Type} : DataW H → Nat
  | .lit (.string bytes) => bytes.length + 1
  | .lit _ => 1
  | .nil => 1
  | .ptr d => uptoBulk d + 1
  | .slice elems spare => uptoBulkAll elems + uptoBulkAll spare + 1
  | .agg parts => uptoBulkAll parts + 1
  | .iface _ d => uptoBulk d + 1
  | .map entries => uptoBulkEntries entries + 1
  | .held _ => 1
def uptoBulkAll {H : Type} : List (DataW H) → Nat
  | [] => 0
  | d :: r => uptoBulk d + uptoBulkAll r
def uptoBulkEntries {H : Type} : List (Lit × DataW H) → Nat
  | [] => 0
  | x :: r => uptoBulkEntry x + uptoBulkEntries r
def uptoBulkEntry {H : Type} : Lit × DataW H → Nat
  | (.string bytes, d) => bytes.length + uptoBulk d + 1
  | (_, d) => uptoBulk d + 1
 end
def uptoSmall : (H : Type) → List (DataW H) → Bool := fun _ ds => decide (uptoBulkAll ds ≤ 1048576)
def OpenSpec.upto (s : _root_.Go.ChangeSpec) : _root_.Go.OpenSpec := { _root_.Go.OpenSpec.ofChange s with cond := some uptoSmall }

/-- 'laws.FnStateOk', WHERE WHAT IT READS IS OF BULK AT MOST 1048576: true; the input reads as it did. -/
def fnStateOkUptoRow : OpenClaim := { program := "ytnegiggafgfmkab", sum := "6938a70e8668c2e1c7d92886721c237526ef8e9d5291a0e531957c6d02003897", func := "loop.example/drydock/laws.FnStateOk", spec := "fnStateOk", unfollowed := true, recurses := true, apart := false, narrowed := true }
def FnStateOkUptoSaid : Prop := fnStateOkUptoRow.holds Try.pinned (OpenSpec.upto fnStateOkSpec)

/-- 'laws.FnStateNull', WHERE WHAT IT READS IS OF BULK AT MOST 1048576: true; the input reads as it did. -/
def fnStateNullUptoRow : OpenClaim := { program := "ytnegiggafgfmkab", sum := "6938a70e8668c2e1c7d92886721c237526ef8e9d5291a0e531957c6d02003897", func := "loop.example/drydock/laws.FnStateNull", spec := "fnStateNull", unfollowed := true, recurses := true, apart := false, narrowed := true }
def FnStateNullUptoSaid : Prop := fnStateNullUptoRow.holds Try.pinned (OpenSpec.upto fnStateNullSpec)

/-- 'laws.FnStateList', WHERE WHAT IT READS IS OF BULK AT MOST 1048576: true; the input reads as it did. -/
def fnStateListUptoRow : OpenClaim := { program := "ytnegiggafgfmkab", sum := "6938a70e8668c2e1c7d92886721c237526ef8e9d5291a0e531957c6d02003897", func := "loop.example/drydock/laws.FnStateList", spec := "fnStateList", unfollowed := true, recurses := true, apart := false, narrowed := true }
def FnStateListUptoSaid : Prop := fnStateListUptoRow.holds Try.pinned (OpenSpec.upto fnStateListSpec)

/-- 'laws.FnStateRoom', WHERE WHAT IT READS IS OF BULK AT MOST 1048576: true; the input reads as it did. -/
def fnStateRoomUptoRow : OpenClaim := { program := "ytnegiggafgfmkab", sum := "6938a70e8668c2e1c7d92886721c237526ef8e9d5291a0e531957c6d02003897", func := "loop.example/drydock/laws.FnStateRoom", spec := "fnStateRoom", unfollowed := true, recurses := true, apart := false, narrowed := true }
def FnStateRoomUptoSaid : Prop := fnStateRoomUptoRow.holds Try.pinned (OpenSpec.upto fnStateRoomSpec)

/-- 'laws.FnStateDep', WHERE WHAT IT READS IS OF BULK AT MOST 1048576: true; the input reads as it did. -/
def fnStateDepUptoRow : OpenClaim := { program := "ytnegiggafgfmkab", sum := "6938a70e8668c2e1c7d92886721c237526ef8e9d5291a0e531957c6d02003897", func := "loop.example/drydock/laws.FnStateDep", spec := "fnStateDep", unfollowed := true, recurses := true, apart := false, narrowed := true }
def FnStateDepUptoSaid : Prop := fnStateDepUptoRow.holds Try.pinned (OpenSpec.upto fnStateDepSpec)

/-- 'laws.FnStateBan', WHERE WHAT IT READS IS OF BULK AT MOST 1048576: true; the input reads as it did. -/
def fnStateBanUptoRow : OpenClaim := { program := "ytnegiggafgfmkab", sum := "6938a70e8668c2e1c7d92886721c237526ef8e9d5291a0e531957c6d02003897", func := "loop.example/drydock/laws.FnStateBan", spec := "fnStateBan", unfollowed := true, recurses := true, apart := false, narrowed := true }
def FnStateBanUptoSaid : Prop := fnStateBanUptoRow.holds Try.pinned (OpenSpec.upto fnStateBanSpec)

end Rows
end Go.Proofs.Ytnegiggafgfmkab
