/-
  No cell of these rows narrows 'for every input' (looked for: loops, veiled, ifaces, maps, wideKeys, modest, calm, conditions, laid).
  DERIVED. THE GIVEN ROWS OF THIS SEAT. 4 by the template 'for every input the law returns true; each argument reads behind the call as it read before'; 0 by the template 'total and deterministic' (their statements: YtnegiggafgfmkaaTotals.lean).
  GIVEN WITH THE SEED: the statements are not yours to turn. If you find one false, say at which input.
  Laid BY PROGRAM, IN A SANDBOX (cutbox-rows.mjs): the forced cells as the released guide's own fill.sh prints them over the translation f377875ce6c5581f… (all of the seat's roots in one cut). By AI agents, Wed Nov 11 2026. No macro, syntax, notation, axiom, sorry.
-/
import Derived.Test.YtnegiggafgfmkaaChecked
import GoSem.Claim
import GoSem.ClaimJoined
import GoSem.ClaimMapViews
import Derived.JoinedTies
import Derived.KernelRfl
namespace Go.Proofs.Ytnegiggafgfmkaa
/- THE CELL 'sum', in the pinned program and in every row, IS THE sha256 OF THE DUMP (.gsa) THAT YtnegiggafgfmkaaProg.lean LOADS. Nothing in Lean hashes anything: it is a label: what it is worth is what the hold of that sum in a sandbox is worth. -/
noncomputable def Try.pinned : Pinned := { name := "ytnegiggafgfmkaa", sum := "f377875ce6c5581ff458b9711e005d5b6847f19fb978baefd77e10558be55de4", checked := Try.checked }
namespace Rows
def none {H : Type} : Left H := { results := [], args := [] }

/-- 'laws.FnRepoHits': WHATEVER THE INPUT: true; the input reads as it did. -/
def fnRepoHitsSpec : ChangeSpec := { name := "fnRepoHits", fn := fun _ => fun
  | [d] => { results := [.lit (.bool true)], args := [d] }
  | _ => none }
def fnRepoHitsRow : OpenClaim := { program := "ytnegiggafgfmkaa", sum := "f377875ce6c5581ff458b9711e005d5b6847f19fb978baefd77e10558be55de4", func := "loop.example/drydock/laws.FnRepoHits", spec := "fnRepoHits", unfollowed := true, recurses := true, apart := false }
def FnRepoHitsSaid : Prop := fnRepoHitsRow.holds Try.pinned (OpenSpec.ofChange fnRepoHitsSpec)

/-- ITS FALSE NEIGHBOUR: 'it returns false'. Refute it at one input. -/
def fnRepoHitsWrong : ChangeSpec := { name := "fnRepoHits", fn := fun _ => fun
  | [d] => { results := [.lit (.bool false)], args := [d] }
  | _ => none }
def FnRepoHitsWrongFalsely : Prop := fnRepoHitsRow.holds Try.pinned (OpenSpec.ofChange fnRepoHitsWrong)

/-- 'laws.FnRepoLess': WHATEVER THE INPUT: true; the input reads as it did. -/
def fnRepoLessSpec : ChangeSpec := { name := "fnRepoLess", fn := fun _ => fun
  | [d] => { results := [.lit (.bool true)], args := [d] }
  | _ => none }
def fnRepoLessRow : OpenClaim := { program := "ytnegiggafgfmkaa", sum := "f377875ce6c5581ff458b9711e005d5b6847f19fb978baefd77e10558be55de4", func := "loop.example/drydock/laws.FnRepoLess", spec := "fnRepoLess", unfollowed := true, recurses := true, apart := false }
def FnRepoLessSaid : Prop := fnRepoLessRow.holds Try.pinned (OpenSpec.ofChange fnRepoLessSpec)

/-- ITS FALSE NEIGHBOUR: 'it returns false'. Refute it at one input. -/
def fnRepoLessWrong : ChangeSpec := { name := "fnRepoLess", fn := fun _ => fun
  | [d] => { results := [.lit (.bool false)], args := [d] }
  | _ => none }
def FnRepoLessWrongFalsely : Prop := fnRepoLessRow.holds Try.pinned (OpenSpec.ofChange fnRepoLessWrong)

/-- 'laws.FnRepoWide': WHATEVER THE INPUT: true; the input reads as it did. -/
def fnRepoWideSpec : ChangeSpec := { name := "fnRepoWide", fn := fun _ => fun
  | [d] => { results := [.lit (.bool true)], args := [d] }
  | _ => none }
def fnRepoWideRow : OpenClaim := { program := "ytnegiggafgfmkaa", sum := "f377875ce6c5581ff458b9711e005d5b6847f19fb978baefd77e10558be55de4", func := "loop.example/drydock/laws.FnRepoWide", spec := "fnRepoWide", unfollowed := true, recurses := true, apart := false }
def FnRepoWideSaid : Prop := fnRepoWideRow.holds Try.pinned (OpenSpec.ofChange fnRepoWideSpec)

/-- ITS FALSE NEIGHBOUR: 'it returns false'. Refute it at one input. -/
def fnRepoWideWrong : ChangeSpec := { name := "fnRepoWide", fn := fun _ => fun
  | [d] => { results := [.lit (.bool false)], args := [d] }
  | _ => none }
def FnRepoWideWrongFalsely : Prop := fnRepoWideRow.holds Try.pinned (OpenSpec.ofChange fnRepoWideWrong)

/-- 'laws.FnStateSize': WHATEVER THE INPUT: true; the input reads as it did. -/
def fnStateSizeSpec : ChangeSpec := { name := "fnStateSize", fn := fun _ => fun
  | [d1, d2] => { results := [.lit (.bool true)], args := [d1, d2] }
  | _ => none }
def fnStateSizeRow : OpenClaim := { program := "ytnegiggafgfmkaa", sum := "f377875ce6c5581ff458b9711e005d5b6847f19fb978baefd77e10558be55de4", func := "loop.example/drydock/laws.FnStateSize", spec := "fnStateSize", unfollowed := true, recurses := true, apart := false }
def FnStateSizeSaid : Prop := fnStateSizeRow.holds Try.pinned (OpenSpec.ofChange fnStateSizeSpec)

/-- ITS FALSE NEIGHBOUR: 'it returns false'. Refute it at one input. -/
def fnStateSizeWrong : ChangeSpec := { name := "fnStateSize", fn := fun _ => fun
  | [d1, d2] => { results := [.lit (.bool false)], args := [d1, d2] }
  | _ => none }
def FnStateSizeWrongFalsely : Prop := fnStateSizeRow.holds Try.pinned (OpenSpec.ofChange fnStateSizeWrong)

/- THE SECOND FORM. 'bulk': how many values and letters a reading holds, each counted each time it is reached (what is shared counts as often as it is met; a slice's spare places count too). A statement '..UptoSaid' is the law's where the arguments, and the package variables that the reading takes, are together of bulk at most 1048576: NARROWER than '..Said'. Prove '..Said' where nothing that the law and all that it calls make is longer than what came in: it says more and counts as full. Else prove '..UptoSaid'. A law counts once. -/
mutual
def uptoBulk {H : Type} : DataW H → Nat
  | .lit (.string bytes) => bytes.length + 1
  | .lit _ => 1
  | .nil => 1
  | .ptr d => uptoBulk d + 1
  | .slice elems spare => uptoBulkAll elems + uptoBulkAll spare + 1
  | .agg parts => uptoBulkAll parts + 1
  | .iface _ d => uptoBulk d + 1
  | .map entries => uptoBulkEntries entries + 1
  | .held _ => 1
def uptoBulkAll {H : Type} : List (DataW H) → Nat
  | [] => 0
  | d :: r => uptoBulk d + uptoBulkAll r
def uptoBulkEntries {H : Type} : List (Lit × DataW H) → Nat
  | [] => 0
  | x :: r => uptoBulkEntry x + uptoBulkEntries r
def uptoBulkEntry {H : Type} : Lit × DataW H → Nat
  | (.string bytes, d) => bytes.length + uptoBulk d + 1
  | (_, d) => uptoBulk d + 1
 end
def uptoSmall : (H : Type) → List (DataW H) → Bool := fun _ ds => decide (uptoBulkAll ds ≤ 1048576)
def OpenSpec.upto (s : _root_.Go.ChangeSpec) : _root_.Go.OpenSpec := { _root_.Go.OpenSpec.ofChange s with cond := some uptoSmall }

/-- 'laws.FnRepoHits', WHERE WHAT IT READS IS OF BULK AT MOST 1048576: true; the input reads as it did. -/
def fnRepoHitsUptoRow : OpenClaim := { program := "ytnegiggafgfmkaa", sum := "f377875ce6c5581ff458b9711e005d5b6847f19fb978baefd77e10558be55de4", func := "loop.example/drydock/laws.FnRepoHits", spec := "fnRepoHits", unfollowed := true, recurses := true, apart := false, narrowed := true }
def FnRepoHitsUptoSaid : Prop := fnRepoHitsUptoRow.holds Try.pinned (OpenSpec.upto fnRepoHitsSpec)

/-- 'laws.FnRepoLess', WHERE WHAT IT READS IS OF BULK AT MOST 1048576: true; the input reads as it did. -/
def fnRepoLessUptoRow : OpenClaim := { program := "ytnegiggafgfmkaa", sum := "f377875ce6c5581ff458b9711e005d5b6847f19fb978baefd77e10558be55de4", func := "loop.example/drydock/laws.FnRepoLess", spec := "fnRepoLess", unfollowed := true, recurses := true, apart := false, narrowed := true }
def FnRepoLessUptoSaid : Prop := fnRepoLessUptoRow.holds Try.pinned (OpenSpec.upto fnRepoLessSpec)

/-- 'laws.FnRepoWide', WHERE WHAT IT READS IS OF BULK AT MOST 1048576: true; the input reads as it did. -/
def fnRepoWideUptoRow : OpenClaim := { program := "ytnegiggafgfmkaa", sum := "f377875ce6c5581ff458b9711e005d5b6847f19fb978baefd77e10558be55de4", func := "loop.example/drydock/laws.FnRepoWide", spec := "fnRepoWide", unfollowed := true, recurses := true, apart := false, narrowed := true }
def FnRepoWideUptoSaid : Prop := fnRepoWideUptoRow.holds Try.pinned (OpenSpec.upto fnRepoWideSpec)

/-- 'laws.FnStateSize', WHERE WHAT IT READS IS OF BULK AT MOST 1048576: true; the input reads as it did. -/
def fnStateSizeUptoRow : OpenClaim := { program := "ytnegiggafgfmkaa", sum := "f377875ce6c5581ff458b9711e005d5b6847f19fb978baefd77e10558be55de4", func := "loop.example/drydock/laws.FnStateSize", spec := "fnStateSize", unfollowed := true, recurses := true, apart := false, narrowed := true }
def FnStateSizeUptoSaid : Prop := fnStateSizeUptoRow.holds Try.pinned (OpenSpec.upto fnStateSizeSpec)

end Rows
end Go.Proofs.Ytnegiggafgfmkaa
