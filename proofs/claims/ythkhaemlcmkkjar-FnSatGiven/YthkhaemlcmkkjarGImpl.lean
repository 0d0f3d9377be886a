/- The program's own functions on names and requests. The program's own searches, and what asks whether all of a list are ok. The program's own packOk, packsAscend and RepoOk. The program's own packsAscend and RepoOk. -/
import Derived.Test.YthkhaemlcmkkjarGSpec
import Derived.Lib.QuietBelow
namespace Go.Proofs.Ythkhaemlcmkkjar
set_option linter.unusedVariables false
set_option linter.unusedSimpArgs false
open Go.RowKit

set_option maxHeartbeats 400000 in
theorem within_any (n low high : Int) (w : World) :
    Calls Try.prog 40 #[.int .i64 n, .int .i64 low, .int .i64 high] w fun e w' => e = .returned (.bool (inB n low high)) ∧ w' = w := by
  by_cases h1 : low ≤ n
  · by_cases h2 : n ≤ high
    · go_enter Try.func40, Try.ntmps40
      go_wp2
      go_ret
      exact ⟨by simp [inB, h1, h2], rfl⟩
    · go_enter Try.func40, Try.ntmps40
      go_wp2
      go_ret
      exact ⟨by simp [inB, h1, h2], rfl⟩
  · have e : inB n low high = false := by simp [inB, h1]
    go_enter Try.func40, Try.ntmps40
    go_wp2
    go_ret
    exact ⟨by first | rfl | (rw [e]; rfl), rfl⟩

end Go.Proofs.Ythkhaemlcmkkjar

namespace Go.Proofs.Ythkhaemlcmkkjar
set_option linter.unusedVariables false
set_option linter.unusedSimpArgs false
open Go.RowKit

theorem all_of_take {α : Type} {l : List α} {f : α → Bool} {k : Nat} (h : ¬ k < l.length) (hl : (l.take k).all f = true) : l.all f = true := by
  rwa [List.take_of_length_le (by omega)] at hl
theorem all_not_take {α : Type} {l : List α} {d : α} {f : α → Bool} {k : Nat} (h : k < l.length) (hf : f (l.getD k d) = false) : l.all f = false := by
  rw [← List.take_append_drop (k + 1) l, List.all_append, all_take_succ (d := d) h, hf]; simp


end Go.Proofs.Ythkhaemlcmkkjar

namespace Go.Proofs.Ythkhaemlcmkkjar
set_option linter.unusedVariables false
set_option linter.unusedSimpArgs false
open Go.RowKit Go.Sort

end Go.Proofs.Ythkhaemlcmkkjar

namespace Go.Proofs.Ythkhaemlcmkkjar
set_option linter.unusedVariables false
set_option linter.unusedSimpArgs false
open Go.RowKit Go.Sort

end Go.Proofs.Ythkhaemlcmkkjar
