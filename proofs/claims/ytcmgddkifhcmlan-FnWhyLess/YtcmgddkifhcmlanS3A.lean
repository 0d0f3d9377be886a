/- The specification's states with one more, one less, and whether one is there. -/
import Derived.Test.YtcmgddkifhcmlanGStL
namespace Go.Proofs.Ytcmgddkifhcmlan
set_option linter.unusedVariables false
set_option linter.unusedSimpArgs false
open Go.RowKit Go.Deep

/-- A state with one more: what is built behind k places, and whether it is in already. -/
def putGo (set : List Int) (n : Int) : Nat → List Int × Bool
  | 0 => ([], false)
  | k + 1 => if (!(putGo set n k).2 && decide (n < set.getD k 0)) then ((putGo set n k).1 ++ [n] ++ [set.getD k 0], true) else ((putGo set n k).1 ++ [set.getD k 0], (putGo set n k).2)
def putZ (set : List Int) (n : Int) : List Int := if (putGo set n set.length).2 then (putGo set n set.length).1 else (putGo set n set.length).1 ++ [n]
theorem putGo_len (set : List Int) (n : Int) : ∀ k, (putGo set n k).1.length ≤ 2 * k
  | 0 => Nat.le_refl _
  | k + 1 => by
    have := putGo_len set n k
    unfold putGo
    split
    · simp; omega
    · simp; omega

theorem putZ_len (set : List Int) (n : Int) : (putZ set n).length ≤ 2 * set.length + 1 := by
  have := putGo_len set n set.length
  unfold putZ
  split
  · omega
  · simp; omega
end Go.Proofs.Ytcmgddkifhcmlan
