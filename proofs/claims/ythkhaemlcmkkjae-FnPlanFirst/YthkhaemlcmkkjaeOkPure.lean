/- What of a healthy state is so. -/
import Derived.Test.YthkhaemlcmkkjaeGPure
namespace Go.Proofs.Ythkhaemlcmkkjae
set_option linter.unusedVariables false
set_option linter.unusedSimpArgs false
open Go.RowKit Go.Deep

theorem set_short8 {l : List PackD} {room : Int} {set : List Int} (h : formB l room set = true) : set.length ≤ 8 := by
  have h1 := set_places h
  have h3 : set.length = (set.map Int.toNat).length := by simp
  rw [h3, ← h1]
  exact places_le _ _
theorem below_drewN {B : Nat} {a w : World} (h : Below B a w) (n : Nat) : Below B a (w.drewN n) := h.trans (((Drawn.refl w).more n).below B)
end Go.Proofs.Ythkhaemlcmkkjae
