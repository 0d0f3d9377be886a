/- What of a healthy state is so. -/
import Derived.Test.YthkhaemlcmkkjasGreatGPure
namespace Go.Proofs.YthkhaemlcmkkjasGreat
set_option linter.unusedVariables false
set_option linter.unusedSimpArgs false
open Go.RowKit Go.Deep

theorem ok_form {l : List PackD} {room : Int} {set : List Int} (h : okZ l room set = true) : formB l room set = true := by
  unfold okZ at h
  rw [Bool.and_eq_true] at h
  exact h.1
theorem set_short8 {l : List PackD} {room : Int} {set : List Int} (h : formB l room set = true) : set.length ≤ 8 := by
  have h1 := set_places h
  have h3 : set.length = (set.map Int.toNat).length := by simp
  rw [h3, ← h1]
  exact places_le _ _
theorem below_drewN {B : Nat} {a w : World} (h : Below B a w) (n : Nat) : Below B a (w.drewN n) := h.trans (((Drawn.refl w).more n).below B)
end Go.Proofs.YthkhaemlcmkkjasGreat
