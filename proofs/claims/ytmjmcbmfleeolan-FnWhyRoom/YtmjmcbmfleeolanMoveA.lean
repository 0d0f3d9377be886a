/- The program's moveOf: a step as a move, found among all. -/
import Derived.Test.YtmjmcbmfleeolanGMv
import Derived.Test.YtmjmcbmfleeolanGMw
import Derived.Deep.QuietTactic
namespace Go.Proofs.Ytmjmcbmfleeolan
set_option linter.unusedVariables false
set_option linter.unusedSimpArgs false
open Go.RowKit Go.Deep

theorem below_drew9 {B : Nat} {a w : World} (h : Below B a w) (n : Nat) : Below B a (w.drewN n) := h.trans (((Drawn.refl w).more n).below B)
theorem find_at {ms : List MvD} {s : StepD} {k : Nat} (hk : k ≤ ms.length) (h1 : ∀ i, i < k → eqS (ms.getD i (.put 0)).step s = false) (h2 : k < ms.length → eqS (ms.getD k (.put 0)).step s = true) : ms.find? (fun m => eqS m.step s) = if k < ms.length then some (ms.getD k (.put 0)) else none := by
  by_cases hlt : k < ms.length
  · rw [if_pos hlt, List.find?_eq_some_iff_getElem]
    refine ⟨h2 hlt, k, hlt, by simp [List.getD, hlt], fun j hj => ?_⟩
    have := h1 j hj
    simp [List.getD, show j < ms.length by omega] at this
    simpa using this
  · rw [if_neg hlt, List.find?_eq_none]
    intro m hm
    obtain ⟨i, hi, rfl⟩ := List.getElem_of_mem hm
    have := h1 i (by omega)
    simp [List.getD, hi] at this
    simpa using this

end Go.Proofs.Ytmjmcbmfleeolan
