/- Moves in memory. -/
import Derived.Test.YtnegiggafgfmkaxGMv
namespace Go.Proofs.Ytnegiggafgfmkax
set_option linter.unusedVariables false
set_option linter.unusedSimpArgs false
open Go.RowKit Go.Deep

theorem mv_cell {w : World} {B : Nat} {v : Value} {ms : List MvD} (h : w.ownsRow B 65 1 v ms.length (mvVs ms)) {j : Nat} (hj : j < ms.length) : ∃ g cap, v = .slice (some ⟨g, 0, none⟩) ms.length cap ∧ g < w.heap.size ∧ w.cell? ⟨g, j, none⟩ = some (ms.getD j (.put 0)).val := by
  rcases h.2 with ⟨hv, h0⟩ | ⟨g, cap, cur, hv, _, hc, _, _, hsz, hx⟩
  · omega
  · refine ⟨g, cap, hv, (Array.getElem?_eq_some_iff.1 hc).1, ?_⟩
    rw [cell_of_row w g j cur _ _ hc]
    have : (cur.toList.take (ms.length * 1))[j]? = (mvVs ms)[j]? := by rw [hx]
    rw [List.getElem?_take, if_pos (by omega)] at this
    simp [mvVs, List.getD, hj] at this ⊢
    exact this
theorem ok_small {l : List PackD} {room : Int} (h : repoB ⟨l, room⟩ = true) : ∀ i, i < l.length → (l.getD i dPack).deps.length ≤ 4 ∧ (l.getD i dPack).pres.length ≤ 4 := fun i hi => by
  simp only [repoB, Bool.and_eq_true, decide_eq_true_eq] at h
  have := List.all_eq_true.1 h.1.2 _ (getD_mem (d := dPack) hi)
  simp only [packB, reqsB, Bool.and_eq_true, decide_eq_true_eq] at this
  exact ⟨this.1.1.1.2, this.1.2.1⟩
end Go.Proofs.Ytnegiggafgfmkax
