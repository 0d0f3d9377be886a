/- Moves in memory. Whether what comes in has what must be there ahead. Whether a move is allowed: what that is. -/
import Derived.Test.YthkhaemlcmkkjayGMv
import Derived.Test.YthkhaemlcmkkjayGStL
namespace Go.Proofs.Ythkhaemlcmkkjay
set_option linter.unusedVariables false
set_option linter.unusedSimpArgs false
open Go.RowKit Go.Deep

theorem mv_cell {w : World} {B : Nat} {v : Value} {ms : List MvD} (h : w.ownsRow B 113 1 v ms.length (mvVs ms)) {j : Nat} (hj : j < ms.length) : ∃ g cap, v = .slice (some ⟨g, 0, none⟩) ms.length cap ∧ g < w.heap.size ∧ w.cell? ⟨g, j, none⟩ = some (ms.getD j (.put 0)).val := by
  rcases h.2 with ⟨hv, h0⟩ | ⟨g, cap, cur, hv, _, hc, _, _, hsz, hx⟩
  · omega
  · refine ⟨g, cap, hv, (Array.getElem?_eq_some_iff.1 hc).1, ?_⟩
    rw [cell_of_row w g j cur _ _ hc]
    have : (cur.toList.take (ms.length * 1))[j]? = (mvVs ms)[j]? := by rw [hx]
    rw [List.getElem?_take, if_pos (by omega)] at this
    simp [mvVs, List.getD, hj] at this ⊢
    exact this
theorem ok_small {l : List PackD} {room : Int} (h : repoB ⟨l, room⟩ = true) : ∀ i, i < l.length → (l.getD i dPack).deps.length ≤ 4 ∧ (l.getD i dPack).pres.length ≤ 4 := fun i hi => by
  simp only [repoB, Bool.and_eq_true, decide_eq_true_eq] at h
  have := List.all_eq_true.1 h.1.2 _ (getD_mem (d := dPack) hi)
  simp only [packB, reqsB, Bool.and_eq_true, decide_eq_true_eq] at this
  exact ⟨this.1.1.1.2, this.1.2.1⟩
end Go.Proofs.Ythkhaemlcmkkjay

namespace Go.Proofs.Ythkhaemlcmkkjay
set_option linter.unusedVariables false
set_option linter.unusedSimpArgs false
open Go.RowKit Go.Deep

structure CZ (W : World) (b : Bool) (us : List Value) (x : World) : Prop where
  below : Below W.heap.size W x
theorem CZ.on {W : World} {b b' : Bool} {us : List Value} {x y : World} (h : CZ W b us x) (hb : Below x.heap.size x y) : CZ W b' us y := ⟨h.below.trans (hb.mono h.below.size)⟩

end Go.Proofs.Ythkhaemlcmkkjay

namespace Go.Proofs.Ythkhaemlcmkkjay
set_option linter.unusedVariables false
set_option linter.unusedSimpArgs false
open Go.RowKit Go.Deep

/-- A move is of packs that are there. -/
def MvD.within (m : MvD) (n : Nat) : Prop := match m with
  | .put i => i < n
  | .take o => o < n
  | .swap i o => i < n ∧ o < n
theorem within_fine {m : MvD} {n : Nat} (h : m.within n) (hn : n ≤ 8) : m.fine := by
  cases m with
  | put i => exact Nat.lt_of_lt_of_le h (by omega)
  | take o => exact Nat.lt_of_lt_of_le h (by omega)
  | swap i o => exact ⟨Nat.lt_of_lt_of_le h.1 (by omega), Nat.lt_of_lt_of_le h.2 (by omega)⟩
theorem comes_place {m : MvD} {n : Nat} (h : m.within n) : ∀ p ∈ placesTo m.comes 8, p < n := fun p hp => by
  have hb := ((mem_places _ _ _).1 hp).2
  cases m with
  | put i =>
    rw [show (MvD.put i).comes = 2 ^ i from rfl, Nat.testBit_two_pow] at hb
    simp at hb
    rw [← hb]; exact h
  | take o =>
    rw [show (MvD.take o).comes = 0 from rfl, Nat.zero_testBit] at hb
    cases hb
  | swap i o =>
    rw [show (MvD.swap i o).comes = 2 ^ i from rfl, Nat.testBit_two_pow] at hb
    simp at hb
    rw [← hb]; exact h.1
end Go.Proofs.Ythkhaemlcmkkjay
