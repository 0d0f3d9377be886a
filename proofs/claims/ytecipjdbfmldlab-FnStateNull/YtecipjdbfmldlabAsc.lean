/- Packs in order: without the last one they are ok still; with the first one once more they are not. -/
import Derived.Test.YtecipjdbfmldlabData
namespace Go.Proofs.Ytecipjdbfmldlab
set_option linter.unusedVariables false
set_option linter.unusedSimpArgs false

theorem less_trans : ∀ (a b c : List UInt8), Op.bytesLess a b = true → Op.bytesLess b c = true → Op.bytesLess a c = true
  | [], [], c, h, _ => by simp [Op.bytesLess] at h
  | [], x :: b, [], _, h => by simp [Op.bytesLess] at h
  | [], x :: b, y :: c, _, _ => by simp [Op.bytesLess]
  | x :: a, [], c, h, _ => by simp [Op.bytesLess] at h
  | x :: a, y :: b, [], _, h => by simp [Op.bytesLess] at h
  | x :: a, y :: b, z :: c, h, k => by
    have ih := less_trans a b c
    simp [Op.bytesLess] at h k ⊢
    rcases h with h | ⟨h1, h2⟩
    · rcases k with k | ⟨k1, k2⟩
      · left; exact UInt8.lt_trans h k
      · left; rw [← k1]; exact h
    · rcases k with k | ⟨k1, k2⟩
      · left; rw [h1]; exact k
      · right; exact ⟨h1.trans k1, ih h2 k2⟩
theorem ahead_irrefl (p : PackD) : aheadB p p = false := by simp [aheadB, less_irrefl]
theorem ahead_trans {a b c : PackD} (h : aheadB a b = true) (k : aheadB b c = true) : aheadB a c = true := by
  simp only [aheadB, Bool.or_eq_true, Bool.and_eq_true, beq_iff_eq, decide_eq_true_eq] at h k ⊢
  rcases h with h | ⟨h1, h2⟩
  · rcases k with k | ⟨k1, k2⟩
    · left; exact less_trans _ _ _ h k
    · left; rw [← k1]; exact h
  · rcases k with k | ⟨k1, k2⟩
    · left; rw [h1]; exact k
    · right; exact ⟨h1.trans k1, by omega⟩
theorem asc_at {l : List PackD} (h : ascB l = true) {i : Nat} (hi : i + 1 < l.length) : aheadB (l.getD i dPack) (l.getD (i + 1) dPack) = true :=
  List.all_eq_true.1 h i (List.mem_range.2 (by omega))
theorem asc_far {l : List PackD} (h : ascB l = true) {i : Nat} : ∀ j, i + j + 1 < l.length → aheadB (l.getD i dPack) (l.getD (i + j + 1) dPack) = true
  | 0, hj => asc_at h hj
  | j + 1, hj => ahead_trans (asc_far h j (by omega)) (asc_at h (i := i + j + 1) (by omega))
theorem repo_less {l : List PackD} {room : Int} (h : repoB ⟨l, room⟩ = true) : repoB ⟨l.take (l.length - 1), room⟩ = true := by
  simp only [repoB, Bool.and_eq_true, decide_eq_true_eq] at h ⊢
  obtain ⟨⟨⟨h1, h2⟩, h3⟩, h4⟩ := h
  refine ⟨⟨⟨by simp; omega, h2⟩, ?_⟩, ?_⟩
  · exact List.all_eq_true.2 fun p hp => List.all_eq_true.1 h3 p (List.mem_of_mem_take hp)
  · refine List.all_eq_true.2 fun i hi => ?_
    have hi' := List.mem_range.1 hi
    simp at hi'
    have e : ∀ j, j < l.length - 1 → (l.take (l.length - 1)).getD j dPack = l.getD j dPack := fun j hj => by
      have hj2 : j < l.length := by omega
      simp [List.getD, List.getElem?_take, hj, hj2]
    rw [e i (by omega), e (i + 1) (by omega)]
    exact asc_at h4 (by omega)
theorem repo_twice {l : List PackD} {room : Int} (hl : 0 < l.length) : repoB ⟨l ++ [l.getD 0 dPack], room⟩ = false := by
  cases h : repoB ⟨l ++ [l.getD 0 dPack], room⟩ with
  | false => rfl
  | true =>
    simp only [repoB, Bool.and_eq_true, decide_eq_true_eq] at h
    have h4 := h.2
    have := asc_far h4 (i := 0) (l.length - 1) (by simp; omega)
    have e0 : (l ++ [l.getD 0 dPack]).getD 0 dPack = l.getD 0 dPack := by simp [List.getD, List.getElem?_append, hl]
    have e1 : (l ++ [l.getD 0 dPack]).getD (0 + (l.length - 1) + 1) dPack = l.getD 0 dPack := by
      rw [show 0 + (l.length - 1) + 1 = l.length by omega]
      simp [List.getD]
    rw [e0, e1, ahead_irrefl] at this
    cases this
end Go.Proofs.Ytecipjdbfmldlab
