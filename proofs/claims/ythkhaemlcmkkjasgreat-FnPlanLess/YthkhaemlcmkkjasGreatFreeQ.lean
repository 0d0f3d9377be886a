/- Packs that ask for nothing: what is healthy is so still; pure. -/
import Derived.Test.YthkhaemlcmkkjasGreatGForm
import Derived.Test.YthkhaemlcmkkjasGreatGSv
import Derived.Test.YthkhaemlcmkkjasGreatOkPure
import Derived.Test.YthkhaemlcmkkjasGreatGPure
import Derived.Test.YthkhaemlcmkkjasGreatLdFree
namespace Go.Proofs.YthkhaemlcmkkjasGreat
set_option linter.unusedVariables false
set_option linter.unusedSimpArgs false
open Go.RowKit Go.Deep

theorem free_pack {p : PackD} (h : packB p = true) : packB (freeP p) = true := by
  simp only [packB, freeP, Bool.and_eq_true] at h ⊢
  simp [h, reqsB]
theorem free_repo {l : List PackD} {room : Int} (h : repoB ⟨l, room⟩ = true) : repoB ⟨l.map freeP, room⟩ = true := by
  simp only [repoB, Bool.and_eq_true, decide_eq_true_eq] at h ⊢
  obtain ⟨⟨⟨h1, h2⟩, h3⟩, h4⟩ := h
  refine ⟨⟨⟨by simpa using h1, h2⟩, ?_⟩, ?_⟩
  · rw [List.all_eq_true] at h3 ⊢
    intro p hp
    obtain ⟨q, hq, rfl⟩ := List.mem_map.1 hp
    exact free_pack (h3 q hq)
  · unfold ascB at h4 ⊢
    rw [List.all_eq_true] at h4 ⊢
    intro i hi
    have hi' := List.mem_range.1 hi
    simp at hi'
    have := h4 i (List.mem_range.2 (by omega))
    have e : ∀ j, j < l.length → (l.map freeP).getD j dPack = freeP (l.getD j dPack) := fun j hj => by simp [List.getD, hj]
    rw [e i (by omega), e (i + 1) (by omega)]
    exact this
theorem free_at {l : List PackD} (j : Nat) : (l.map freeP).getD j dPack = freeP (l.getD j dPack) := by
  simp only [List.getD, List.getElem?_map]
  cases l[j]? <;> rfl
theorem free_form {l : List PackD} {room : Int} {set : List Int} (h : repoB ⟨l, room⟩ = true) : formB (l.map freeP) room set = formB l room set := by
  unfold formB
  rw [free_repo h, h, List.length_map]
theorem free_sum (l : List PackD) (set : List Int) : ∀ k, sumTo (l.map freeP) set k = sumTo l set k
  | 0 => rfl
  | k + 1 => by simp only [sumTo, free_sum l set k, free_at, freeP]
theorem free_twice (l : List PackD) (set : List Int) (i : Nat) : twiceB (l.map freeP) set i = twiceB l set i := by
  unfold twiceB packOf
  rw [free_at, free_at]
  rfl
theorem free_place (l : List PackD) (set : List Int) {i : Nat} (hi : i < set.length) : placeOk (l.map freeP) set i = !twiceB (l.map freeP) set i := by
  unfold placeOk packOf
  rw [free_at]
  have : ∀ no, someB (l.map freeP) set [] no = false := fun no => by
    unfold someB oneB anyB
    simp
  simp [freeP, this]
theorem free_of_ok {l : List PackD} {room : Int} {set : List Int} (h : okZ l room set = true) : okZ (l.map freeP) room set = true := by
  have hf := ok_form h
  have hr : repoB ⟨l, room⟩ = true := by
    unfold formB at hf
    rw [Bool.and_eq_true] at hf
    exact hf.2
  rw [← spec_okZ] at h ⊢
  unfold specOk at h ⊢
  rw [free_form hr, free_sum]
  simp only [Bool.and_eq_true] at h ⊢
  refine ⟨h.1, ?_⟩
  have h2 := h.2
  rw [List.all_eq_true] at h2 ⊢
  intro i hi
  have := h2 i hi
  rw [free_place l set (List.mem_range.1 hi), free_twice]
  unfold placeOk at this
  simp only [Bool.and_eq_true] at this
  exact this.1.1
end Go.Proofs.YthkhaemlcmkkjasGreat
