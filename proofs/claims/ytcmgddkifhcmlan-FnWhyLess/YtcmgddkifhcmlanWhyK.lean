/- What each fault says: pure (for FnWhyKinds and FnWhyLess). -/
import Derived.Test.YtcmgddkifhcmlanWhyQ
namespace Go.Proofs.Ytcmgddkifhcmlan
set_option linter.unusedVariables false
set_option linter.unusedSimpArgs false
open Go.RowKit Go.Deep

theorem coll_mem {f : Nat → Option StepD} {n : Nat} {s : StepD} (h : s ∈ coll f n) : ∃ k, k < n ∧ f k = some s := by
  unfold coll at h
  obtain ⟨k, hk, hs⟩ := List.mem_filterMap.1 h
  exact ⟨k, List.mem_range.1 hk, hs⟩
/-- What a fault says of a state. -/
def FaultB (l : List PackD) (room : Int) (set : List Int) (s : StepD) : Prop :=
  (s.kind = 1 ∧ s.inn = -1 ∧ s.out = sizeZ l room set - room ∧ 1 ≤ s.out) ∨
  (∃ i k, i < set.length ∧ k < i ∧ s = ⟨2, set.getD i 0, set.getD k 0⟩ ∧ (packOf l set k).name.toList = (packOf l set i).name.toList) ∨
  (∃ i j, i < set.length ∧ j < (packOf l set i).deps.length ∧ s = ⟨3, set.getD i 0, (j : Int)⟩ ∧ someB l set ((packOf l set i).deps.getD j []) (-1) = false) ∨
  (∃ i k, i < set.length ∧ k < set.length ∧ k ≠ i ∧ s = ⟨4, set.getD i 0, set.getD k 0⟩ ∧ someB l [set.getD k 0] (packOf l set i).bans (-1) = true)
theorem why_says {l : List PackD} {room : Int} {set : List Int} {s : StepD} (h : s ∈ whyZ l room set) : formB l room set = true ∧ FaultB l room set s := by
  rw [why_same] at h
  unfold specWhy at h
  cases hf : formB l room set with
  | false => rw [hf] at h; cases h
  | true =>
    rw [hf, if_pos rfl] at h
    refine ⟨rfl, ?_⟩
    rcases List.mem_append.1 h with h | h
    · unfold lackS at h
      split at h
      · rename_i hr
        simp at h
        subst h
        exact Or.inl ⟨rfl, rfl, rfl, by show 1 ≤ sizeZ l room set - room; omega⟩
      · cases h
    · obtain ⟨i, hi, h⟩ := List.mem_flatMap.1 h
      have hi := List.mem_range.1 hi
      unfold placeL at h
      rcases List.mem_append.1 h with h | h
      · obtain ⟨k, hk, hs⟩ := coll_mem h
        unfold twF at hs
        split at hs
        · rename_i hn
          simp at hs
          exact Or.inr (Or.inl ⟨i, k, hi, hk, hs.symm, by simpa using hn⟩)
        · cases hs
      · rcases List.mem_append.1 h with h | h
        · obtain ⟨j, hj, hs⟩ := coll_mem h
          unfold dpF at hs
          split at hs
          · cases hs
          · rename_i hn
            simp at hs
            exact Or.inr (Or.inr (Or.inl ⟨i, j, hi, hj, hs.symm, by simpa using hn⟩))
        · obtain ⟨k, hk, hs⟩ := coll_mem h
          unfold bnF at hs
          split at hs
          · rename_i hn
            rw [Bool.and_eq_true, decide_eq_true_eq] at hn
            simp at hs
            exact Or.inr (Or.inr (Or.inr ⟨i, k, hi, hk, hn.1, hs.symm, hn.2⟩))
          · cases hs
/-- The pack of a fault is there, or none. -/
theorem why_pack {l : List PackD} {room : Int} {set : List Int} {s : StepD} (h : s ∈ whyZ l room set) : s.inn = -1 ∨ s.inn ∈ set := by
  obtain ⟨_, hs⟩ := why_says h
  rcases hs with ⟨_, h1, _⟩ | ⟨i, k, hi, _, rfl, _⟩ | ⟨i, j, hi, _, rfl, _⟩ | ⟨i, k, hi, _, _, rfl, _⟩
  · exact Or.inl h1
  · exact Or.inr (getD_mem hi)
  · exact Or.inr (getD_mem hi)
  · exact Or.inr (getD_mem hi)
/-- None of a state's packs fits a row that it lacks. -/
theorem some_none {l : List PackD} {set : List Int} {row : List ReqD} (h : someB l set row (-1) = false) {k : Nat} (hk : k < set.length) (hp : 0 ≤ set.getD k 0) : anyB row (packOf l set k) = false := by
  unfold someB at h
  rw [List.any_eq_false] at h
  have := h k (List.mem_range.2 hk)
  unfold oneB at this
  cases ha : anyB row (packOf l set k) with
  | false => rfl
  | true =>
    exfalso
    apply this
    have e : anyB row (l.getD (set.getD k 0).toNat dPack) = true := ha
    rw [e, Bool.and_true, decide_eq_true_eq]
    omega
end Go.Proofs.Ytcmgddkifhcmlan
