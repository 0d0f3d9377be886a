/- Models ahead of others, and some of the clauses alone: pure. -/
import Derived.Test.YthkhaemlcmkkjahSatC
import Derived.Test.YthkhaemlcmkkjahSatL
namespace Go.Proofs.Ythkhaemlcmkkjah
set_option linter.unusedVariables false
set_option linter.unusedSimpArgs false

/-- What ldAhead answers. -/
def aheadF : List Bool → List Bool → Bool
  | x :: a, y :: b => if x = y then aheadF a b else y
  | _, _ => false
theorem aheadF_is : ∀ (a b : List Bool), aheadF a b = true → AheadB a b
  | x :: a, y :: b, h => by
    unfold aheadF at h
    by_cases e : x = y
    · rw [if_pos e] at h
      obtain ⟨i, h1, h2, h3, h4, h5⟩ := aheadF_is a b h
      refine ⟨i + 1, by simp; omega, by simp; omega, fun j hj => ?_, by simpa using h4, by simpa using h5⟩
      cases j with
      | zero => simpa using e
      | succ j => simpa using h3 j (by omega)
    · rw [if_neg e] at h
      subst h
      refine ⟨0, by simp, by simp, fun j hj => by omega, ?_, by simp⟩
      cases x with
      | false => rfl
      | true => exact absurd rfl e
  | [], _, h => by simp [aheadF] at h
  | _ :: _, [], h => by simp [aheadF] at h
theorem aheadF_not {a b : List Bool} (h : ¬ AheadB a b) : aheadF a b = false := by
  cases e : aheadF a b with
  | false => rfl
  | true => exact absurd (aheadF_is a b e) h
theorem aheadF_nil (a : List Bool) : aheadF a [] = false := by cases a <;> rfl
theorem aheadF_short {a b : List Bool} {k : Nat} (h : ¬ (k < a.length ∧ k < b.length)) : aheadF (a.drop k) (b.drop k) = false := by
  by_cases h1 : k < a.length
  · rw [show b.drop k = [] from List.drop_eq_nil_of_le (by omega)]
    exact aheadF_nil _
  · rw [show a.drop k = [] from List.drop_eq_nil_of_le (by omega)]
    simp [aheadF]
theorem aheadF_at {a b : List Bool} {k : Nat} (h1 : k < a.length) (h2 : k < b.length) : aheadF (a.drop k) (b.drop k) = if a.getD k false = b.getD k false then aheadF (a.drop (k + 1)) (b.drop (k + 1)) else b.getD k false := by
  rw [List.drop_eq_getElem_cons h1, List.drop_eq_getElem_cons h2]
  simp [aheadF, List.getD, h1, h2]
/-- All but one. -/
def lessL {α : Type} (cs : List α) (k : Nat) : List α := cs.take k ++ cs.drop (k + 1)
theorem lessL_mem {α : Type} {cs : List α} {k : Nat} {c : α} (h : c ∈ lessL cs k) : c ∈ cs := by
  rcases List.mem_append.1 h with h | h
  · exact List.mem_of_mem_take h
  · exact List.mem_of_mem_drop h
theorem lessL_len {α : Type} {cs : List α} {k : Nat} (h : k < cs.length) : (lessL cs k).length = cs.length - 1 := by
  simp [lessL, List.length_append, List.length_take, List.length_drop]
  omega
theorem cnf_sub {vars : Int} {cs cs' : List (List Int)} (hok : cnfB vars cs = true) (hl : cs'.length ≤ cs.length) (hc : ∀ c, c ∈ cs' → c ∈ cs) : cnfB vars cs' = true := by
  simp only [cnfB, Bool.and_eq_true, decide_eq_true_eq, List.all_eq_true] at hok ⊢
  exact ⟨hok.1, by omega, fun c h => hok.2.2 c (hc c h)⟩
theorem true_sub {vars : Int} {cs cs' : List (List Int)} {m : List Bool} (h : cnfTrueB vars cs m = true) (hl : cs'.length ≤ cs.length) (hc : ∀ c, c ∈ cs' → c ∈ cs) : cnfTrueB vars cs' m = true := by
  obtain ⟨hok, hlen, hh⟩ := true_parts h
  unfold cnfTrueB
  rw [cnf_sub hok hl hc, decide_eq_true hlen, Bool.true_and, Bool.true_and]
  exact List.all_eq_true.2 fun c h => hh c (hc c h)
theorem less_yes {vars most : Int} {cs cs' : List (List Int)} {m : List Bool} {p : List (List Int)} (h : satZ vars cs most = (1, m, p)) (h12 : vars ≤ 12) (hl : cs'.length ≤ cs.length) (hc : ∀ c, c ∈ cs' → c ∈ cs) : ∃ m' p', satZ vars cs' 3000 = (1, m', p') ∧ aheadF m m' = false := by
  have hy := (sat_yes h).1
  have hs := true_sub hy hl hc
  have h1 := sat_some h12 (by omega) (by omega) hs (most := 3000)
  obtain ⟨k, m', p', e⟩ : ∃ k m' p', satZ vars cs' 3000 = (k, m', p') := ⟨_, _, _, rfl⟩
  rw [e] at h1
  simp only at h1
  subst h1
  exact ⟨m', p', e, aheadF_not (sat_first e hs)⟩
end Go.Proofs.Ythkhaemlcmkkjah
