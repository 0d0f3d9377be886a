/- Models ahead of others, and some of the clauses alone: pure. -/
import Derived.Test.YthkhaemlcmkkjaiSatC
import Derived.Test.YthkhaemlcmkkjaiSatL
namespace Go.Proofs.Ythkhaemlcmkkjai
set_option linter.unusedVariables false
set_option linter.unusedSimpArgs false

/-- What ldAhead answers. -/
def aheadF : List Bool → List Bool → Bool
  | x :: a, y :: b => if x = y then aheadF a b else y
  | _, _ => false
theorem aheadF_nil (a : List Bool) : aheadF a [] = false := by cases a <;> rfl
theorem aheadF_short {a b : List Bool} {k : Nat} (h : ¬ (k < a.length ∧ k < b.length)) : aheadF (a.drop k) (b.drop k) = false := by
  by_cases h1 : k < a.length
  · rw [show b.drop k = [] from List.drop_eq_nil_of_le (by omega)]
    exact aheadF_nil _
  · rw [show a.drop k = [] from List.drop_eq_nil_of_le (by omega)]
    simp [aheadF]
theorem aheadF_at {a b : List Bool} {k : Nat} (h1 : k < a.length) (h2 : k < b.length) : aheadF (a.drop k) (b.drop k) = if a.getD k false = b.getD k false then aheadF (a.drop (k + 1)) (b.drop (k + 1)) else b.getD k false := by
  rw [List.drop_eq_getElem_cons h1, List.drop_eq_getElem_cons h2]
  simp [aheadF, List.getD, h1, h2]
/-- All but one. -/
def lessL {α : Type} (cs : List α) (k : Nat) : List α := cs.take k ++ cs.drop (k + 1)
theorem lessL_len {α : Type} {cs : List α} {k : Nat} (h : k < cs.length) : (lessL cs k).length = cs.length - 1 := by
  simp [lessL, List.length_append, List.length_take, List.length_drop]
  omega
end Go.Proofs.Ythkhaemlcmkkjai
