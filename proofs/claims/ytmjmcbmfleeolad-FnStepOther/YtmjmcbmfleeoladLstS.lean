/- Rows of numbers: one row more. -/
import Derived.Test.YtmjmcbmfleeoladGStL
namespace Go.Proofs.Ytmjmcbmfleeolad
set_option linter.unusedVariables false
set_option linter.unusedSimpArgs false
open Go.RowKit Go.Deep

theorem LstI.snoc {B : Nat} {w w' : World} {v v' u : Value} {ls : List (List Int)} {vs : List Value} {r : List Int} {B2 : Nat} (h : LstI B w v ls vs) (hr : RowI B2 w u r) (hB : B ≤ B2) (hold : ∀ i j, i < ls.length → (vs.getD i undef).ownBlock = some j → j < B2) (ho : w'.ownsRow B 26 1 v' (ls.length + 1) (vs ++ [u])) (hg : w.grownBy w' v.ownBlock) : LstI B w' v' (ls ++ [r]) (vs ++ [u]) := by
  have gl : ∀ i, i < ls.length → (vs ++ [u]).getD i undef = vs.getD i undef := fun i hi => by
    have : i < vs.length := by rw [h.len]; exact hi
    simp [List.getD, List.getElem?_append, this]
  have ge : (vs ++ [u]).getD ls.length undef = u := by rw [← h.len]; simp [List.getD]
  have gl' : ∀ i, i < ls.length → (ls ++ [r]).getD i [] = ls.getD i [] := fun i hi => by simp [List.getD, List.getElem?_append, hi]
  have ge' : (ls ++ [r]).getD ls.length [] = r := by simp [List.getD]
  refine ⟨by simp [h.len], by simpa using ho, fun i hi => ?_, fun i j hij hj => ?_⟩
  · by_cases e : i < ls.length
    · rw [gl i e, gl' i e]
      exact row_kept (h.row i e) h.own hg
    · have : i = ls.length := by simp at hi; omega
      subst this
      rw [ge, ge']
      exact row_kept (row_base hr hB) h.own hg
  · by_cases e : j < ls.length
    · rw [gl i (by omega), gl j e]
      exact h.apart i j hij e
    · have : j = ls.length := by simp at hj; omega
      subst this
      rw [gl i hij, ge]
      cases hv : (vs.getD i undef).ownBlock with
      | none => exact Or.inl rfl
      | some b =>
        right
        intro e2
        have h1 := hold i b hij hv
        have h2 := (World.ownsRow.lt hr b e2.symm).1
        omega
theorem LstI.lt {B : Nat} {w : World} {v : Value} {ls : List (List Int)} {vs : List Value} (h : LstI B w v ls vs) : ∀ i j, i < ls.length → (vs.getD i undef).ownBlock = some j → j < w.heap.size := fun i j hi hj => (World.ownsRow.lt (h.row i hi) j hj).2
end Go.Proofs.Ytmjmcbmfleeolad
