/- What the laws on refutations read: parts of rows; worlds that only grow. -/
import Derived.Test.YthkhaemlcmkkjarDrawSp
import Derived.Test.YthkhaemlcmkkjarSatD
import Derived.Test.YthkhaemlcmkkjarFPrf
import Derived.Test.YthkhaemlcmkkjarSuH
namespace Go.Proofs.Ythkhaemlcmkkjar
set_option linter.unusedVariables false
set_option linter.unusedSimpArgs false
open Go.RowKit Go.Deep

/-- Worlds behind W that leave all of it. -/
structure CG (W : World) (b : Bool) (us : List Value) (x : World) : Prop where
  below : Below W.heap.size W x
theorem CG.on {W x y : World} {b b' : Bool} {us us' : List Value} (h : CG W b us x) (hb : Below x.heap.size x y) : CG W b' us' y := ⟨h.below.trans (hb.mono h.below.size)⟩
theorem ClsAt.front {w : World} {a : Option Addr} {cs : List (List Int)} (h : ClsAt w a cs) (k : Nat) : ClsAt w a (cs.take k) := by
  obtain ⟨hl, h⟩ := h
  refine ⟨by simp; omega, ?_⟩
  rcases h with h | ⟨b, o, e, h1, h2⟩
  · exact .inl (by rw [h]; simp)
  · refine .inr ⟨b, o, e, h1, fun i hi => ?_⟩
    have hi2 : i < cs.length ∧ i < k := by simp at hi; omega
    obtain ⟨a', c, h3, h4⟩ := h2 i hi2.1
    have e2 : (cs.take k).getD i [] = cs.getD i [] := by simp [List.getD, List.getElem?_take, hi2.2]
    rw [e2]
    exact ⟨a', c, h3, h4⟩
/-- A row of some rows. -/
theorem ClsAt.cellAt {w : World} {a : Option Addr} {cs : List (List Int)} (h : ClsAt w a cs) {i : Nat} (hi : i < cs.length) : ∃ b o a' c, a = some ⟨b, o, none⟩ ∧ w.cell? ⟨b, o + i, none⟩ = some (.slice a' (cs.getD i []).length c) ∧ SetAt w a' (cs.getD i []) := by
  rcases h.2 with h0 | ⟨b, o, e, h1, h2⟩
  · subst h0; simp at hi
  · obtain ⟨a', c, h3, h4⟩ := h2 i hi
    exact ⟨b, o, a', c, e, h3, h4⟩
/-- A refutation ends with nothing. -/
theorem proof_last {vars : Int} {cs ps : List (List Int)} (h : proofZ vars cs ps = true) : 0 < ps.length ∧ (ps.getD (ps.length - 1) []).length = 0 := by
  obtain ⟨h1, h2, h3, h4, h5, h6⟩ := proof_parts h
  exact ⟨h2, by rw [h4]; rfl⟩
end Go.Proofs.Ythkhaemlcmkkjar
