/- Lists of states. Numbers that lie in memory of their own. A row that is nil has no room. -/
import Derived.Test.YthkhaemlcmkkjarGBase
import Derived.Test.YthkhaemlcmkkjarGStA
import Derived.Test.YthkhaemlcmkkjarGStO
import Derived.Test.YthkhaemlcmkkjarGImpl
import Derived.Test.YthkhaemlcmkkjarGReg
namespace Go.Proofs.Ythkhaemlcmkkjar
set_option linter.unusedVariables false
set_option linter.unusedSimpArgs false
open Go.RowKit Go.Deep

theorem row_base {B B' : Nat} {w : World} {e : TypeId} {sz : Nat} {v : Value} {n : Nat} {xs : List Value} (h : w.ownsRow B e sz v n xs) (hb : B' ≤ B) : w.ownsRow B' e sz v n xs := by
  obtain ⟨h1, h2⟩ := h
  refine ⟨h1, h2.imp id ?_⟩
  rintro ⟨g, cap, cur, hv, hg, r⟩
  exact ⟨g, cap, cur, hv, Nat.le_trans hb hg, r⟩
theorem row_kind {B : Nat} {w : World} {e : TypeId} {v : Value} {n : Nat} {xs : List Value} (h : w.ownsRow B e 1 v n xs) (g : Nat) (hg : v.ownBlock = some g) : ∃ c f, w.heap[g]? = some (.cells c e f) := by
  rcases h.2 with ⟨hv, _⟩ | ⟨g', cap, cur, hv, _, hc, _⟩
  · rw [hv] at hg; cases hg
  · rw [hv] at hg
    simp [Value.ownBlock] at hg
    subst hg
    exact ⟨cur, _, hc⟩
/-- A row of numbers is none of the outer list's memory. -/
theorem row_kept {B : Nat} {w w' : World} {v u : Value} {n m : Nat} {xs ys : List Value} (h : w.ownsRow B 3 1 v n xs) (ho : w.ownsRow B 26 1 u m ys) (hg : w.grownBy w' u.ownBlock) : w'.ownsRow B 3 1 v n xs := by
  refine h.kept hg ?_
  cases hv : v.ownBlock with
  | none => exact Or.inl rfl
  | some b =>
    right
    intro e
    obtain ⟨c1, f1, e1⟩ := row_kind h b hv
    obtain ⟨c2, f2, e2⟩ := row_kind ho b e.symm
    rw [e1] at e2
    simp at e2
end Go.Proofs.Ythkhaemlcmkkjar

namespace Go.Proofs.Ythkhaemlcmkkjar
set_option linter.unusedVariables false
set_option linter.unusedSimpArgs false
open Go.RowKit Go.Deep

/-- Numbers that lie in memory of their own. -/
abbrev RowI (B : Nat) (w : World) (v : Value) (l : List Int) : Prop := w.ownsRow B 3 1 v l.length (l.map fun i => .int .i64 i)
theorem RowI.set {B : Nat} {w : World} {v : Value} {l : List Int} (h : RowI B w v l) (hl : l.length ≤ 1048576) : ∃ a cap, v = .slice a l.length cap ∧ SetAt w a l := by
  obtain ⟨h1, h2⟩ := h
  rcases h2 with ⟨hv, h0⟩ | ⟨g, cap, cur, hv, hB, hc, hcap, _, hsz, hx⟩
  · have : l = [] := List.length_eq_zero_iff.1 h0
    subst this
    exact ⟨none, 0, hv, by simp, Or.inl rfl⟩
  · refine ⟨some ⟨g, 0, none⟩, cap, hv, hl, Or.inr ⟨g, 0, rfl, (Array.getElem?_eq_some_iff.1 hc).1, fun i hi => ?_⟩⟩
    have e : cur.toList[i]? = some (.int .i64 (l.getD i 0)) := by
      have : (cur.toList.take (l.length * 1))[i]? = (l.map fun i => Value.int .i64 i)[i]? := by rw [hx]
      rw [List.getElem?_take, if_pos (by omega)] at this
      rw [this]
      simp [List.getD, hi]
    simp only [World.cell?, hc, Nat.zero_add]
    simpa using e

/-- Rows of numbers, each in memory of its own. -/
structure LstI (B : Nat) (w : World) (v : Value) (lss : List (List Int)) (vs : List Value) : Prop where
  len : vs.length = lss.length
  own : w.ownsRow B 26 1 v lss.length vs
  row : ∀ i, i < lss.length → RowI B w (vs.getD i undef) (lss.getD i [])
  apart : ∀ i j, i < j → j < lss.length → (vs.getD i undef).ownBlock = none ∨ (vs.getD i undef).ownBlock ≠ (vs.getD j undef).ownBlock
theorem LstI.on {B : Nat} {w w' : World} {v : Value} {lss : List (List Int)} {vs : List Value} (h : LstI B w v lss vs) (hb : Below w.heap.size w w') : LstI B w' v lss vs := ⟨h.len, ownsRow_on h.own hb, fun i hi => ownsRow_on (h.row i hi) hb, h.apart⟩
theorem LstI.far {B B' : Nat} {w w' : World} {v : Value} {lss : List (List Int)} {vs : List Value} (h : LstI B w v lss vs) (hb : Below B' w w') (hlt : ∀ j, v.ownBlock = some j → j < B') (hlt' : ∀ i j, i < lss.length → (vs.getD i undef).ownBlock = some j → j < B') : LstI B w' v lss vs := by
  have key : ∀ {e : TypeId} {u : Value} {n : Nat} {xs : List Value}, w.ownsRow B e 1 u n xs → (∀ j, u.ownBlock = some j → j < B') → w'.ownsRow B e 1 u n xs := fun {e u n xs} ho hu => by
    obtain ⟨h1, h2⟩ := ho
    refine ⟨h1, h2.imp id ?_⟩
    rintro ⟨g, cap, cur, hv, hg, hc, r⟩
    exact ⟨g, cap, cur, hv, hg, (hb.block g (hu g (by rw [hv]; rfl))).trans hc, r⟩
  exact ⟨h.len, key h.own hlt, fun i hi => key (h.row i hi) (hlt' i · hi), h.apart⟩
theorem LstI.cell {B : Nat} {w : World} {v : Value} {lss : List (List Int)} {vs : List Value} (h : LstI B w v lss vs) {i : Nat} (hi : i < lss.length) : ∃ g cap, v = .slice (some ⟨g, 0, none⟩) lss.length cap ∧ B ≤ g ∧ g < w.heap.size ∧ w.cell? ⟨g, i, none⟩ = some (vs.getD i undef) := by
  rcases h.own.2 with ⟨_, h0⟩ | ⟨g, cap, cur, hv, hB, hc, hcap, _, hsz, hx⟩
  · omega
  · refine ⟨g, cap, hv, hB, (Array.getElem?_eq_some_iff.1 hc).1, ?_⟩
    have hiv : i < vs.length := by rw [h.len]; exact hi
    have e : cur.toList[i]? = some (vs.getD i undef) := by
      have : (cur.toList.take (lss.length * 1))[i]? = vs[i]? := by rw [hx]
      rw [List.getElem?_take, if_pos (by omega)] at this
      rw [this]
      simp [List.getD, hiv]
    simp only [World.cell?, hc]
    simpa using e
theorem LstI.slice {B : Nat} {w : World} {v : Value} {lss : List (List Int)} {vs : List Value} (h : LstI B w v lss vs) : ∃ a cap, v = .slice a lss.length cap := by
  rcases h.own.2 with ⟨hv, h0⟩ | ⟨g, cap, cur, hv, _⟩
  · exact ⟨none, 0, by rw [hv, h0]⟩
  · exact ⟨_, _, hv⟩
theorem RowI.nil (w : World) : RowI w.heap.size (w.alloc (.cells #[] 3)) (.slice (some ⟨w.heap.size, 0, none⟩) 0 0) [] :=
  ⟨rfl, Or.inr ⟨w.heap.size, 0, #[], rfl, Nat.le_refl _, blk_alloc_new _ _, Nat.zero_le _, Nat.zero_le _, rfl, rfl⟩⟩
end Go.Proofs.Ythkhaemlcmkkjar

namespace Go.Proofs.Ythkhaemlcmkkjar
set_option linter.unusedVariables false
set_option linter.unusedSimpArgs false
open Go.RowKit Go.Deep

end Go.Proofs.Ythkhaemlcmkkjar
