/- Clauses put behind one by one, their variable stored: what a loop over ldMore knows. -/
import Derived.Test.YthkhaemlcmkkjagLdMore
import Derived.Test.YthkhaemlcmkkjagGReg
namespace Go.Proofs.Ythkhaemlcmkkjag
set_option linter.unusedVariables false
set_option linter.unusedSimpArgs false
open Go.RowKit Go.Deep

/-- The clauses so far, and their variable. -/
structure XS (W : World) (xb : Nat) (vars : Int) (xa : Option Addr) (xs : List (List Int)) (xc : Nat) (x : World) : Prop where
  box : x.heap[xb]? = some (cnfCells vars (.slice xa xs.length xc))
  nn : xa = none → xc = 0
  rows : RowsR (SetAt W) x xa xs
  apart : ∀ b o, xa = some ⟨b, o, none⟩ → xs ≠ [] → b ≠ xb
  low : Below W.heap.size W x
theorem XS.cls {W x : World} {xb : Nat} {vars : Int} {xa : Option Addr} {xs : List (List Int)} {xc : Nat} (h : XS W xb vars xa xs xc x) : ClsAt x xa xs := by
  obtain ⟨h1, h2⟩ := h.rows
  refine ⟨h1, h2.imp id fun ⟨b, o, e, h3, h4⟩ => ⟨b, o, e, h3, fun i hi => ?_⟩⟩
  obtain ⟨a', c, h5, h6⟩ := h4 i hi
  exact ⟨a', c, h5, h6.on h.low⟩
theorem XS.on {W x y : World} {xb : Nat} {vars : Int} {xa : Option Addr} {xs : List (List Int)} {xc : Nat} (h : XS W xb vars xa xs xc x) (hb : Below x.heap.size x y) : XS W xb vars xa xs xc y := by
  refine ⟨(hb.block xb (Array.getElem?_eq_some_iff.1 h.box).1).trans h.box, h.nn, ?_, h.apart, h.low.trans (hb.mono h.low.size)⟩
  obtain ⟨h1, h2⟩ := h.rows
  refine ⟨h1, h2.imp id fun ⟨b, o, e, h3, h4⟩ => ⟨b, o, e, Nat.lt_of_lt_of_le h3 hb.size, fun i hi => ?_⟩⟩
  obtain ⟨a', c, h5, h6⟩ := h4 i hi
  exact ⟨a', c, (hb.cell (p := ⟨b, o + i, none⟩) h3).trans h5, h6⟩
/-- One more, stored. -/
theorem XS.more {W x y : World} {xb : Nat} {vars : Int} {xa : Option Addr} {xs cs : List (List Int)} {xc g c' : Nat} (h : XS W xb vars xa xs xc x) (hb : Below x.heap.size x y) (hW : W.heap.size ≤ xb) (hg : x.heap.size ≤ g) (hgl : g < y.heap.size) (hl : cs.length ≤ 1048576)
    (hr : ∀ i, i < cs.length → ∃ a' c, y.cell? ⟨g, 0 + i, none⟩ = some (.slice a' (cs.getD i []).length c) ∧ SetAt W a' (cs.getD i [])) : XS W xb vars (some ⟨g, 0, none⟩) cs c' ((y.setCell ⟨xb, 0, none⟩ (.int .i64 vars)).setCell ⟨xb, 1, none⟩ (.slice (some ⟨g, 0, none⟩) cs.length c')) := by
  have hxl := (Array.getElem?_eq_some_iff.1 h.box).1
  have hy := (h.on hb).box
  have e1 := blk_set hy 0 (.int .i64 vars)
  refine ⟨by rw [blk_set e1 1 _]; rfl, (fun e => by cases e), ⟨hl, .inr ⟨g, 0, rfl, by rw [nblk_setCell, nblk_setCell]; exact hgl, fun i hi => ?_⟩⟩, fun b o e _ => ?_, Below.setCell (Below.setCell (h.on hb).low hW _) hW _⟩
  · obtain ⟨a', c, h5, h6⟩ := hr i hi
    refine ⟨a', c, ?_, h6⟩
    rw [World.cell?_of_block (w := y) (a := ⟨g, 0 + i, none⟩) ((blk_setCell_other _ _ _ _ (by show g ≠ xb; omega)).trans (blk_setCell_other _ _ _ _ (by show g ≠ xb; omega)))]
    exact h5
  · simp only [Option.some.injEq, Addr.mk.injEq] at e
    omega
/-- One more clause is laid. -/
structure CMo (W0 W : World) (vars : Int) (cs : List (List Int)) (b : Bool) (us : List Value) (x : World) : Prop where
  below : Below W.heap.size W x
  val : ∀ v, us = [v] → ∃ g c', v = .agg #[.int .i64 vars, .slice (some ⟨g, 0, none⟩) cs.length c'] ∧ W.heap.size ≤ g ∧ g < x.heap.size ∧ ∀ i, i < cs.length → ∃ a' c, x.cell? ⟨g, 0 + i, none⟩ = some (.slice a' (cs.getD i []).length c) ∧ SetAt W0 a' (cs.getD i [])
theorem CMo.on {W0 W x y : World} {vars : Int} {cs : List (List Int)} {b b' : Bool} {us : List Value} (h : CMo W0 W vars cs b us x) (hb : Below x.heap.size x y) : CMo W0 W vars cs b' us y :=
  ⟨h.below.trans (hb.mono h.below.size), fun v e => by
    obtain ⟨g, c', e1, h1, h2, h3⟩ := h.val v e
    refine ⟨g, c', e1, h1, Nat.lt_of_lt_of_le h2 hb.size, fun i hi => ?_⟩
    obtain ⟨a', c, h4, h5⟩ := h3 i hi
    exact ⟨a', c, (hb.cell (p := ⟨g, 0 + i, none⟩) h2).trans h4, h5⟩⟩
end Go.Proofs.Ythkhaemlcmkkjag
