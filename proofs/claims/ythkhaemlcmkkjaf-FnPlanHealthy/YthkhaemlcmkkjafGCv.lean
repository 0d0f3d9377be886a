/- The room of drawn packs' rows. DrawStepDo: the drawn packs, a drawn state and a drawn step. -/
import Derived.Test.YthkhaemlcmkkjafGDrawK
import Derived.Test.YthkhaemlcmkkjafGSp
import Derived.Test.YthkhaemlcmkkjafGDrawS
import Derived.Test.YthkhaemlcmkkjafSpF
import Derived.Test.YthkhaemlcmkkjafGStL
import Derived.Test.YthkhaemlcmkkjafGRn
import Derived.Test.YthkhaemlcmkkjafGReg
namespace Go.Proofs.Ythkhaemlcmkkjaf
set_option linter.unusedVariables false
set_option linter.unusedSimpArgs false
open Go.RowKit Go.Deep

theorem V2.caps {s N c : Nat} {w : World} {a : Option Addr} {l : List PackD} (h : V2 s w N (.slice a l.length c)) (hP : PacksAt (Old w) w a l) : CapsAt w a l := fun b o ha i hi => by
  obtain ⟨g, C, e, _⟩ := SlBy.addr h (show 0 < l.length by omega)
  subst ha
  simp at e
  obtain ⟨rfl, rfl⟩ := e
  rcases hP.2 with hnil | ⟨b', o', e, hS, hpk⟩
  · rw [hnil] at hi; simp at hi
  simp at e
  obtain ⟨rfl, rfl⟩ := e
  obtain ⟨a1, d1, a2, d2, a3, d3, hce, hpv⟩ := hpk i hi
  have n4 := hce.pres
  obtain ⟨x, y, z, v1, v2, v3, k0, k1, k2, k3, k4, k5, hQ⟩ := V2.pack h hi
  obtain ⟨a2', n2, c2, e2, h1, _, h3⟩ := SlBy.slice hQ.pres
  rw [Nat.zero_add] at n4
  rw [k4, e2] at n4
  simp at n4
  obtain ⟨rfl, rfl, rfl⟩ := n4
  refine ⟨hS, a2', c2, ?_, h1, h3⟩
  rw [Nat.zero_add, k4, e2]
  rfl
end Go.Proofs.Ythkhaemlcmkkjaf

namespace Go.Proofs.Ythkhaemlcmkkjaf
set_option linter.unusedVariables false
set_option linter.unusedSimpArgs false
open Go.RowKit Go.Deep

def stepCells (s : StepD) : Obj := .cells #[.int .i64 s.kind, .int .i64 s.inn, .int .i64 s.out] 57 (0, 0)
theorem stepNotRd : (57 : TypeId) ≠ 90 := by decide
theorem steps_wrote {B B' : Nat} {w w' : World} {v : Value} {n : Nat} {xs : List Value} (h : w.ownsRow B 57 3 v n xs) (hw : Wrote B' isRd w w') : w'.ownsRow B 57 3 v n xs := by
  obtain ⟨h1, h2⟩ := h
  refine ⟨h1, h2.imp id ?_⟩
  rintro ⟨g, cap, cur, hv, hg, hc, r⟩
  exact ⟨g, cap, cur, hv, hg, (hw.other ⟨cur, hc⟩ stepNotRd).trans hc, r⟩
theorem V2.kept {s N : Nat} {W x : World} {v : Value} (h : V2 s W N v) (keep : ∀ (b : Nat) (t : TypeId), CellsOf W b t → t ≠ 25 → t ≠ 90 → x.heap[b]? = W.heap[b]?) : V2 s x N v := by
  have g0 : ∀ b n, G0 s W b n → G0 s x b n := fun b n h => GoodBy.mono h (keep _ _ (GoodBy.cells h) (by decide) (by decide)) fun _ _ h => h
  have g1 : ∀ b n, G1 s W N b n → G1 s x N b n := fun b n h => GoodBy.mono h (keep _ _ (GoodBy.cells h) (by decide) (by decide)) fun _ _ h => SlBy.mono h g0 (Nat.le_refl _)
  exact SlBy.mono h (fun b n h => GoodBy.mono h (keep _ _ (GoodBy.cells h) (by decide) (by decide)) fun _ _ h => ⟨h.name, h.nums, fun e => SlBy.mono (h.deps e) g1 (Nat.le_refl _), fun e => SlBy.mono (h.reqs e) g0 (Nat.le_refl _)⟩) (Nat.le_refl _)
/-- Along the statement that answers: the reader and the answer's packs alone are written. -/
structure CD (W : World) (B rb rs : Nat) (m : Int) (n : Nat) (x : World) : Prop where
  rd : Rd B x rb (m + n)
  os : x.os = W.os
  tape : x.tape = W.tape
  output : x.output = W.output
  size : W.heap.size ≤ x.heap.size
  keep : ∀ (b : Nat) (t : TypeId), CellsOf W b t → b ≠ rs → t ≠ 90 → x.heap[b]? = W.heap[b]?
  low : ∀ b, b < B → b < W.heap.size → b ≠ rs → x.heap[b]? = W.heap[b]?
  res : ∃ (a : Option Addr) (n c : Nat) (r : Int), x.heap[rs]? = some (repoCells (.slice a n c) r)
/-- What was stored stays. -/
def EP (rs : Nat) (R : Obj) (x y : World) : Prop := x.heap[rs]? = some R → y.heap[rs]? = some R
section
variable {W x y : World} {B rb rs n : Nat} {m : Int}
theorem CD.next (h : CD W B rb rs m n x) : CD W B rb rs m (n + 1) x := ⟨h.rd.more (by omega), h.os, h.tape, h.output, h.size, h.keep, h.low, h.res⟩
theorem CD.start {a : Option Addr} {k c : Nat} {r : Int} (h : Rd B W rb m) (hr : W.heap[rs]? = some (repoCells (.slice a k c) r)) : CD W B rb rs m 0 W.drew := ⟨h.drew.more (by simp), rfl, rfl, rfl, Nat.le_refl _, fun _ _ _ _ _ => rfl, fun _ _ _ _ => rfl, _, _, _, _, hr⟩
theorem CD.picked (h : CD W B rb rs m n x) (hR : Rd B y rb (m + n + 1)) (hW : Wrote B isRd x y) : CD W B rb rs m (n + 1) y := by
  obtain ⟨a0, k0, c0, r0, hres⟩ := h.res
  refine ⟨hR.more (by omega), hW.os.trans h.os, hW.tape.trans h.tape, hW.output.trans h.output, Nat.le_trans h.size hW.size, fun b t hc hb ht => ?_, fun b hb hl hne => ?_, a0, k0, c0, r0, hW.blk hres repoNotRd⟩
  · have e := h.keep b t hc hb ht
    obtain ⟨C, hC⟩ := hc
    exact (hW.other ⟨C, e.trans hC⟩ ht).trans e
  · exact (hW.block b (Nat.lt_of_lt_of_le hl h.size) (Or.inl hb)).trans (h.low b hb hl hne)
theorem EP.picked {R : Obj} {C : Array Value} (hR : R = .cells C 25 (0, 0)) (hW : Wrote B isRd x y) : EP rs R x y := fun h => by
  subst hR
  exact hW.blk h repoNotRd
theorem Rd.repo {a : Option Addr} {k c : Nat} {r : Int} (h : Rd B x rb m) (hres : x.heap[rs]? = some (repoCells (.slice a k c) r)) (hne : rs ≠ rb) (u v : Value) : Rd B ((x.setCell ⟨rs, 0, none⟩ u).setCell ⟨rs, 1, none⟩ v) rb m := by
  have ho : ∀ b, b ≠ rs → ((x.setCell ⟨rs, 0, none⟩ u).setCell ⟨rs, 1, none⟩ v).heap[b]? = x.heap[b]? := fun b hb => (blk_setCell_other _ _ _ _ hb).trans (blk_setCell_other _ _ _ _ hb)
  obtain ⟨hB, a', n', c', p, hh, h0, h1, h2, hc⟩ := h
  refine ⟨hB, a', n', c', p, (ho rb (fun e => hne e.symm)).trans hh, h0, h1, h2, ?_⟩
  rcases hc with hc | ⟨b, o, ha, hb1, hb2, hc⟩
  · exact Or.inl hc
  · by_cases hn : n' = 0
    · exact Or.inl hn
    · have hb : b ≠ rs := fun e => by
        subst e
        obtain ⟨z, hz, _⟩ := hc 0 (by omega)
        simp only [World.cell?, hres, repoCells] at hz
        match o with
        | 0 => simp at hz
        | 1 => simp at hz
        | o + 2 => simp at hz
      refine Or.inr ⟨b, o, ha, hb1, by simpa [nblk_setCell] using hb2, fun i hi => ?_⟩
      obtain ⟨z, hz⟩ := hc i hi
      exact ⟨z, by rw [World.cell?_of_block (w := x) (a := ⟨b, o + i, none⟩) (ho b hb)]; exact hz⟩
theorem CD.store (h : CD W B rb rs m n x) (hne : rs ≠ rb) (a : Option Addr) (k c : Nat) (room : Int) : CD W B rb rs m (n + 1) ((x.setCell ⟨rs, 0, none⟩ (.slice a k c)).setCell ⟨rs, 1, none⟩ (.int .i64 room)) := by
  obtain ⟨a0, k0, c0, r0, hres⟩ := h.res
  have ho : ∀ b, b ≠ rs → ((x.setCell ⟨rs, 0, none⟩ (.slice a k c)).setCell ⟨rs, 1, none⟩ (.int .i64 room)).heap[b]? = x.heap[b]? := fun b hb => (blk_setCell_other _ _ _ _ hb).trans (blk_setCell_other _ _ _ _ hb)
  refine ⟨(Rd.repo h.rd hres hne _ _).more (by omega), h.os, h.tape, h.output, by simpa [nblk_setCell] using h.size, fun b t hc hb ht => (ho b hb).trans (h.keep b t hc hb ht), fun b hb hl hn => (ho b hn).trans (h.low b hb hl hn), a, k, c, room, ?_⟩
  rw [repoCells, blk_set (blk_set hres 0 _) 1 _]
  rfl
theorem CD.stored (h : CD W B rb rs m n x) (v : Value) (room : Int) : ((x.setCell ⟨rs, 0, none⟩ v).setCell ⟨rs, 1, none⟩ (.int .i64 room)).heap[rs]? = some (repoCells v room) := by
  obtain ⟨a0, k0, c0, r0, hres⟩ := h.res
  rw [repoCells, blk_set (blk_set hres 0 _) 1 _]
  rfl
theorem CD.row {l : List Int} {v : Value} (h : CD W B rb rs m n x) (hr : RowI 0 W v l) (hrs : CellsOf W rs 25) : RowI 0 x v l := by
  obtain ⟨h1, h2⟩ := hr
  refine ⟨h1, h2.imp id ?_⟩
  rintro ⟨g, cap, cur, hv, hg, hc, r⟩
  exact ⟨g, cap, cur, hv, hg, (h.keep g _ ⟨cur, hc⟩ (fun e => by subst e; obtain ⟨C, hC⟩ := hrs; rw [hC] at hc; simp at hc) intNoRd).trans hc, r⟩
theorem CD.below {w : World} (h : CD W B rb rs m n x) (hb : Below w.heap.size w W) (hB : w.heap.size ≤ B) (hr : w.heap.size ≤ rs) : Below w.heap.size w x :=
  hb.trans ⟨h.os, h.tape, h.output, h.size, fun k hk => h.low k (by omega) (by have := hb.size; omega) (by omega)⟩
end
end Go.Proofs.Ythkhaemlcmkkjaf
