/- DrawCostOf: the drawn packs and a drawn step. -/
import Derived.Test.YthkhaemlcmkkjasGCv
import Derived.BigRegion
namespace Go.Proofs.Ythkhaemlcmkkjas
set_option linter.unusedVariables false
set_option linter.unusedSimpArgs false
open Go.RowKit Go.Deep

/-- What DrawCostOf answers. -/
def DrawnCost (w w' : World) (e : Ending) : Prop := ∃ (v : Value) (room : Int) (s : StepD), e = .returned (.tuple #[.agg #[v, .int .i64 room], .agg #[.int .i64 s.kind, .int .i64 s.inn, .int .i64 s.out]]) ∧ V2 w.heap.size w' 60000 v
theorem V2.repoB {s N b0 : Nat} {x : World} {v u : Value} {i : Nat} (h : V2 s x N v) (hb : CellsOf x b0 25) : V2 s (x.setCell ⟨b0, i, none⟩ u) N v := by
  have keep : ∀ {b : Nat} {t : TypeId}, CellsOf x b t → t ≠ 25 → (x.setCell ⟨b0, i, none⟩ u).heap[b]? = x.heap[b]? := fun {b t} hc ht => blk_setCell_other _ _ _ _ (show b ≠ b0 from fun e => ht (by subst e; exact hc.one hb))
  have g0 : ∀ b n, G0 s x b n → G0 s (x.setCell ⟨b0, i, none⟩ u) b n := fun b n h => GoodBy.mono h (keep (GoodBy.cells h) (by decide)) fun _ _ h => h
  have g1 : ∀ b n, G1 s x N b n → G1 s (x.setCell ⟨b0, i, none⟩ u) N b n := fun b n h => GoodBy.mono h (keep (GoodBy.cells h) (by decide)) fun _ _ h => SlBy.mono h g0 (Nat.le_refl _)
  exact SlBy.mono h (fun b n h => GoodBy.mono h (keep (GoodBy.cells h) (by decide)) fun _ _ h => ⟨h.name, h.nums, fun e => SlBy.mono (h.deps e) g1 (Nat.le_refl _), fun e => SlBy.mono (h.reqs e) g0 (Nat.le_refl _)⟩) (Nat.le_refl _)
set_option maxRecDepth 100000 in
set_option maxHeartbeats 8000000 in
theorem DrawCostOf_V (a : Option Addr) (n c : Nat) (w : World) (h : CodeAt w.heap.size w a n) (hn : n ≤ 1048576) (hc : n ≤ c) (hc2 : c ≤ maxLen) :
    Calls Try.prog 7 #[.slice a n c] w fun e w' => DrawnCost w w' e ∧ Below w.heap.size w w' := by
  obtain ⟨w0, hw0⟩ : ∃ w0, w0 = (w.alloc (.cells #[.slice none 0 0, .int .i64 0] 25)).alloc (.cells #[.int .i64 0, .int .i64 0, .int .i64 0] 27) := ⟨_, rfl⟩
  have b0 : Below w.heap.size w w0 := by rw [hw0]; exact ((Below.refl _ _).alloc (Nat.le_refl _) _).alloc (by simp) _
  have z0 : w0.heap.size = w.heap.size + 2 := by rw [hw0]; simp
  have f0 : w0.heap[w.heap.size]? = some (repoCells (.slice none 0 0) 0) := by rw [hw0]; exact (blk_alloc_lt _ _ _ (by simp)).trans (blk_alloc_new _ _)
  have f1 : w0.heap[w.heap.size + 1]? = some (stepCells ⟨0, 0, 0⟩) := by
    rw [hw0]
    have := blk_alloc_new (w.alloc (.cells #[.slice none 0 0, .int .i64 0] 25)) (.cells #[.int .i64 0, .int .i64 0, .int .i64 0] 27)
    simpa [stepCells] using this
  have hcode := h.below b0 (by omega)
  have HD := hide (DrawStepDo_V a n c w0 (hcode.up (by omega)) hn hc hc2)
  have HB0 := hide b0
  clear b0 hcode h
  go_enter Try.func7, Try.ntmps7
  go_upto_region 1 with fail
  rw [← hw0]
  clear hw0
  go_wp2_with fail
  refine (unhide HD).mono ?_
  rintro e w1 ⟨⟨v, room, u, s, rfl, hV, set, hrow, hsl⟩, b1⟩
  obtain ⟨va, vn, vc, rfl, _⟩ := SlBy.slice hV
  obtain ⟨ua, un, uc, hu⟩ : ∃ ua un uc, u = .slice ua un uc := by
    obtain ⟨sa, sc, hu, _⟩ := RowI.set hrow (by omega)
    exact ⟨_, _, _, hu⟩
  subst hu
  have z1 := b1.size
  have g0 := (b1.block w.heap.size (by omega)).trans f0
  have g1 := (b1.block (w.heap.size + 1) (by omega)).trans f1
  have B1 := (unhide HB0).trans (b1.mono (by omega))
  have HROW := hide hrow
  clear hrow HD HB0
  go_upto_region 2 with fail
  obtain ⟨w2, hw2⟩ : ∃ w2, w2 = (w1.alloc (.cells #[.slice va vn vc, .int .i64 room] 25)).alloc (.cells #[.int .i64 s.kind, .int .i64 s.inn, .int .i64 s.out] 27) := ⟨_, rfl⟩
  rw [← hw2]
  have b2 : Below w1.heap.size w1 w2 := by rw [hw2]; exact ((Below.refl _ _).alloc (Nat.le_refl _) _).alloc (by simp) _
  have x0 : w2.cell? ⟨w1.heap.size, 0, none⟩ = some (.slice va vn vc) := by rw [hw2]; simp
  have x1 : w2.cell? ⟨w1.heap.size, 1, none⟩ = some (.int .i64 room) := by rw [hw2]; simp
  have y0 : w2.cell? ⟨w1.heap.size + 1, 0, none⟩ = some (.int .i64 s.kind) := by rw [hw2]; simp
  have y1 : w2.cell? ⟨w1.heap.size + 1, 1, none⟩ = some (.int .i64 s.inn) := by rw [hw2]; simp
  have y2 : w2.cell? ⟨w1.heap.size + 1, 2, none⟩ = some (.int .i64 s.out) := by rw [hw2]; simp
  have res2 := (b2.block w.heap.size (by omega)).trans g0
  have rst2 := (b2.block (w.heap.size + 1) (by omega)).trans g1
  have V2' := V2.ev hV (Ev.of_below (B := 0) (s := w0.heap.size) (N := 60000) b2)
  have B2 := B1.trans (b2.mono (by omega))
  obtain ⟨r0, r1, rf⟩ := two res2
  obtain ⟨q0, q1, q2, g0', g1', g2'⟩ := three rst2
  have rf0 := rf 0
  have rf1 := rf 1
  have HEND := hide (show _ from fin_st (rs := w.heap.size) (s0 := ⟨0, 0, 0⟩) (w := w) (x := (w2.setCell ⟨w.heap.size, 0, none⟩ (.slice va vn vc)).setCell ⟨w.heap.size, 1, none⟩ (.int .i64 room)) (v := .slice va vn vc) (room := room) (by rw [repoCells, blk_set (blk_set res2 0 _) 1 _]; rfl) (((blk_setCell_other _ _ _ _ (show w.heap.size + 1 ≠ w.heap.size by omega)).trans (blk_setCell_other _ _ _ _ (show w.heap.size + 1 ≠ w.heap.size by omega))).trans rst2) (fin_own (room := room) res2 V2' B2 (Nat.le_refl _)).1 (RowI.repo (show RowI 0 w2 _ set from ownsRow_on (unhide HROW) b2) res2 (.slice va vn vc) (.int .i64 room)) (fin_own (room := room) res2 V2' B2 (Nat.le_refl _)).2.1 (Nat.le_refl _) s)
  have n1 : w.heap.size ≠ w1.heap.size := by omega
  have n2 : w.heap.size ≠ w1.heap.size + 1 := by omega
  have n3 : w.heap.size + 1 ≠ w1.heap.size := by omega
  have n4 : w.heap.size + 1 ≠ w1.heap.size + 1 := by omega
  clear hw2 b2 res2 rst2 V2' B2 hV b1 g0 g1 B1 rf f0 f1
  go_region
  go_wp2_with fail
  obtain ⟨f1, f2, f3, f4, f5, f6, f7, f8⟩ := unhide HEND
  exact bodyPost_ret (v := .tuple #[.agg #[.slice va vn vc, .int .i64 room], .agg #[.int .i64 s.kind, .int .i64 s.inn, .int .i64 s.out]]) (by simp [results, Try.results7, go_sem, f4, f5, f6, f7, f8]) rfl ⟨⟨_, _, s, rfl, V2.down (V2.ev f1 (Ev.of_below (B := 0) (s := w0.heap.size) (N := 60000) (Below.refl _ _).drew)) (by omega)⟩, f3.drew⟩
end Go.Proofs.Ythkhaemlcmkkjas
