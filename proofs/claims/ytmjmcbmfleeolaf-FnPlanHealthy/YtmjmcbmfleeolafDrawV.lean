/- DrawStepDo: the drawn packs, a drawn state and a drawn step. -/
import Derived.Test.YtmjmcbmfleeolafGDrawK
import Derived.Test.YtmjmcbmfleeolafGDrawS
import Derived.Test.YtmjmcbmfleeolafSpF
import Derived.Test.YtmjmcbmfleeolafCapsV
import Derived.Test.YtmjmcbmfleeolafGStL
import Derived.Test.YtmjmcbmfleeolafGRn
import Derived.Test.YtmjmcbmfleeolafGReg
namespace Go.Proofs.Ytmjmcbmfleeolaf
set_option linter.unusedVariables false
set_option linter.unusedSimpArgs false
open Go.RowKit Go.Deep

def stepCells (s : StepD) : Obj := .cells #[.int .i64 s.kind, .int .i64 s.inn, .int .i64 s.out] 43 (0, 0)
theorem stepNotRd : (43 : TypeId) ≠ 58 := by decide
theorem V2.apartS {s N b0 : Nat} {x : World} {v u : Value} {i : Nat} (h : V2 s x N v) (hb : CellsOf x b0 43) : V2 s (x.setCell ⟨b0, i, none⟩ u) N v := by
  have keep : ∀ {b : Nat} {t : TypeId}, CellsOf x b t → t ≠ 43 → (x.setCell ⟨b0, i, none⟩ u).heap[b]? = x.heap[b]? := fun {b t} hc ht => blk_setCell_other _ _ _ _ (show b ≠ b0 from fun e => ht (by subst e; exact hc.one hb))
  have g0 : ∀ b n, G0 s x b n → G0 s (x.setCell ⟨b0, i, none⟩ u) b n := fun b n h => GoodBy.mono h (keep (GoodBy.cells h) (by decide)) fun _ _ h => h
  have g1 : ∀ b n, G1 s x N b n → G1 s (x.setCell ⟨b0, i, none⟩ u) N b n := fun b n h => GoodBy.mono h (keep (GoodBy.cells h) (by decide)) fun _ _ h => SlBy.mono h g0 (Nat.le_refl _)
  exact SlBy.mono h (fun b n h => GoodBy.mono h (keep (GoodBy.cells h) (by decide)) fun _ _ h => ⟨h.name, h.nums, fun e => SlBy.mono (h.deps e) g1 (Nat.le_refl _), fun e => SlBy.mono (h.reqs e) g0 (Nat.le_refl _)⟩) (Nat.le_refl _)
theorem RowI.stepB {B : Nat} {w : World} {v : Value} {l : List Int} {rs : Nat} {s : StepD} (h : RowI B w v l) (hres : w.heap[rs]? = some (stepCells s)) (a b c : Value) : RowI B (((w.setCell ⟨rs, 0, none⟩ a).setCell ⟨rs, 1, none⟩ b).setCell ⟨rs, 2, none⟩ c) v l := by
  obtain ⟨h1, h2⟩ := h
  refine ⟨h1, h2.imp id ?_⟩
  rintro ⟨g, cap, cur, hv, hg, hc, r⟩
  have hne : g ≠ rs := fun e => by subst e; rw [hres] at hc; simp [stepCells] at hc
  exact ⟨g, cap, cur, hv, hg, ((blk_setCell_other _ _ _ _ hne).trans ((blk_setCell_other _ _ _ _ hne).trans (blk_setCell_other _ _ _ _ hne))).trans hc, r⟩
theorem steps_kept {B rs : Nat} {w w' : World} {v : Value} {n : Nat} {xs : List Value} (h : w.ownsRow B 43 3 v n xs) (hw : ∀ (b : Nat) (C : Array Value), w.heap[b]? = some (.cells C 43 (0, 0)) → b ≠ rs → w'.heap[b]? = w.heap[b]?) (hrs : CellsOf w rs 25) : w'.ownsRow B 43 3 v n xs := by
  obtain ⟨h1, h2⟩ := h
  refine ⟨h1, h2.imp id ?_⟩
  rintro ⟨g, cap, cur, hv, hg, hc, r⟩
  exact ⟨g, cap, cur, hv, hg, (hw g cur hc (fun e => by subst e; obtain ⟨C, hC⟩ := hrs; rw [hC] at hc; simp at hc)).trans hc, r⟩
theorem steps_wrote {B B' : Nat} {w w' : World} {v : Value} {n : Nat} {xs : List Value} (h : w.ownsRow B 43 3 v n xs) (hw : Wrote B' isRd w w') : w'.ownsRow B 43 3 v n xs := by
  obtain ⟨h1, h2⟩ := h
  refine ⟨h1, h2.imp id ?_⟩
  rintro ⟨g, cap, cur, hv, hg, hc, r⟩
  exact ⟨g, cap, cur, hv, hg, (hw.other ⟨cur, hc⟩ stepNotRd).trans hc, r⟩
theorem V2.kept {s N : Nat} {W x : World} {v : Value} (h : V2 s W N v) (keep : ∀ (b : Nat) (t : TypeId), CellsOf W b t → t ≠ 25 → t ≠ 58 → x.heap[b]? = W.heap[b]?) : V2 s x N v := by
  have g0 : ∀ b n, G0 s W b n → G0 s x b n := fun b n h => GoodBy.mono h (keep _ _ (GoodBy.cells h) (by decide) (by decide)) fun _ _ h => h
  have g1 : ∀ b n, G1 s W N b n → G1 s x N b n := fun b n h => GoodBy.mono h (keep _ _ (GoodBy.cells h) (by decide) (by decide)) fun _ _ h => SlBy.mono h g0 (Nat.le_refl _)
  exact SlBy.mono h (fun b n h => GoodBy.mono h (keep _ _ (GoodBy.cells h) (by decide) (by decide)) fun _ _ h => ⟨h.name, h.nums, fun e => SlBy.mono (h.deps e) g1 (Nat.le_refl _), fun e => SlBy.mono (h.reqs e) g0 (Nat.le_refl _)⟩) (Nat.le_refl _)
/-- Along the statement that answers: the reader and the answer's packs alone are written. -/
structure CD (W : World) (B rb rs : Nat) (m : Int) (n : Nat) (x : World) : Prop where
  rd : Rd B x rb (m + n)
  os : x.os = W.os
  tape : x.tape = W.tape
  output : x.output = W.output
  size : W.heap.size ≤ x.heap.size
  keep : ∀ (b : Nat) (t : TypeId), CellsOf W b t → b ≠ rs → t ≠ 58 → x.heap[b]? = W.heap[b]?
  low : ∀ b, b < B → b < W.heap.size → b ≠ rs → x.heap[b]? = W.heap[b]?
  res : ∃ (a : Option Addr) (n c : Nat) (r : Int), x.heap[rs]? = some (repoCells (.slice a n c) r)
/-- What was stored stays. -/
def EP (rs : Nat) (R : Obj) (x y : World) : Prop := x.heap[rs]? = some R → y.heap[rs]? = some R
section
variable {W x y : World} {B rb rs n : Nat} {m : Int}
theorem CD.next (h : CD W B rb rs m n x) : CD W B rb rs m (n + 1) x := ⟨h.rd.more (by omega), h.os, h.tape, h.output, h.size, h.keep, h.low, h.res⟩
theorem CD.start {a : Option Addr} {k c : Nat} {r : Int} (h : Rd B W rb m) (hr : W.heap[rs]? = some (repoCells (.slice a k c) r)) : CD W B rb rs m 0 W.drew := ⟨h.drew.more (by simp), rfl, rfl, rfl, Nat.le_refl _, fun _ _ _ _ _ => rfl, fun _ _ _ _ => rfl, _, _, _, _, hr⟩
theorem CD.picked (h : CD W B rb rs m n x) (hR : Rd B y rb (m + n + 1)) (hW : Wrote B isRd x y) : CD W B rb rs m (n + 1) y := by
  obtain ⟨a0, k0, c0, r0, hres⟩ := h.res
  refine ⟨hR.more (by omega), hW.os.trans h.os, hW.tape.trans h.tape, hW.output.trans h.output, Nat.le_trans h.size hW.size, fun b t hc hb ht => ?_, fun b hb hl hne => ?_, a0, k0, c0, r0, hW.blk hres repoNotRd⟩
  · have e := h.keep b t hc hb ht
    obtain ⟨C, hC⟩ := hc
    exact (hW.other ⟨C, e.trans hC⟩ ht).trans e
  · exact (hW.block b (Nat.lt_of_lt_of_le hl h.size) (Or.inl hb)).trans (h.low b hb hl hne)
theorem EP.picked {R : Obj} {C : Array Value} (hR : R = .cells C 25 (0, 0)) (hW : Wrote B isRd x y) : EP rs R x y := fun h => by
  subst hR
  exact hW.blk h repoNotRd
theorem Rd.repo {a : Option Addr} {k c : Nat} {r : Int} (h : Rd B x rb m) (hres : x.heap[rs]? = some (repoCells (.slice a k c) r)) (hne : rs ≠ rb) (u v : Value) : Rd B ((x.setCell ⟨rs, 0, none⟩ u).setCell ⟨rs, 1, none⟩ v) rb m := by
  have ho : ∀ b, b ≠ rs → ((x.setCell ⟨rs, 0, none⟩ u).setCell ⟨rs, 1, none⟩ v).heap[b]? = x.heap[b]? := fun b hb => (blk_setCell_other _ _ _ _ hb).trans (blk_setCell_other _ _ _ _ hb)
  obtain ⟨hB, a', n', c', p, hh, h0, h1, h2, hc⟩ := h
  refine ⟨hB, a', n', c', p, (ho rb (fun e => hne e.symm)).trans hh, h0, h1, h2, ?_⟩
  rcases hc with hc | ⟨b, o, ha, hb1, hb2, hc⟩
  · exact Or.inl hc
  · by_cases hn : n' = 0
    · exact Or.inl hn
    · have hb : b ≠ rs := fun e => by
        subst e
        obtain ⟨z, hz, _⟩ := hc 0 (by omega)
        simp only [World.cell?, hres, repoCells] at hz
        match o with
        | 0 => simp at hz
        | 1 => simp at hz
        | o + 2 => simp at hz
      refine Or.inr ⟨b, o, ha, hb1, by simpa [nblk_setCell] using hb2, fun i hi => ?_⟩
      obtain ⟨z, hz⟩ := hc i hi
      exact ⟨z, by rw [World.cell?_of_block (w := x) (a := ⟨b, o + i, none⟩) (ho b hb)]; exact hz⟩
theorem CD.store (h : CD W B rb rs m n x) (hne : rs ≠ rb) (a : Option Addr) (k c : Nat) (room : Int) : CD W B rb rs m (n + 1) ((x.setCell ⟨rs, 0, none⟩ (.slice a k c)).setCell ⟨rs, 1, none⟩ (.int .i64 room)) := by
  obtain ⟨a0, k0, c0, r0, hres⟩ := h.res
  have ho : ∀ b, b ≠ rs → ((x.setCell ⟨rs, 0, none⟩ (.slice a k c)).setCell ⟨rs, 1, none⟩ (.int .i64 room)).heap[b]? = x.heap[b]? := fun b hb => (blk_setCell_other _ _ _ _ hb).trans (blk_setCell_other _ _ _ _ hb)
  refine ⟨(Rd.repo h.rd hres hne _ _).more (by omega), h.os, h.tape, h.output, by simpa [nblk_setCell] using h.size, fun b t hc hb ht => (ho b hb).trans (h.keep b t hc hb ht), fun b hb hl hn => (ho b hn).trans (h.low b hb hl hn), a, k, c, room, ?_⟩
  rw [repoCells, blk_set (blk_set hres 0 _) 1 _]
  rfl
theorem CD.stored (h : CD W B rb rs m n x) (v : Value) (room : Int) : ((x.setCell ⟨rs, 0, none⟩ v).setCell ⟨rs, 1, none⟩ (.int .i64 room)).heap[rs]? = some (repoCells v room) := by
  obtain ⟨a0, k0, c0, r0, hres⟩ := h.res
  rw [repoCells, blk_set (blk_set hres 0 _) 1 _]
  rfl
theorem CD.row {l : List Int} {v : Value} (h : CD W B rb rs m n x) (hr : RowI 0 W v l) (hrs : CellsOf W rs 25) : RowI 0 x v l := by
  obtain ⟨h1, h2⟩ := hr
  refine ⟨h1, h2.imp id ?_⟩
  rintro ⟨g, cap, cur, hv, hg, hc, r⟩
  exact ⟨g, cap, cur, hv, hg, (h.keep g _ ⟨cur, hc⟩ (fun e => by subst e; obtain ⟨C, hC⟩ := hrs; rw [hC] at hc; simp at hc) intNoRd).trans hc, r⟩
theorem CD.below {w : World} (h : CD W B rb rs m n x) (hb : Below w.heap.size w W) (hB : w.heap.size ≤ B) (hr : w.heap.size ≤ rs) : Below w.heap.size w x :=
  hb.trans ⟨h.os, h.tape, h.output, h.size, fun k hk => h.low k (by omega) (by have := hb.size; omega) (by omega)⟩
end
/-- Behind the store of the step. -/
theorem fin_st {s rs N : Nat} {w x : World} {v u : Value} {set : List Int} {s0 : StepD} {room : Int} (hres : x.heap[rs]? = some (repoCells v room)) (hst : x.heap[rs + 1]? = some (stepCells s0)) (hv : V2 s x N v) (hr : RowI 0 x u set) (hW : Below w.heap.size w x) (h2 : w.heap.size ≤ rs) (t : StepD) :
    let y := ((x.setCell ⟨rs + 1, 0, none⟩ (.int .i64 t.kind)).setCell ⟨rs + 1, 1, none⟩ (.int .i64 t.inn)).setCell ⟨rs + 1, 2, none⟩ (.int .i64 t.out)
    V2 s y N v ∧ RowI 0 y u set ∧ Below w.heap.size w y ∧ y.cell? ⟨rs, 0, none⟩ = some v ∧ y.cell? ⟨rs, 1, none⟩ = some (.int .i64 room) ∧ y.cell? ⟨rs + 1, 0, none⟩ = some (.int .i64 t.kind) ∧ y.cell? ⟨rs + 1, 1, none⟩ = some (.int .i64 t.inn) ∧ y.cell? ⟨rs + 1, 2, none⟩ = some (.int .i64 t.out) := by
  intro y
  obtain ⟨f3, f4, _⟩ := two hres
  have k1 := blk_set hst 0 (.int .i64 t.kind)
  have k2 := blk_set k1 1 (.int .i64 t.inn)
  have k3 : y.heap[rs + 1]? = some (stepCells t) := by
    show (((x.setCell ⟨rs + 1, 0, none⟩ (.int .i64 t.kind)).setCell ⟨rs + 1, 1, none⟩ (.int .i64 t.inn)).setCell ⟨rs + 1, 2, none⟩ (.int .i64 t.out)).heap[rs + 1]? = _
    rw [blk_set k2 2 _]; rfl
  have ko : y.heap[rs]? = x.heap[rs]? :=
    (blk_setCell_other _ _ _ _ (show rs ≠ rs + 1 by omega)).trans ((blk_setCell_other _ _ _ _ (show rs ≠ rs + 1 by omega)).trans (blk_setCell_other _ _ _ _ (show rs ≠ rs + 1 by omega)))
  obtain ⟨c0, c1, c2, _⟩ := three k3
  refine ⟨((hv.apartS ⟨_, hst⟩).apartS ⟨_, k1⟩).apartS ⟨_, k2⟩, RowI.stepB hr hst _ _ _, ?_, (World.cell?_of_block (w := x) (a := ⟨rs, 0, none⟩) ko).trans f3, (World.cell?_of_block (w := x) (a := ⟨rs, 1, none⟩) ko).trans f4, c0, c1, c2⟩
  exact Below.setCell (Below.setCell (Below.setCell hW (by show w.heap.size ≤ rs + 1; omega) _) (by show w.heap.size ≤ rs + 1; omega) _) (by show w.heap.size ≤ rs + 1; omega) _
/-- What the operations leave: a step that is picked out of some. -/
def TP (rs : Nat) (R : Obj) (P U LV : Value) (b o rb len : Nat) (i : Nat) (v : Value) (x : World) : Prop := match i with
  | 0 => v = P
  | 1 => v = U
  | 2 => v = LV
  | 3 => v = .pointer (some ⟨rb, 0, none⟩)
  | 4 => v = LV
  | 5 => v = .int .i64 (len : Int)
  | 6 => ∃ r : Nat, v = .int .i64 (r : Int) ∧ r < len
  | 7 => ∃ r : Nat, v = .pointer (some ⟨b, o + r * 3, none⟩) ∧ r < len
  | 8 => ∃ s : StepD, v = .agg #[.int .i64 s.kind, .int .i64 s.inn, .int .i64 s.out]
  | 9 => x.heap[rs]? = some R
  | 10 => v = U
  | _ => True
theorem TP_on {rs : Nat} {R : Obj} {P U LV : Value} {b o rb len i : Nat} {v : Value} {x y : World} (h : TP rs R P U LV b o rb len i v x) (e : EP rs R x y) : TP rs R P U LV b o rb len i v y := by
  unfold TP at h ⊢
  split at h <;> first | exact h | exact e h
/-- What the operations leave: a step that is drawn. -/
def TQ (rs : Nat) (R : Obj) (P U : Value) (rb : Nat) (i : Nat) (v : Value) (x : World) : Prop := match i with
  | 0 => v = P
  | 1 => v = U
  | 2 => v = .pointer (some ⟨rb, 0, none⟩)
  | 3 => ∃ r : Int, v = .int .i64 r ∧ 0 ≤ r ∧ r < 5
  | 4 => v = .pointer (some ⟨rb, 0, none⟩)
  | 5 => ∃ r : Int, v = .int .i64 r ∧ 0 ≤ r ∧ r < 8
  | 6 => ∃ r : Int, v = .int .i64 r
  | 7 => v = .pointer (some ⟨rb, 0, none⟩)
  | 8 => ∃ r : Int, v = .int .i64 r ∧ 0 ≤ r ∧ r < 8
  | 9 => ∃ r : Int, v = .int .i64 r
  | 10 => ∃ s : StepD, v = .agg #[.int .i64 s.kind, .int .i64 s.inn, .int .i64 s.out]
  | 11 => x.heap[rs]? = some R
  | 12 => v = U
  | _ => True
theorem TQ_on {rs : Nat} {R : Obj} {P U : Value} {rb i : Nat} {v : Value} {x y : World} (h : TQ rs R P U rb i v x) (e : EP rs R x y) : TQ rs R P U rb i v y := by
  unfold TQ at h ⊢
  split at h <;> first | exact h | exact e h

/-- What DrawStepDo answers. -/
def DrawnDo (w w' : World) (e : Ending) : Prop := ∃ (v : Value) (room : Int) (u : Value) (s : StepD), e = .returned (.tuple #[.agg #[v, .int .i64 room], u, .agg #[.int .i64 s.kind, .int .i64 s.inn, .int .i64 s.out]]) ∧ V2 w.heap.size w' 60000 v ∧ ∃ set, RowI 0 w' u set ∧ set.length ≤ 200002
end Go.Proofs.Ytmjmcbmfleeolaf
