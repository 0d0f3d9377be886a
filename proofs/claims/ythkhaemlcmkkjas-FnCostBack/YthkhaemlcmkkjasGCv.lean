/- The room of drawn packs' rows. DrawStepDo: the drawn packs, a drawn state and a drawn step. -/
import Derived.Test.YthkhaemlcmkkjasGDrawK
import Derived.Test.YthkhaemlcmkkjasGSp
import Derived.Test.YthkhaemlcmkkjasGDrawS
import Derived.Test.YthkhaemlcmkkjasSpF
import Derived.Test.YthkhaemlcmkkjasGStL
import Derived.Test.YthkhaemlcmkkjasGRn
import Derived.Test.YthkhaemlcmkkjasGReg
namespace Go.Proofs.Ythkhaemlcmkkjas
set_option linter.unusedVariables false
set_option linter.unusedSimpArgs false
open Go.RowKit Go.Deep

theorem V2.caps {s N c : Nat} {w : World} {a : Option Addr} {l : List PackD} (h : V2 s w N (.slice a l.length c)) (hP : PacksAt (Old w) w a l) : CapsAt w a l := fun b o ha i hi => by
  obtain ⟨g, C, e, _⟩ := SlBy.addr h (show 0 < l.length by omega)
  subst ha
  simp at e
  obtain ⟨rfl, rfl⟩ := e
  rcases hP.2 with hnil | ⟨b', o', e, hS, hpk⟩
  · rw [hnil] at hi; simp at hi
  simp at e
  obtain ⟨rfl, rfl⟩ := e
  obtain ⟨a1, d1, a2, d2, a3, d3, hce, hpv⟩ := hpk i hi
  have n4 := hce.pres
  obtain ⟨x, y, z, v1, v2, v3, k0, k1, k2, k3, k4, k5, hQ⟩ := V2.pack h hi
  obtain ⟨a2', n2, c2, e2, h1, _, h3⟩ := SlBy.slice hQ.pres
  rw [Nat.zero_add] at n4
  rw [k4, e2] at n4
  simp at n4
  obtain ⟨rfl, rfl, rfl⟩ := n4
  refine ⟨hS, a2', c2, ?_, h1, h3⟩
  rw [Nat.zero_add, k4, e2]
  rfl
end Go.Proofs.Ythkhaemlcmkkjas

namespace Go.Proofs.Ythkhaemlcmkkjas
set_option linter.unusedVariables false
set_option linter.unusedSimpArgs false
open Go.RowKit Go.Deep

def stepCells (s : StepD) : Obj := .cells #[.int .i64 s.kind, .int .i64 s.inn, .int .i64 s.out] 27 (0, 0)
theorem stepNotRd : (27 : TypeId) ≠ 121 := by decide
theorem V2.apartS {s N b0 : Nat} {x : World} {v u : Value} {i : Nat} (h : V2 s x N v) (hb : CellsOf x b0 27) : V2 s (x.setCell ⟨b0, i, none⟩ u) N v := by
  have keep : ∀ {b : Nat} {t : TypeId}, CellsOf x b t → t ≠ 27 → (x.setCell ⟨b0, i, none⟩ u).heap[b]? = x.heap[b]? := fun {b t} hc ht => blk_setCell_other _ _ _ _ (show b ≠ b0 from fun e => ht (by subst e; exact hc.one hb))
  have g0 : ∀ b n, G0 s x b n → G0 s (x.setCell ⟨b0, i, none⟩ u) b n := fun b n h => GoodBy.mono h (keep (GoodBy.cells h) (by decide)) fun _ _ h => h
  have g1 : ∀ b n, G1 s x N b n → G1 s (x.setCell ⟨b0, i, none⟩ u) N b n := fun b n h => GoodBy.mono h (keep (GoodBy.cells h) (by decide)) fun _ _ h => SlBy.mono h g0 (Nat.le_refl _)
  exact SlBy.mono h (fun b n h => GoodBy.mono h (keep (GoodBy.cells h) (by decide)) fun _ _ h => ⟨h.name, h.nums, fun e => SlBy.mono (h.deps e) g1 (Nat.le_refl _), fun e => SlBy.mono (h.reqs e) g0 (Nat.le_refl _)⟩) (Nat.le_refl _)
theorem RowI.stepB {B : Nat} {w : World} {v : Value} {l : List Int} {rs : Nat} {s : StepD} (h : RowI B w v l) (hres : w.heap[rs]? = some (stepCells s)) (a b c : Value) : RowI B (((w.setCell ⟨rs, 0, none⟩ a).setCell ⟨rs, 1, none⟩ b).setCell ⟨rs, 2, none⟩ c) v l := by
  obtain ⟨h1, h2⟩ := h
  refine ⟨h1, h2.imp id ?_⟩
  rintro ⟨g, cap, cur, hv, hg, hc, r⟩
  have hne : g ≠ rs := fun e => by subst e; rw [hres] at hc; simp [stepCells] at hc
  exact ⟨g, cap, cur, hv, hg, ((blk_setCell_other _ _ _ _ hne).trans ((blk_setCell_other _ _ _ _ hne).trans (blk_setCell_other _ _ _ _ hne))).trans hc, r⟩
theorem steps_kept {B rs : Nat} {w w' : World} {v : Value} {n : Nat} {xs : List Value} (h : w.ownsRow B 27 3 v n xs) (hw : ∀ (b : Nat) (C : Array Value), w.heap[b]? = some (.cells C 27 (0, 0)) → b ≠ rs → w'.heap[b]? = w.heap[b]?) (hrs : CellsOf w rs 25) : w'.ownsRow B 27 3 v n xs := by
  obtain ⟨h1, h2⟩ := h
  refine ⟨h1, h2.imp id ?_⟩
  rintro ⟨g, cap, cur, hv, hg, hc, r⟩
  exact ⟨g, cap, cur, hv, hg, (hw g cur hc (fun e => by subst e; obtain ⟨C, hC⟩ := hrs; rw [hC] at hc; simp at hc)).trans hc, r⟩
theorem steps_wrote {B B' : Nat} {w w' : World} {v : Value} {n : Nat} {xs : List Value} (h : w.ownsRow B 27 3 v n xs) (hw : Wrote B' isRd w w') : w'.ownsRow B 27 3 v n xs := by
  obtain ⟨h1, h2⟩ := h
  refine ⟨h1, h2.imp id ?_⟩
  rintro ⟨g, cap, cur, hv, hg, hc, r⟩
  exact ⟨g, cap, cur, hv, hg, (hw.other ⟨cur, hc⟩ stepNotRd).trans hc, r⟩
theorem V2.kept {s N : Nat} {W x : World} {v : Value} (h : V2 s W N v) (keep : ∀ (b : Nat) (t : TypeId), CellsOf W b t → t ≠ 25 → t ≠ 121 → x.heap[b]? = W.heap[b]?) : V2 s x N v := by
  have g0 : ∀ b n, G0 s W b n → G0 s x b n := fun b n h => GoodBy.mono h (keep _ _ (GoodBy.cells h) (by decide) (by decide)) fun _ _ h => h
  have g1 : ∀ b n, G1 s W N b n → G1 s x N b n := fun b n h => GoodBy.mono h (keep _ _ (GoodBy.cells h) (by decide) (by decide)) fun _ _ h => SlBy.mono h g0 (Nat.le_refl _)
  exact SlBy.mono h (fun b n h => GoodBy.mono h (keep _ _ (GoodBy.cells h) (by decide) (by decide)) fun _ _ h => ⟨h.name, h.nums, fun e => SlBy.mono (h.deps e) g1 (Nat.le_refl _), fun e => SlBy.mono (h.reqs e) g0 (Nat.le_refl _)⟩) (Nat.le_refl _)
/-- Along the statement that answers: the reader and the answer's packs alone are written. -/
structure CD (W : World) (B rb rs : Nat) (m : Int) (n : Nat) (x : World) : Prop where
  rd : Rd B x rb (m + n)
  os : x.os = W.os
  tape : x.tape = W.tape
  output : x.output = W.output
  size : W.heap.size ≤ x.heap.size
  keep : ∀ (b : Nat) (t : TypeId), CellsOf W b t → b ≠ rs → t ≠ 121 → x.heap[b]? = W.heap[b]?
  low : ∀ b, b < B → b < W.heap.size → b ≠ rs → x.heap[b]? = W.heap[b]?
  res : ∃ (a : Option Addr) (n c : Nat) (r : Int), x.heap[rs]? = some (repoCells (.slice a n c) r)
/-- What was stored stays. -/
def EP (rs : Nat) (R : Obj) (x y : World) : Prop := x.heap[rs]? = some R → y.heap[rs]? = some R
section
variable {W x y : World} {B rb rs n : Nat} {m : Int}
theorem CD.next (h : CD W B rb rs m n x) : CD W B rb rs m (n + 1) x := ⟨h.rd.more (by omega), h.os, h.tape, h.output, h.size, h.keep, h.low, h.res⟩
theorem CD.start {a : Option Addr} {k c : Nat} {r : Int} (h : Rd B W rb m) (hr : W.heap[rs]? = some (repoCells (.slice a k c) r)) : CD W B rb rs m 0 W.drew := ⟨h.drew.more (by simp), rfl, rfl, rfl, Nat.le_refl _, fun _ _ _ _ _ => rfl, fun _ _ _ _ => rfl, _, _, _, _, hr⟩
theorem CD.picked (h : CD W B rb rs m n x) (hR : Rd B y rb (m + n + 1)) (hW : Wrote B isRd x y) : CD W B rb rs m (n + 1) y := by
  obtain ⟨a0, k0, c0, r0, hres⟩ := h.res
  refine ⟨hR.more (by omega), hW.os.trans h.os, hW.tape.trans h.tape, hW.output.trans h.output, Nat.le_trans h.size hW.size, fun b t hc hb ht => ?_, fun b hb hl hne => ?_, a0, k0, c0, r0, hW.blk hres repoNotRd⟩
  · have e := h.keep b t hc hb ht
    obtain ⟨C, hC⟩ := hc
    exact (hW.other ⟨C, e.trans hC⟩ ht).trans e
  · exact (hW.block b (Nat.lt_of_lt_of_le hl h.size) (Or.inl hb)).trans (h.low b hb hl hne)
theorem EP.picked {R : Obj} {C : Array Value} (hR : R = .cells C 25 (0, 0)) (hW : Wrote B isRd x y) : EP rs R x y := fun h => by
  subst hR
  exact hW.blk h repoNotRd
theorem Rd.repo {a : Option Addr} {k c : Nat} {r : Int} (h : Rd B x rb m) (hres : x.heap[rs]? = some (repoCells (.slice a k c) r)) (hne : rs ≠ rb) (u v : Value) : Rd B ((x.setCell ⟨rs, 0, none⟩ u).setCell ⟨rs, 1, none⟩ v) rb m := by
  have ho : ∀ b, b ≠ rs → ((x.setCell ⟨rs, 0, none⟩ u).setCell ⟨rs, 1, none⟩ v).heap[b]? = x.heap[b]? := fun b hb => (blk_setCell_other _ _ _ _ hb).trans (blk_setCell_other _ _ _ _ hb)
  obtain ⟨hB, a', n', c', p, hh, h0, h1, h2, hc⟩ := h
  refine ⟨hB, a', n', c', p, (ho rb (fun e => hne e.symm)).trans hh, h0, h1, h2, ?_⟩
  rcases hc with hc | ⟨b, o, ha, hb1, hb2, hc⟩
  · exact Or.inl hc
  · by_cases hn : n' = 0
    · exact Or.inl hn
    · have hb : b ≠ rs := fun e => by
        subst e
        obtain ⟨z, hz, _⟩ := hc 0 (by omega)
        simp only [World.cell?, hres, repoCells] at hz
        match o with
        | 0 => simp at hz
        | 1 => simp at hz
        | o + 2 => simp at hz
      refine Or.inr ⟨b, o, ha, hb1, by simpa [nblk_setCell] using hb2, fun i hi => ?_⟩
      obtain ⟨z, hz⟩ := hc i hi
      exact ⟨z, by rw [World.cell?_of_block (w := x) (a := ⟨b, o + i, none⟩) (ho b hb)]; exact hz⟩
theorem CD.store (h : CD W B rb rs m n x) (hne : rs ≠ rb) (a : Option Addr) (k c : Nat) (room : Int) : CD W B rb rs m (n + 1) ((x.setCell ⟨rs, 0, none⟩ (.slice a k c)).setCell ⟨rs, 1, none⟩ (.int .i64 room)) := by
  obtain ⟨a0, k0, c0, r0, hres⟩ := h.res
  have ho : ∀ b, b ≠ rs → ((x.setCell ⟨rs, 0, none⟩ (.slice a k c)).setCell ⟨rs, 1, none⟩ (.int .i64 room)).heap[b]? = x.heap[b]? := fun b hb => (blk_setCell_other _ _ _ _ hb).trans (blk_setCell_other _ _ _ _ hb)
  refine ⟨(Rd.repo h.rd hres hne _ _).more (by omega), h.os, h.tape, h.output, by simpa [nblk_setCell] using h.size, fun b t hc hb ht => (ho b hb).trans (h.keep b t hc hb ht), fun b hb hl hn => (ho b hn).trans (h.low b hb hl hn), a, k, c, room, ?_⟩
  rw [repoCells, blk_set (blk_set hres 0 _) 1 _]
  rfl
theorem CD.stored (h : CD W B rb rs m n x) (v : Value) (room : Int) : ((x.setCell ⟨rs, 0, none⟩ v).setCell ⟨rs, 1, none⟩ (.int .i64 room)).heap[rs]? = some (repoCells v room) := by
  obtain ⟨a0, k0, c0, r0, hres⟩ := h.res
  rw [repoCells, blk_set (blk_set hres 0 _) 1 _]
  rfl
theorem CD.row {l : List Int} {v : Value} (h : CD W B rb rs m n x) (hr : RowI 0 W v l) (hrs : CellsOf W rs 25) : RowI 0 x v l := by
  obtain ⟨h1, h2⟩ := hr
  refine ⟨h1, h2.imp id ?_⟩
  rintro ⟨g, cap, cur, hv, hg, hc, r⟩
  exact ⟨g, cap, cur, hv, hg, (h.keep g _ ⟨cur, hc⟩ (fun e => by subst e; obtain ⟨C, hC⟩ := hrs; rw [hC] at hc; simp at hc) intNoRd).trans hc, r⟩
theorem CD.below {w : World} (h : CD W B rb rs m n x) (hb : Below w.heap.size w W) (hB : w.heap.size ≤ B) (hr : w.heap.size ≤ rs) : Below w.heap.size w x :=
  hb.trans ⟨h.os, h.tape, h.output, h.size, fun k hk => h.low k (by omega) (by have := hb.size; omega) (by omega)⟩
end
/-- Behind the store of the step. -/
theorem fin_st {s rs N : Nat} {w x : World} {v u : Value} {set : List Int} {s0 : StepD} {room : Int} (hres : x.heap[rs]? = some (repoCells v room)) (hst : x.heap[rs + 1]? = some (stepCells s0)) (hv : V2 s x N v) (hr : RowI 0 x u set) (hW : Below w.heap.size w x) (h2 : w.heap.size ≤ rs) (t : StepD) :
    let y := ((x.setCell ⟨rs + 1, 0, none⟩ (.int .i64 t.kind)).setCell ⟨rs + 1, 1, none⟩ (.int .i64 t.inn)).setCell ⟨rs + 1, 2, none⟩ (.int .i64 t.out)
    V2 s y N v ∧ RowI 0 y u set ∧ Below w.heap.size w y ∧ y.cell? ⟨rs, 0, none⟩ = some v ∧ y.cell? ⟨rs, 1, none⟩ = some (.int .i64 room) ∧ y.cell? ⟨rs + 1, 0, none⟩ = some (.int .i64 t.kind) ∧ y.cell? ⟨rs + 1, 1, none⟩ = some (.int .i64 t.inn) ∧ y.cell? ⟨rs + 1, 2, none⟩ = some (.int .i64 t.out) := by
  intro y
  obtain ⟨f3, f4, _⟩ := two hres
  have k1 := blk_set hst 0 (.int .i64 t.kind)
  have k2 := blk_set k1 1 (.int .i64 t.inn)
  have k3 : y.heap[rs + 1]? = some (stepCells t) := by
    show (((x.setCell ⟨rs + 1, 0, none⟩ (.int .i64 t.kind)).setCell ⟨rs + 1, 1, none⟩ (.int .i64 t.inn)).setCell ⟨rs + 1, 2, none⟩ (.int .i64 t.out)).heap[rs + 1]? = _
    rw [blk_set k2 2 _]; rfl
  have ko : y.heap[rs]? = x.heap[rs]? :=
    (blk_setCell_other _ _ _ _ (show rs ≠ rs + 1 by omega)).trans ((blk_setCell_other _ _ _ _ (show rs ≠ rs + 1 by omega)).trans (blk_setCell_other _ _ _ _ (show rs ≠ rs + 1 by omega)))
  obtain ⟨c0, c1, c2, _⟩ := three k3
  refine ⟨((hv.apartS ⟨_, hst⟩).apartS ⟨_, k1⟩).apartS ⟨_, k2⟩, RowI.stepB hr hst _ _ _, ?_, (World.cell?_of_block (w := x) (a := ⟨rs, 0, none⟩) ko).trans f3, (World.cell?_of_block (w := x) (a := ⟨rs, 1, none⟩) ko).trans f4, c0, c1, c2⟩
  exact Below.setCell (Below.setCell (Below.setCell hW (by show w.heap.size ≤ rs + 1; omega) _) (by show w.heap.size ≤ rs + 1; omega) _) (by show w.heap.size ≤ rs + 1; omega) _
/-- What the operations leave: a step that is picked out of some. -/
def TP (rs : Nat) (R : Obj) (P U LV : Value) (b o rb len : Nat) (i : Nat) (v : Value) (x : World) : Prop := match i with
  | 0 => v = P
  | 1 => v = U
  | 2 => v = LV
  | 3 => v = .pointer (some ⟨rb, 0, none⟩)
  | 4 => v = LV
  | 5 => v = .int .i64 (len : Int)
  | 6 => ∃ r : Nat, v = .int .i64 (r : Int) ∧ r < len
  | 7 => ∃ r : Nat, v = .pointer (some ⟨b, o + r * 3, none⟩) ∧ r < len
  | 8 => ∃ s : StepD, v = .agg #[.int .i64 s.kind, .int .i64 s.inn, .int .i64 s.out]
  | 9 => x.heap[rs]? = some R
  | 10 => v = U
  | _ => True
theorem TP_on {rs : Nat} {R : Obj} {P U LV : Value} {b o rb len i : Nat} {v : Value} {x y : World} (h : TP rs R P U LV b o rb len i v x) (e : EP rs R x y) : TP rs R P U LV b o rb len i v y := by
  unfold TP at h ⊢
  split at h <;> first | exact h | exact e h
/-- What the operations leave: a step that is drawn. -/
def TQ (rs : Nat) (R : Obj) (P U : Value) (rb : Nat) (i : Nat) (v : Value) (x : World) : Prop := match i with
  | 0 => v = P
  | 1 => v = U
  | 2 => v = .pointer (some ⟨rb, 0, none⟩)
  | 3 => ∃ r : Int, v = .int .i64 r ∧ 0 ≤ r ∧ r < 5
  | 4 => v = .pointer (some ⟨rb, 0, none⟩)
  | 5 => ∃ r : Int, v = .int .i64 r ∧ 0 ≤ r ∧ r < 8
  | 6 => ∃ r : Int, v = .int .i64 r
  | 7 => v = .pointer (some ⟨rb, 0, none⟩)
  | 8 => ∃ r : Int, v = .int .i64 r ∧ 0 ≤ r ∧ r < 8
  | 9 => ∃ r : Int, v = .int .i64 r
  | 10 => ∃ s : StepD, v = .agg #[.int .i64 s.kind, .int .i64 s.inn, .int .i64 s.out]
  | 11 => x.heap[rs]? = some R
  | 12 => v = U
  | _ => True
theorem TQ_on {rs : Nat} {R : Obj} {P U : Value} {rb i : Nat} {v : Value} {x y : World} (h : TQ rs R P U rb i v x) (e : EP rs R x y) : TQ rs R P U rb i v y := by
  unfold TQ at h ⊢
  split at h <;> first | exact h | exact e h

/-- What DrawStepDo answers. -/
def DrawnDo (w w' : World) (e : Ending) : Prop := ∃ (v : Value) (room : Int) (u : Value) (s : StepD), e = .returned (.tuple #[.agg #[v, .int .i64 room], u, .agg #[.int .i64 s.kind, .int .i64 s.inn, .int .i64 s.out]]) ∧ V2 w.heap.size w' 60000 v ∧ ∃ set, RowI 0 w' u set ∧ set.length ≤ 200002
set_option maxRecDepth 100000 in
set_option maxHeartbeats 8000000 in
theorem DrawStepDo_V (a : Option Addr) (n c : Nat) (w : World) (h : CodeAt w.heap.size w a n) (hn : n ≤ 1048576) (hc : n ≤ c) (hc2 : c ≤ maxLen) :
    Calls Try.prog 26 #[.slice a n c] w fun e w' => DrawnDo w w' e ∧ Below w.heap.size w w' := by
  have b0 := ((Below.refl w.heap.size w).alloc (Nat.le_refl _) (.cells #[.slice none 0 0, .int .i64 0] 25)).alloc (by simp) (.cells #[.int .i64 0, .int .i64 0, .int .i64 0] 27)
  have hcode := h.below b0 (Nat.le_refl _)
  have HF0 := hide (show ((w.alloc (.cells #[.slice none 0 0, .int .i64 0] 25)).alloc (.cells #[.int .i64 0, .int .i64 0, .int .i64 0] 27)).heap[w.heap.size]? = some (repoCells (.slice none 0 0) 0) from (blk_alloc_lt _ _ _ (by simp)).trans (blk_alloc_new _ _))
  have HF1 := hide (show ((w.alloc (.cells #[.slice none 0 0, .int .i64 0] 25)).alloc (.cells #[.int .i64 0, .int .i64 0, .int .i64 0] 27)).heap[w.heap.size + 1]? = some (stepCells ⟨0, 0, 0⟩) by
    have := blk_alloc_new (w.alloc (.cells #[.slice none 0 0, .int .i64 0] 25)) (.cells #[.int .i64 0, .int .i64 0, .int .i64 0] 27)
    simpa [stepCells] using this)
  go_enter Try.func26, Try.ntmps26
  go_wp2_with fail
  refine (l6Open_any a n c _ hcode hn hc hc2).mono ?_
  rintro e w1 ⟨rfl, R1, b1⟩
  simp only [nblk_alloc] at R1 b1
  have hz1 := b1.size
  simp at hz1
  have HRS1 := hide ((b1.block w.heap.size (by omega)).trans (unhide HF0))
  have HRT1 := hide ((b1.block (w.heap.size + 1) (by omega)).trans (unhide HF1))
  have B1 : Below w.heap.size w w1 := b0.trans (b1.mono (by omega))
  have hrl := R1.lt
  clear b0 b1 hcode HF0 HF1
  go_wp2_with fail
  refine (l71Any_V (w.heap.size + 1 + 1) (w.heap.size + 1 + 1) 0 6 _ R1 (by omega) (by omega)).mono ?_
  rintro e w2 ⟨⟨v, room, rfl, hV⟩, R2, W2⟩
  obtain ⟨va, vn, vc, rfl, _, hvN, _⟩ := SlBy.slice hV
  have hz2 := W2.size
  have HRS2 := hide (W2.blk (unhide HRS1) repoNotRd)
  have HRT2 := hide (W2.blk (unhide HRT1) stepNotRd)
  have B2 := B1.trans (W2.bel (B' := w.heap.size) (by omega) (by omega))
  obtain ⟨w3, hw3⟩ : ∃ w3, w3 = w2.alloc (.cells #[.slice va vn vc, .int .i64 room] 25) := ⟨_, rfl⟩
  have b3 : Below w2.heap.size w2 w3 := by rw [hw3]; exact (Below.refl _ _).alloc (Nat.le_refl _) _
  have HPV3 := hide (show w3.heap[w2.heap.size]? = some (repoCells (.slice va vn vc) room) by rw [hw3]; exact blk_alloc_new _ _)
  have HRS3 := hide ((b3.block w.heap.size (by omega)).trans (unhide HRS2))
  have HRT3 := hide ((b3.block (w.heap.size + 1) (by omega)).trans (unhide HRT2))
  have HR3 := hide (R2.below b3)
  have HV3 := hide (V2.ev hV (Ev.of_below (B := 0) (s := w1.heap.size) (N := 60000) b3))
  have HB3 := hide (B2.trans (b3.mono (by omega)))
  obtain ⟨l, hll, hP3⟩ := V2.packs (unhide HV3)
  subst hll
  have HP3 := hide hP3
  have hz3 : w2.heap.size < w3.heap.size := by rw [hw3]; simp
  have x0 : w3.cell? ⟨w2.heap.size, 0, none⟩ = some (.slice va l.length vc) := by rw [hw3]; simp
  have x1 : w3.cell? ⟨w2.heap.size, 1, none⟩ = some (.int .i64 room) := by rw [hw3]; simp
  clear R1 W2 HRS1 HRT1 B1 hV R2 HRS2 HRT2 B2 b3 hP3
  go_upto_region 3 with fail
  rw [← hw3]
  clear hw3
  go_wp2_with fail
  refine (l71Set_V (w.heap.size + 1 + 1) (w.heap.size + 1 + 1) _ va l vc room w3 (unhide HR3) (by omega) (unhide HP3) (by omega)).mono ?_
  rintro e w4 ⟨⟨u, rfl, set, hrow, hsl⟩, R4, W4⟩
  have HRW4 := hide hrow
  have hz4 := W4.size
  have HV4 := hide (V2.ev (unhide HV3) (Ev.of_wrote (s := w1.heap.size) (N := 60000) W4))
  have HRS4 := hide (W4.blk (unhide HRS3) repoNotRd)
  have HRT4 := hide (W4.blk (unhide HRT3) stepNotRd)
  have HPV4 := hide (W4.blk (unhide HPV3) repoNotRd)
  have HB4 := hide ((unhide HB3).trans (W4.bel (B' := w.heap.size) (by omega) (by have := (unhide HB3).size; omega)))
  have HR4 := hide R4
  obtain ⟨sa, sc, hu, hset4⟩ := RowI.set hrow (by omega)
  subst hu
  have HSC : Hid (sa = none → sc = 0) := row_cap0 hrow
  have HS4 := hide hset4
  clear hrow R4 W4 HR3 HV3 HB3 HRS3 HRT3 HPV3 HP3 x0 x1 hset4
  have HSF := hide (show ∃ L : List StepD, L.length ≤ 100 ∧ Calls Try.prog 50 #[.agg #[.slice va l.length vc, .int .i64 room], .slice sa set.length sc] w4 (fun e w' => (∃ v, e = .returned v ∧ w'.ownsRow w4.heap.size 27 3 v L.length (stepVs L)) ∧ Below w4.heap.size w4 w') by
    obtain ⟨l4, hl4, hP4⟩ := V2.packs (unhide HV4)
    have hV4 := unhide HV4
    rw [← hl4] at hV4 ⊢
    exact ⟨fromL l4 room set, Nat.le_trans (from_few _ _ _) (stepsL_few _ _), specStepFrom_any va l4 vc room sa set sc w4 hP4 (V2.caps hV4 hP4) (unhide HS4) (unhide HSC) (by omega)⟩)
  obtain ⟨L, hL, HSF⟩ := unhide HSF
  have HSF := hide HSF
  obtain ⟨p0, p1, _⟩ := two (unhide HPV4)
  clear HS4
  go_wp2_with fail
  refine (unhide HSF).mono ?_
  rintro e w5 ⟨⟨v5, rfl, hrow5⟩, b5⟩
  have HV5 := hide (V2.ev (unhide HV4) (Ev.of_below (B := 0) (s := w1.heap.size) (N := 60000) b5))
  have HRS5 := hide ((b5.block w.heap.size (by omega)).trans (unhide HRS4))
  have HRT5 := hide ((b5.block (w.heap.size + 1) (by omega)).trans (unhide HRT4))
  have HPV5 := hide ((b5.block w2.heap.size (by omega)).trans (unhide HPV4))
  have HB5 := hide ((unhide HB4).trans (b5.mono (unhide HB4).size))
  have HRW5 := hide (show RowI 0 w5 _ set from ownsRow_on (unhide HRW4) b5)
  have HR5 := hide ((unhide HR4).below b5)
  have hz5 := b5.size
  clear HV4 HRS4 HRT4 HPV4 HB4 HRW4 HR4
  have HL5 := hide hrow5
  obtain ⟨la, lc, hv5⟩ : ∃ la lc, v5 = .slice la L.length lc := by
    rcases hrow5.2 with ⟨hv, h0⟩ | ⟨g, cap, cur, hv, _⟩
    · exact ⟨none, 0, by rw [hv, h0]⟩
    · exact ⟨_, _, hv⟩
  subst hv5
  clear hrow5 b5 HSF p0 p1
  -- the steps that are allowed, or all, or a drawn one
  have HALL : Hid (∀ (k : Nat) (W : World), w4.heap.size ≤ W.heap.size → Hid (V2 w1.heap.size W 60000 (.slice va l.length vc)) → ∃ L : List StepD, L.length ≤ 100 ∧ Calls Try.prog 52 #[.agg #[.slice va l.length vc, .int .i64 room]] W (fun e w' => (∃ v, e = .returned v ∧ w'.ownsRow W.heap.size 27 3 v L.length (stepVs L)) ∧ Below W.heap.size W w')) := fun k W hW HV => by
    obtain ⟨l4, hl4, hP4⟩ := V2.packs (unhide HV)
    rw [← hl4]
    exact ⟨stepsL l4 room, stepsL_few _ _, specStepAll_any va l4 vc room W hP4⟩
  by_cases hem : 0 < L.length
  · have hg : (0 : Int) < (L.length : Int) := by omega
    go_wp2_with fail
    refine (pick_any (w.heap.size + 1 + 1) (w.heap.size + 1 + 1) _ 3 _ (unhide HR5) (by omega) (by omega) (by omega)).mono ?_
    rintro e w6 ⟨⟨r, rfl, hr0, hr1⟩, R6, W6⟩
    have HL6 := hide (steps_wrote (unhide HL5) W6)
    have hz6 := W6.size
    have HV6 := hide (V2.ev (unhide HV5) (Ev.of_wrote (s := w1.heap.size) (N := 60000) W6))
    have HRS6 := hide (W6.blk (unhide HRS5) repoNotRd)
    have HRT6 := hide (W6.blk (unhide HRT5) stepNotRd)
    have HPV6 := hide (W6.blk (unhide HPV5) repoNotRd)
    have HB6 := hide ((unhide HB5).trans (W6.bel (B' := w.heap.size) (by omega) (by have := (unhide HB5).size; omega)))
    have HRW6 := hide (RowI.wrote (unhide HRW5) W6)
    have HR6 := hide R6
    clear HV5 HRS5 HRT5 HPV5 HB5 HRW5 HR5 R6
    clear W6 HL5
    by_cases hr : 0 < r
    · obtain ⟨lb, lo, hla⟩ : ∃ lb lo, la = some ⟨lb, lo, none⟩ := by
        rcases (unhide HL6).2 with ⟨hv, h0⟩ | ⟨g, cap, cur, hv, _⟩
        · omega
        · simp at hv
          exact ⟨_, _, hv.1⟩
      subst hla
      have HCE : Hid (∀ x : World, (∀ (b : Nat) (C : Array Value), w6.heap[b]? = some (.cells C 27 (0, 0)) → b ≠ w.heap.size → x.heap[b]? = w6.heap[b]?) → ∀ r, r < L.length → x.cell? ⟨lb, lo + r * 3, none⟩ = some (.int .i64 (L.getD r dStep).kind) ∧ x.cell? ⟨lb, lo + r * 3 + 1, none⟩ = some (.int .i64 (L.getD r dStep).inn) ∧ x.cell? ⟨lb, lo + r * 3 + 2, none⟩ = some (.int .i64 (L.getD r dStep).out)) := fun x hx r hr => by
        obtain ⟨a', c', he, _, _, hS⟩ := StepsAt.of_row (steps_kept (unhide HL6) hx ⟨_, unhide HRS6⟩) (by omega)
        simp at he
        obtain ⟨rfl, _⟩ := he
        rcases hS.2 with h0 | ⟨b', o', he, _, hc⟩
        · rw [h0] at hr; simp at hr
        · simp at he
          obtain ⟨rfl, rfl⟩ := he
          exact hc r hr
      have HV := HV6
      have HRS := HRS6
      have HRT := HRT6
      have HPV := HPV6
      have HB := HB6
      have HRW := HRW6
      have HR := HR6
      clear HV6 HRS6 HRT6 HPV6 HB6 HRW6 HR6
      go_upto_region 6 with fail
      refine wp_region_headE 11 (by kernel_rfl) (by kernel_rfl) (by kernel_rfl) (by kernel_rfl) (by kernel_rfl) (TP w.heap.size (repoCells (.slice va l.length vc) room) (.agg #[.slice va l.length vc, .int .i64 room]) (.slice sa set.length sc) (.slice (some ⟨lb, lo, none⟩) L.length lc) lb lo (w.heap.size + 1 + 1) L.length) (CD w6 (w.heap.size + 1 + 1) (w.heap.size + 1 + 1) w.heap.size 200000) (EP w.heap.size (repoCells (.slice va l.length vc) room)) (fun _ _ _ _ h e => TP_on h e) (CD.start ((unhide HR).more (by omega)) (unhide HRS)) ?_ ?_
      · intro i o him hi a x n hn ha hc hd
        match i with
        | 0 =>
          simp at hi
          subst hi
          have e6 : a.tmps[6]? = some (.pointer (some ⟨w2.heap.size, 0, none⟩)) := (ha.slot 6 (slots_no (by kernel_rfl))).trans rfl
          obtain ⟨p0, p1, _⟩ := two ((hc.keep _ _ ⟨_, unhide HPV⟩ (by omega) repoNotRd).trans (unhide HPV))
          go_simp
          exact ⟨_, rfl, rfl, hc.next, fun h => h⟩
        | 1 =>
          simp at hi
          subst hi
          have e7 : a.tmps[7]? = some (.slice sa set.length sc) := (ha.slot 7 (slots_no (by kernel_rfl))).trans rfl
          go_simp
          exact ⟨_, rfl, rfl, hc.next, fun h => h⟩
        | 2 =>
          simp at hi
          subst hi
          have e8 : a.tmps[8]? = some (.slice (some ⟨lb, lo, none⟩) L.length lc) := (ha.slot 8 (slots_no (by kernel_rfl))).trans rfl
          go_simp
          exact ⟨_, rfl, rfl, hc.next, fun h => h⟩
        | 3 =>
          simp at hi
          subst hi
          have e5 : a.tmps[5]? = some (.pointer (some ⟨w.heap.size + 1 + 1, 0, none⟩)) := (ha.slot 5 (slots_no (by kernel_rfl))).trans rfl
          go_simp
          exact ⟨_, rfl, rfl, hc.next, fun h => h⟩
        | 4 =>
          simp at hi
          subst hi
          have e8 : a.tmps[8]? = some (.slice (some ⟨lb, lo, none⟩) L.length lc) := (ha.slot 8 (slots_no (by kernel_rfl))).trans rfl
          go_simp
          exact ⟨_, rfl, rfl, hc.next, fun h => h⟩
        | 5 =>
          simp at hi
          subst hi
          have d4 := hd ⟨4, .data⟩ (by simp) rfl
          rw [valOf_at (d := 32) rfl] at d4
          have d4' : a.tmps[32]?.getD undef = .slice (some ⟨lb, lo, none⟩) L.length lc := d4
          go_simp
          exact ⟨_, rfl, rfl, hc.next, fun h => h⟩
        | 6 =>
          simp at hi
          subst hi
          have d3 := hd ⟨3, .data⟩ (by simp) rfl
          rw [valOf_at (d := 31) rfl] at d3
          have d3' : a.tmps[31]?.getD undef = .pointer (some ⟨w.heap.size + 1 + 1, 0, none⟩) := d3
          have d5 := hd ⟨5, .data⟩ (by simp) rfl
          rw [valOf_at (d := 33) rfl] at d5
          have d5' : a.tmps[33]?.getD undef = .int .i64 (L.length : Int) := d5
          go_simp
          refine (pick_any (w.heap.size + 1 + 1) (w.heap.size + 1 + 1) _ (L.length : Int) _ hc.rd (by omega) (by omega) (by omega)).mono ?_
          rintro e y ⟨⟨r, rfl, hr0, hr1⟩, hR, hW⟩
          exact ⟨_, rfl, ⟨r.toNat, by rw [Int.toNat_of_nonneg hr0], by omega⟩, hc.picked hR hW, EP.picked rfl hW⟩
        | 7 =>
          simp at hi
          subst hi
          have d2 := hd ⟨2, .data⟩ (by simp) rfl
          rw [valOf_at (d := 30) rfl] at d2
          have d2' : a.tmps[30]?.getD undef = .slice (some ⟨lb, lo, none⟩) L.length lc := d2
          obtain ⟨r, h6, hr⟩ := hd ⟨6, .data⟩ (by simp) rfl
          rw [valOf_at (d := 34) rfl] at h6
          have hrz : (r : Int) < (L.length : Int) := by omega
          have hr0 : (0 : Int) ≤ (r : Int) := by omega
          go_simp
          exact ⟨_, rfl, ⟨r, by simp, hr⟩, hc.next, fun h => h⟩
        | 8 =>
          simp at hi
          subst hi
          obtain ⟨r, h7, hr⟩ := hd ⟨7, .data⟩ (by simp) rfl
          rw [valOf_at (d := 35) rfl] at h7
          obtain ⟨c0, c1, c2⟩ := unhide HCE x (fun b C hb hne => hc.keep b _ ⟨C, hb⟩ hne stepNotRd) r hr
          generalize hLs : L.getD r dStep = s7 at c0 c1 c2
          clear hLs
          go_simp
          exact ⟨_, rfl, ⟨s7, rfl⟩, hc.next, fun h => h⟩
        | 9 =>
          simp at hi
          subst hi
          have e2 : a.tmps[2]? = some (.pointer (some ⟨w.heap.size, 0, none⟩)) := (ha.slot 2 (slots_no (by kernel_rfl))).trans rfl
          have d0 := hd ⟨0, .data⟩ (by simp) rfl
          rw [valOf_at (d := 28) rfl] at d0
          have d0' : a.tmps[28]?.getD undef = .agg #[.slice va l.length vc, .int .i64 room] := d0
          obtain ⟨u0, u1, u2, u3, hres⟩ := hc.res
          obtain ⟨r0, r1, rf⟩ := two hres
          have rf0 := rf 0
          have rf1 := rf 1
          have HC := hide hc
          clear hres rf hc
          go_simp
          exact ⟨(unhide HC).stored _ _, (unhide HC).store (by omega) _ _ _ _, fun _ => (unhide HC).stored _ _⟩
        | 10 =>
          simp at hi
          subst hi
          have d1 := hd ⟨1, .data⟩ (by simp) rfl
          rw [valOf_at (d := 29) rfl] at d1
          have d1' : a.tmps[29]?.getD undef = .slice sa set.length sc := d1
          go_simp
          exact ⟨_, rfl, rfl, hc.next, fun h => h⟩
        | i + 11 => omega
      · intro a x ha ht hc
        have h1 : a.tmps[3]?.getD undef = .slice sa set.length sc := by have := ht 10 (by omega); rwa [valOf_at (d := 3) rfl] at this
        have res7 : x.heap[w.heap.size]? = some (repoCells (.slice va l.length vc) room) := ht 9 (by omega)
        obtain ⟨t, h8⟩ := ht 8 (by omega)
        rw [valOf_at (d := 36) rfl] at h8
        have hl := ha.list
        simp [slotOf, List.range_succ] at hl
        rw [hl]
        clear hl ha ht
        have rst7 := (hc.keep _ _ ⟨_, unhide HRT⟩ (by omega) stepNotRd).trans (unhide HRT)
        have V7 := V2.kept (unhide HV) (fun b t hb h1 h2 => hc.keep b t hb (fun e => h1 (by subst e; exact hb.one ⟨_, unhide HRS⟩)) h2)
        have B7 := hc.below (unhide HB) (by omega) (Nat.le_refl _)
        have R7 := hc.row (unhide HRW) ⟨_, unhide HRS⟩
        obtain ⟨q0, q1, q2, g0, g1, g2⟩ := three rst7
        have HFO := hide (fin_st (s0 := ⟨0, 0, 0⟩) res7 rst7 V7 R7 B7 (Nat.le_refl _) t)
        clear hc res7 rst7 V7 B7 R7
        rw [h1, h8]
        go_wp2_with fail
        obtain ⟨f1, f2, f3, f4, f5, f6, f7, f8⟩ := unhide HFO
        exact bodyPost_ret (v := .tuple #[.agg #[.slice va l.length vc, .int .i64 room], .slice sa set.length sc, .agg #[.int .i64 t.kind, .int .i64 t.inn, .int .i64 t.out]]) (by simp [results, Try.results26, go_sem, f4, f5, f6, f7, f8]) rfl ⟨⟨_, _, _, t, rfl, V2.down f1 (by omega), set, f2, by omega⟩, f3⟩
    · clear HL6
      obtain ⟨p0, p1, _⟩ := two (unhide HPV6)
      obtain ⟨A, hA, HSA⟩ := unhide HALL 0 w6 (by omega) HV6
      have HSA := hide HSA
      go_wp2_with fail
      refine (unhide HSA).mono ?_
      rintro e w7 ⟨⟨v7, rfl, hrow7⟩, b7⟩
      have HV7 := hide (V2.ev (unhide HV6) (Ev.of_below (B := 0) (s := w1.heap.size) (N := 60000) b7))
      have HRS7 := hide ((b7.block w.heap.size (by omega)).trans (unhide HRS6))
      have HRT7 := hide ((b7.block (w.heap.size + 1) (by omega)).trans (unhide HRT6))
      have HPV7 := hide ((b7.block w2.heap.size (by omega)).trans (unhide HPV6))
      have HB7 := hide ((unhide HB6).trans (b7.mono (unhide HB6).size))
      have HRW7 := hide (show RowI 0 w7 _ set from ownsRow_on (unhide HRW6) b7)
      have HR7 := hide ((unhide HR6).below b7)
      have hz7 := b7.size
      clear HV6 HRS6 HRT6 HPV6 HB6 HRW6 HR6
      have HL7 := hide hrow7
      obtain ⟨la2, lc2, hv7⟩ : ∃ la lc, v7 = .slice la A.length lc := by
        rcases hrow7.2 with ⟨hv, h0⟩ | ⟨g, cap, cur, hv, _⟩
        · exact ⟨none, 0, by rw [hv, h0]⟩
        · exact ⟨_, _, hv⟩
      subst hv7
      clear hrow7 b7 HSA p0 p1 HALL
      by_cases hem2 : 0 < A.length
      · have hg2 : (0 : Int) < (A.length : Int) := by omega
        go_wp2_with fail
        refine (pick_any (w.heap.size + 1 + 1) (w.heap.size + 1 + 1) _ 6 _ (unhide HR7) (by omega) (by omega) (by omega)).mono ?_
        rintro e w8 ⟨⟨r2, rfl, hr20, hr21⟩, R8, W8⟩
        have HL8 := hide (steps_wrote (unhide HL7) W8)
        have hz8 := W8.size
        have HV8 := hide (V2.ev (unhide HV7) (Ev.of_wrote (s := w1.heap.size) (N := 60000) W8))
        have HRS8 := hide (W8.blk (unhide HRS7) repoNotRd)
        have HRT8 := hide (W8.blk (unhide HRT7) stepNotRd)
        have HPV8 := hide (W8.blk (unhide HPV7) repoNotRd)
        have HB8 := hide ((unhide HB7).trans (W8.bel (B' := w.heap.size) (by omega) (by have := (unhide HB7).size; omega)))
        have HRW8 := hide (RowI.wrote (unhide HRW7) W8)
        have HR8 := hide R8
        clear HV7 HRS7 HRT7 HPV7 HB7 HRW7 HR7 R8
        clear W8 HL7
        by_cases hr2 : 0 < r2
        · obtain ⟨lb, lo, hla⟩ : ∃ lb lo, la2 = some ⟨lb, lo, none⟩ := by
            rcases (unhide HL8).2 with ⟨hv, h0⟩ | ⟨g, cap, cur, hv, _⟩
            · omega
            · simp at hv
              exact ⟨_, _, hv.1⟩
          subst hla
          have HCE : Hid (∀ x : World, (∀ (b : Nat) (C : Array Value), w8.heap[b]? = some (.cells C 27 (0, 0)) → b ≠ w.heap.size → x.heap[b]? = w8.heap[b]?) → ∀ r, r < A.length → x.cell? ⟨lb, lo + r * 3, none⟩ = some (.int .i64 (A.getD r dStep).kind) ∧ x.cell? ⟨lb, lo + r * 3 + 1, none⟩ = some (.int .i64 (A.getD r dStep).inn) ∧ x.cell? ⟨lb, lo + r * 3 + 2, none⟩ = some (.int .i64 (A.getD r dStep).out)) := fun x hx r hr => by
            obtain ⟨a', c', he, _, _, hS⟩ := StepsAt.of_row (steps_kept (unhide HL8) hx ⟨_, unhide HRS8⟩) (by omega)
            simp at he
            obtain ⟨rfl, _⟩ := he
            rcases hS.2 with h0 | ⟨b', o', he, _, hc⟩
            · rw [h0] at hr; simp at hr
            · simp at he
              obtain ⟨rfl, rfl⟩ := he
              exact hc r hr
          have HV := HV8
          have HRS := HRS8
          have HRT := HRT8
          have HPV := HPV8
          have HB := HB8
          have HRW := HRW8
          have HR := HR8
          clear HV8 HRS8 HRT8 HPV8 HB8 HRW8 HR8
          go_upto_region 9 with fail
          refine wp_region_headE 11 (by kernel_rfl) (by kernel_rfl) (by kernel_rfl) (by kernel_rfl) (by kernel_rfl) (TP w.heap.size (repoCells (.slice va l.length vc) room) (.agg #[.slice va l.length vc, .int .i64 room]) (.slice sa set.length sc) (.slice (some ⟨lb, lo, none⟩) A.length lc2) lb lo (w.heap.size + 1 + 1) A.length) (CD w8 (w.heap.size + 1 + 1) (w.heap.size + 1 + 1) w.heap.size 200000) (EP w.heap.size (repoCells (.slice va l.length vc) room)) (fun _ _ _ _ h e => TP_on h e) (CD.start ((unhide HR).more (by omega)) (unhide HRS)) ?_ ?_
          · intro i o him hi a x n hn ha hc hd
            match i with
            | 0 =>
              simp at hi
              subst hi
              have e6 : a.tmps[6]? = some (.pointer (some ⟨w2.heap.size, 0, none⟩)) := (ha.slot 6 (slots_no (by kernel_rfl))).trans rfl
              obtain ⟨p0, p1, _⟩ := two ((hc.keep _ _ ⟨_, unhide HPV⟩ (by omega) repoNotRd).trans (unhide HPV))
              go_simp
              exact ⟨_, rfl, rfl, hc.next, fun h => h⟩
            | 1 =>
              simp at hi
              subst hi
              have e7 : a.tmps[7]? = some (.slice sa set.length sc) := (ha.slot 7 (slots_no (by kernel_rfl))).trans rfl
              go_simp
              exact ⟨_, rfl, rfl, hc.next, fun h => h⟩
            | 2 =>
              simp at hi
              subst hi
              have e9 : a.tmps[9]? = some (.slice (some ⟨lb, lo, none⟩) A.length lc2) := (ha.slot 9 (slots_no (by kernel_rfl))).trans rfl
              go_simp
              exact ⟨_, rfl, rfl, hc.next, fun h => h⟩
            | 3 =>
              simp at hi
              subst hi
              have e5 : a.tmps[5]? = some (.pointer (some ⟨w.heap.size + 1 + 1, 0, none⟩)) := (ha.slot 5 (slots_no (by kernel_rfl))).trans rfl
              go_simp
              exact ⟨_, rfl, rfl, hc.next, fun h => h⟩
            | 4 =>
              simp at hi
              subst hi
              have e9 : a.tmps[9]? = some (.slice (some ⟨lb, lo, none⟩) A.length lc2) := (ha.slot 9 (slots_no (by kernel_rfl))).trans rfl
              go_simp
              exact ⟨_, rfl, rfl, hc.next, fun h => h⟩
            | 5 =>
              simp at hi
              subst hi
              have d4 := hd ⟨4, .data⟩ (by simp) rfl
              rw [valOf_at (d := 51) rfl] at d4
              have d4' : a.tmps[51]?.getD undef = .slice (some ⟨lb, lo, none⟩) A.length lc2 := d4
              go_simp
              exact ⟨_, rfl, rfl, hc.next, fun h => h⟩
            | 6 =>
              simp at hi
              subst hi
              have d3 := hd ⟨3, .data⟩ (by simp) rfl
              rw [valOf_at (d := 50) rfl] at d3
              have d3' : a.tmps[50]?.getD undef = .pointer (some ⟨w.heap.size + 1 + 1, 0, none⟩) := d3
              have d5 := hd ⟨5, .data⟩ (by simp) rfl
              rw [valOf_at (d := 52) rfl] at d5
              have d5' : a.tmps[52]?.getD undef = .int .i64 (A.length : Int) := d5
              go_simp
              refine (pick_any (w.heap.size + 1 + 1) (w.heap.size + 1 + 1) _ (A.length : Int) _ hc.rd (by omega) (by omega) (by omega)).mono ?_
              rintro e y ⟨⟨r, rfl, hr0, hr1⟩, hR, hW⟩
              exact ⟨_, rfl, ⟨r.toNat, by rw [Int.toNat_of_nonneg hr0], by omega⟩, hc.picked hR hW, EP.picked rfl hW⟩
            | 7 =>
              simp at hi
              subst hi
              have d2 := hd ⟨2, .data⟩ (by simp) rfl
              rw [valOf_at (d := 49) rfl] at d2
              have d2' : a.tmps[49]?.getD undef = .slice (some ⟨lb, lo, none⟩) A.length lc2 := d2
              obtain ⟨r, h6, hr⟩ := hd ⟨6, .data⟩ (by simp) rfl
              rw [valOf_at (d := 53) rfl] at h6
              have hrz : (r : Int) < (A.length : Int) := by omega
              have hr0 : (0 : Int) ≤ (r : Int) := by omega
              go_simp
              exact ⟨_, rfl, ⟨r, by simp, hr⟩, hc.next, fun h => h⟩
            | 8 =>
              simp at hi
              subst hi
              obtain ⟨r, h7, hr⟩ := hd ⟨7, .data⟩ (by simp) rfl
              rw [valOf_at (d := 54) rfl] at h7
              obtain ⟨c0, c1, c2⟩ := unhide HCE x (fun b C hb hne => hc.keep b _ ⟨C, hb⟩ hne stepNotRd) r hr
              generalize hLs : A.getD r dStep = s7 at c0 c1 c2
              clear hLs
              go_simp
              exact ⟨_, rfl, ⟨s7, rfl⟩, hc.next, fun h => h⟩
            | 9 =>
              simp at hi
              subst hi
              have e2 : a.tmps[2]? = some (.pointer (some ⟨w.heap.size, 0, none⟩)) := (ha.slot 2 (slots_no (by kernel_rfl))).trans rfl
              have d0 := hd ⟨0, .data⟩ (by simp) rfl
              rw [valOf_at (d := 47) rfl] at d0
              have d0' : a.tmps[47]?.getD undef = .agg #[.slice va l.length vc, .int .i64 room] := d0
              obtain ⟨u0, u1, u2, u3, hres⟩ := hc.res
              obtain ⟨r0, r1, rf⟩ := two hres
              have rf0 := rf 0
              have rf1 := rf 1
              have HC := hide hc
              clear hres rf hc
              go_simp
              exact ⟨(unhide HC).stored _ _, (unhide HC).store (by omega) _ _ _ _, fun _ => (unhide HC).stored _ _⟩
            | 10 =>
              simp at hi
              subst hi
              have d1 := hd ⟨1, .data⟩ (by simp) rfl
              rw [valOf_at (d := 48) rfl] at d1
              have d1' : a.tmps[48]?.getD undef = .slice sa set.length sc := d1
              go_simp
              exact ⟨_, rfl, rfl, hc.next, fun h => h⟩
            | i + 11 => omega
          · intro a x ha ht hc
            have h1 : a.tmps[3]?.getD undef = .slice sa set.length sc := by have := ht 10 (by omega); rwa [valOf_at (d := 3) rfl] at this
            have res7 : x.heap[w.heap.size]? = some (repoCells (.slice va l.length vc) room) := ht 9 (by omega)
            obtain ⟨t, h8⟩ := ht 8 (by omega)
            rw [valOf_at (d := 55) rfl] at h8
            have hl := ha.list
            simp [slotOf, List.range_succ] at hl
            rw [hl]
            clear hl ha ht
            have rst7 := (hc.keep _ _ ⟨_, unhide HRT⟩ (by omega) stepNotRd).trans (unhide HRT)
            have V7 := V2.kept (unhide HV) (fun b t hb h1 h2 => hc.keep b t hb (fun e => h1 (by subst e; exact hb.one ⟨_, unhide HRS⟩)) h2)
            have B7 := hc.below (unhide HB) (by omega) (Nat.le_refl _)
            have R7 := hc.row (unhide HRW) ⟨_, unhide HRS⟩
            obtain ⟨q0, q1, q2, g0, g1, g2⟩ := three rst7
            have HFO := hide (fin_st (s0 := ⟨0, 0, 0⟩) res7 rst7 V7 R7 B7 (Nat.le_refl _) t)
            clear hc res7 rst7 V7 B7 R7
            rw [h1, h8]
            go_wp2_with fail
            obtain ⟨f1, f2, f3, f4, f5, f6, f7, f8⟩ := unhide HFO
            exact bodyPost_ret (v := .tuple #[.agg #[.slice va l.length vc, .int .i64 room], .slice sa set.length sc, .agg #[.int .i64 t.kind, .int .i64 t.inn, .int .i64 t.out]]) (by simp [results, Try.results26, go_sem, f4, f5, f6, f7, f8]) rfl ⟨⟨_, _, _, t, rfl, V2.down f1 (by omega), set, f2, by omega⟩, f3⟩
        · clear HL8
          have HV := HV8
          have HRS := HRS8
          have HRT := HRT8
          have HPV := HPV8
          have HB := HB8
          have HRW := HRW8
          have HR := HR8
          clear HV8 HRS8 HRT8 HPV8 HB8 HRW8 HR8
          go_upto_region 10 with fail
          refine wp_region_headE 13 (by kernel_rfl) (by kernel_rfl) (by kernel_rfl) (by kernel_rfl) (by kernel_rfl) (TQ w.heap.size (repoCells (.slice va l.length vc) room) (.agg #[.slice va l.length vc, .int .i64 room]) (.slice sa set.length sc) (w.heap.size + 1 + 1)) (CD w8 (w.heap.size + 1 + 1) (w.heap.size + 1 + 1) w.heap.size 200000) (EP w.heap.size (repoCells (.slice va l.length vc) room)) (fun _ _ _ _ h e => TQ_on h e) (CD.start ((unhide HR).more (by omega)) (unhide HRS)) ?_ ?_
          · intro i o him hi a x n hn ha hc hd
            match i with
            | 0 =>
              simp at hi
              subst hi
              have e6 : a.tmps[6]? = some (.pointer (some ⟨w2.heap.size, 0, none⟩)) := (ha.slot 6 (slots_no (by kernel_rfl))).trans rfl
              obtain ⟨p0, p1, _⟩ := two ((hc.keep _ _ ⟨_, unhide HPV⟩ (by omega) repoNotRd).trans (unhide HPV))
              go_simp
              exact ⟨_, rfl, rfl, hc.next, fun h => h⟩
            | 1 =>
              simp at hi
              subst hi
              have e7 : a.tmps[7]? = some (.slice sa set.length sc) := (ha.slot 7 (slots_no (by kernel_rfl))).trans rfl
              go_simp
              exact ⟨_, rfl, rfl, hc.next, fun h => h⟩
            | 2 =>
              simp at hi
              subst hi
              have e5 : a.tmps[5]? = some (.pointer (some ⟨w.heap.size + 1 + 1, 0, none⟩)) := (ha.slot 5 (slots_no (by kernel_rfl))).trans rfl
              go_simp
              exact ⟨_, rfl, rfl, hc.next, fun h => h⟩
            | 3 =>
              simp at hi
              subst hi
              have d2 := hd ⟨2, .data⟩ (by simp) rfl
              rw [valOf_at (d := 58) rfl] at d2
              have d2' : a.tmps[58]?.getD undef = .pointer (some ⟨w.heap.size + 1 + 1, 0, none⟩) := d2
              go_simp
              refine (pick_any (w.heap.size + 1 + 1) (w.heap.size + 1 + 1) _ 5 _ hc.rd (by omega) (by omega) (by omega)).mono ?_
              rintro e y ⟨⟨r, rfl, hr0, hr1⟩, hR, hW⟩
              exact ⟨_, rfl, ⟨r, rfl, hr0, hr1⟩, hc.picked hR hW, EP.picked rfl hW⟩
            | 4 =>
              simp at hi
              subst hi
              have e5 : a.tmps[5]? = some (.pointer (some ⟨w.heap.size + 1 + 1, 0, none⟩)) := (ha.slot 5 (slots_no (by kernel_rfl))).trans rfl
              go_simp
              exact ⟨_, rfl, rfl, hc.next, fun h => h⟩
            | 5 =>
              simp at hi
              subst hi
              have d4 := hd ⟨4, .data⟩ (by simp) rfl
              rw [valOf_at (d := 60) rfl] at d4
              have d4' : a.tmps[60]?.getD undef = .pointer (some ⟨w.heap.size + 1 + 1, 0, none⟩) := d4
              go_simp
              refine (pick_any (w.heap.size + 1 + 1) (w.heap.size + 1 + 1) _ 8 _ hc.rd (by omega) (by omega) (by omega)).mono ?_
              rintro e y ⟨⟨r, rfl, hr0, hr1⟩, hR, hW⟩
              exact ⟨_, rfl, ⟨r, rfl, hr0, hr1⟩, hc.picked hR hW, EP.picked rfl hW⟩
            | 6 =>
              simp at hi
              subst hi
              obtain ⟨r, h5, hr0, hr1⟩ := hd ⟨5, .data⟩ (by simp) rfl
              rw [valOf_at (d := 61) rfl] at h5
              go_simp
              exact ⟨_, rfl, ⟨_, rfl⟩, hc.next, fun h => h⟩
            | 7 =>
              simp at hi
              subst hi
              have e5 : a.tmps[5]? = some (.pointer (some ⟨w.heap.size + 1 + 1, 0, none⟩)) := (ha.slot 5 (slots_no (by kernel_rfl))).trans rfl
              go_simp
              exact ⟨_, rfl, rfl, hc.next, fun h => h⟩
            | 8 =>
              simp at hi
              subst hi
              have d7 := hd ⟨7, .data⟩ (by simp) rfl
              rw [valOf_at (d := 63) rfl] at d7
              have d7' : a.tmps[63]?.getD undef = .pointer (some ⟨w.heap.size + 1 + 1, 0, none⟩) := d7
              go_simp
              refine (pick_any (w.heap.size + 1 + 1) (w.heap.size + 1 + 1) _ 8 _ hc.rd (by omega) (by omega) (by omega)).mono ?_
              rintro e y ⟨⟨r, rfl, hr0, hr1⟩, hR, hW⟩
              exact ⟨_, rfl, ⟨r, rfl, hr0, hr1⟩, hc.picked hR hW, EP.picked rfl hW⟩
            | 9 =>
              simp at hi
              subst hi
              obtain ⟨r, h8, hr0, hr1⟩ := hd ⟨8, .data⟩ (by simp) rfl
              rw [valOf_at (d := 64) rfl] at h8
              go_simp
              exact ⟨_, rfl, ⟨_, rfl⟩, hc.next, fun h => h⟩
            | 10 =>
              simp at hi
              subst hi
              obtain ⟨k3, h3, _, _⟩ := hd ⟨3, .data⟩ (by simp) rfl
              rw [valOf_at (d := 59) rfl] at h3
              obtain ⟨k6, h6⟩ := hd ⟨6, .data⟩ (by simp) rfl
              rw [valOf_at (d := 62) rfl] at h6
              obtain ⟨k9, h9⟩ := hd ⟨9, .data⟩ (by simp) rfl
              rw [valOf_at (d := 65) rfl] at h9
              go_simp
              exact ⟨_, rfl, ⟨⟨k3, k6, k9⟩, rfl⟩, hc.next, fun h => h⟩
            | 11 =>
              simp at hi
              subst hi
              have e2 : a.tmps[2]? = some (.pointer (some ⟨w.heap.size, 0, none⟩)) := (ha.slot 2 (slots_no (by kernel_rfl))).trans rfl
              have d0 := hd ⟨0, .data⟩ (by simp) rfl
              rw [valOf_at (d := 56) rfl] at d0
              have d0' : a.tmps[56]?.getD undef = .agg #[.slice va l.length vc, .int .i64 room] := d0
              obtain ⟨u0, u1, u2, u3, hres⟩ := hc.res
              obtain ⟨r0, r1, rf⟩ := two hres
              have rf0 := rf 0
              have rf1 := rf 1
              have HC := hide hc
              clear hres rf hc
              go_simp
              exact ⟨(unhide HC).stored _ _, (unhide HC).store (by omega) _ _ _ _, fun _ => (unhide HC).stored _ _⟩
            | 12 =>
              simp at hi
              subst hi
              have d1 := hd ⟨1, .data⟩ (by simp) rfl
              rw [valOf_at (d := 57) rfl] at d1
              have d1' : a.tmps[57]?.getD undef = .slice sa set.length sc := d1
              go_simp
              exact ⟨_, rfl, rfl, hc.next, fun h => h⟩
            | i + 13 => omega
          · intro a x ha ht hc
            have h1 : a.tmps[3]?.getD undef = .slice sa set.length sc := by have := ht 12 (by omega); rwa [valOf_at (d := 3) rfl] at this
            have res7 : x.heap[w.heap.size]? = some (repoCells (.slice va l.length vc) room) := ht 11 (by omega)
            obtain ⟨t, h8⟩ := ht 10 (by omega)
            rw [valOf_at (d := 66) rfl] at h8
            have hl := ha.list
            simp [slotOf, List.range_succ] at hl
            rw [hl]
            clear hl ha ht
            have rst7 := (hc.keep _ _ ⟨_, unhide HRT⟩ (by omega) stepNotRd).trans (unhide HRT)
            have V7 := V2.kept (unhide HV) (fun b t hb h1 h2 => hc.keep b t hb (fun e => h1 (by subst e; exact hb.one ⟨_, unhide HRS⟩)) h2)
            have B7 := hc.below (unhide HB) (by omega) (Nat.le_refl _)
            have R7 := hc.row (unhide HRW) ⟨_, unhide HRS⟩
            obtain ⟨q0, q1, q2, g0, g1, g2⟩ := three rst7
            have HFO := hide (fin_st (s0 := ⟨0, 0, 0⟩) res7 rst7 V7 R7 B7 (Nat.le_refl _) t)
            clear hc res7 rst7 V7 B7 R7
            rw [h1, h8]
            go_wp2_with fail
            obtain ⟨f1, f2, f3, f4, f5, f6, f7, f8⟩ := unhide HFO
            exact bodyPost_ret (v := .tuple #[.agg #[.slice va l.length vc, .int .i64 room], .slice sa set.length sc, .agg #[.int .i64 t.kind, .int .i64 t.inn, .int .i64 t.out]]) (by simp [results, Try.results26, go_sem, f4, f5, f6, f7, f8]) rfl ⟨⟨_, _, _, t, rfl, V2.down f1 (by omega), set, f2, by omega⟩, f3⟩
      · have hg2 : ¬ (0 : Int) < (A.length : Int) := by omega
        clear HL7
        have HV := HV7
        have HRS := HRS7
        have HRT := HRT7
        have HPV := HPV7
        have HB := HB7
        have HRW := HRW7
        have HR := HR7
        clear HV7 HRS7 HRT7 HPV7 HB7 HRW7 HR7
        go_upto_region 10 with fail
        refine wp_region_headE 13 (by kernel_rfl) (by kernel_rfl) (by kernel_rfl) (by kernel_rfl) (by kernel_rfl) (TQ w.heap.size (repoCells (.slice va l.length vc) room) (.agg #[.slice va l.length vc, .int .i64 room]) (.slice sa set.length sc) (w.heap.size + 1 + 1)) (CD w7 (w.heap.size + 1 + 1) (w.heap.size + 1 + 1) w.heap.size 200000) (EP w.heap.size (repoCells (.slice va l.length vc) room)) (fun _ _ _ _ h e => TQ_on h e) (CD.start ((unhide HR).more (by omega)) (unhide HRS)) ?_ ?_
        · intro i o him hi a x n hn ha hc hd
          match i with
          | 0 =>
            simp at hi
            subst hi
            have e6 : a.tmps[6]? = some (.pointer (some ⟨w2.heap.size, 0, none⟩)) := (ha.slot 6 (slots_no (by kernel_rfl))).trans rfl
            obtain ⟨p0, p1, _⟩ := two ((hc.keep _ _ ⟨_, unhide HPV⟩ (by omega) repoNotRd).trans (unhide HPV))
            go_simp
            exact ⟨_, rfl, rfl, hc.next, fun h => h⟩
          | 1 =>
            simp at hi
            subst hi
            have e7 : a.tmps[7]? = some (.slice sa set.length sc) := (ha.slot 7 (slots_no (by kernel_rfl))).trans rfl
            go_simp
            exact ⟨_, rfl, rfl, hc.next, fun h => h⟩
          | 2 =>
            simp at hi
            subst hi
            have e5 : a.tmps[5]? = some (.pointer (some ⟨w.heap.size + 1 + 1, 0, none⟩)) := (ha.slot 5 (slots_no (by kernel_rfl))).trans rfl
            go_simp
            exact ⟨_, rfl, rfl, hc.next, fun h => h⟩
          | 3 =>
            simp at hi
            subst hi
            have d2 := hd ⟨2, .data⟩ (by simp) rfl
            rw [valOf_at (d := 58) rfl] at d2
            have d2' : a.tmps[58]?.getD undef = .pointer (some ⟨w.heap.size + 1 + 1, 0, none⟩) := d2
            go_simp
            refine (pick_any (w.heap.size + 1 + 1) (w.heap.size + 1 + 1) _ 5 _ hc.rd (by omega) (by omega) (by omega)).mono ?_
            rintro e y ⟨⟨r, rfl, hr0, hr1⟩, hR, hW⟩
            exact ⟨_, rfl, ⟨r, rfl, hr0, hr1⟩, hc.picked hR hW, EP.picked rfl hW⟩
          | 4 =>
            simp at hi
            subst hi
            have e5 : a.tmps[5]? = some (.pointer (some ⟨w.heap.size + 1 + 1, 0, none⟩)) := (ha.slot 5 (slots_no (by kernel_rfl))).trans rfl
            go_simp
            exact ⟨_, rfl, rfl, hc.next, fun h => h⟩
          | 5 =>
            simp at hi
            subst hi
            have d4 := hd ⟨4, .data⟩ (by simp) rfl
            rw [valOf_at (d := 60) rfl] at d4
            have d4' : a.tmps[60]?.getD undef = .pointer (some ⟨w.heap.size + 1 + 1, 0, none⟩) := d4
            go_simp
            refine (pick_any (w.heap.size + 1 + 1) (w.heap.size + 1 + 1) _ 8 _ hc.rd (by omega) (by omega) (by omega)).mono ?_
            rintro e y ⟨⟨r, rfl, hr0, hr1⟩, hR, hW⟩
            exact ⟨_, rfl, ⟨r, rfl, hr0, hr1⟩, hc.picked hR hW, EP.picked rfl hW⟩
          | 6 =>
            simp at hi
            subst hi
            obtain ⟨r, h5, hr0, hr1⟩ := hd ⟨5, .data⟩ (by simp) rfl
            rw [valOf_at (d := 61) rfl] at h5
            go_simp
            exact ⟨_, rfl, ⟨_, rfl⟩, hc.next, fun h => h⟩
          | 7 =>
            simp at hi
            subst hi
            have e5 : a.tmps[5]? = some (.pointer (some ⟨w.heap.size + 1 + 1, 0, none⟩)) := (ha.slot 5 (slots_no (by kernel_rfl))).trans rfl
            go_simp
            exact ⟨_, rfl, rfl, hc.next, fun h => h⟩
          | 8 =>
            simp at hi
            subst hi
            have d7 := hd ⟨7, .data⟩ (by simp) rfl
            rw [valOf_at (d := 63) rfl] at d7
            have d7' : a.tmps[63]?.getD undef = .pointer (some ⟨w.heap.size + 1 + 1, 0, none⟩) := d7
            go_simp
            refine (pick_any (w.heap.size + 1 + 1) (w.heap.size + 1 + 1) _ 8 _ hc.rd (by omega) (by omega) (by omega)).mono ?_
            rintro e y ⟨⟨r, rfl, hr0, hr1⟩, hR, hW⟩
            exact ⟨_, rfl, ⟨r, rfl, hr0, hr1⟩, hc.picked hR hW, EP.picked rfl hW⟩
          | 9 =>
            simp at hi
            subst hi
            obtain ⟨r, h8, hr0, hr1⟩ := hd ⟨8, .data⟩ (by simp) rfl
            rw [valOf_at (d := 64) rfl] at h8
            go_simp
            exact ⟨_, rfl, ⟨_, rfl⟩, hc.next, fun h => h⟩
          | 10 =>
            simp at hi
            subst hi
            obtain ⟨k3, h3, _, _⟩ := hd ⟨3, .data⟩ (by simp) rfl
            rw [valOf_at (d := 59) rfl] at h3
            obtain ⟨k6, h6⟩ := hd ⟨6, .data⟩ (by simp) rfl
            rw [valOf_at (d := 62) rfl] at h6
            obtain ⟨k9, h9⟩ := hd ⟨9, .data⟩ (by simp) rfl
            rw [valOf_at (d := 65) rfl] at h9
            go_simp
            exact ⟨_, rfl, ⟨⟨k3, k6, k9⟩, rfl⟩, hc.next, fun h => h⟩
          | 11 =>
            simp at hi
            subst hi
            have e2 : a.tmps[2]? = some (.pointer (some ⟨w.heap.size, 0, none⟩)) := (ha.slot 2 (slots_no (by kernel_rfl))).trans rfl
            have d0 := hd ⟨0, .data⟩ (by simp) rfl
            rw [valOf_at (d := 56) rfl] at d0
            have d0' : a.tmps[56]?.getD undef = .agg #[.slice va l.length vc, .int .i64 room] := d0
            obtain ⟨u0, u1, u2, u3, hres⟩ := hc.res
            obtain ⟨r0, r1, rf⟩ := two hres
            have rf0 := rf 0
            have rf1 := rf 1
            have HC := hide hc
            clear hres rf hc
            go_simp
            exact ⟨(unhide HC).stored _ _, (unhide HC).store (by omega) _ _ _ _, fun _ => (unhide HC).stored _ _⟩
          | 12 =>
            simp at hi
            subst hi
            have d1 := hd ⟨1, .data⟩ (by simp) rfl
            rw [valOf_at (d := 57) rfl] at d1
            have d1' : a.tmps[57]?.getD undef = .slice sa set.length sc := d1
            go_simp
            exact ⟨_, rfl, rfl, hc.next, fun h => h⟩
          | i + 13 => omega
        · intro a x ha ht hc
          have h1 : a.tmps[3]?.getD undef = .slice sa set.length sc := by have := ht 12 (by omega); rwa [valOf_at (d := 3) rfl] at this
          have res7 : x.heap[w.heap.size]? = some (repoCells (.slice va l.length vc) room) := ht 11 (by omega)
          obtain ⟨t, h8⟩ := ht 10 (by omega)
          rw [valOf_at (d := 66) rfl] at h8
          have hl := ha.list
          simp [slotOf, List.range_succ] at hl
          rw [hl]
          clear hl ha ht
          have rst7 := (hc.keep _ _ ⟨_, unhide HRT⟩ (by omega) stepNotRd).trans (unhide HRT)
          have V7 := V2.kept (unhide HV) (fun b t hb h1 h2 => hc.keep b t hb (fun e => h1 (by subst e; exact hb.one ⟨_, unhide HRS⟩)) h2)
          have B7 := hc.below (unhide HB) (by omega) (Nat.le_refl _)
          have R7 := hc.row (unhide HRW) ⟨_, unhide HRS⟩
          obtain ⟨q0, q1, q2, g0, g1, g2⟩ := three rst7
          have HFO := hide (fin_st (s0 := ⟨0, 0, 0⟩) res7 rst7 V7 R7 B7 (Nat.le_refl _) t)
          clear hc res7 rst7 V7 B7 R7
          rw [h1, h8]
          go_wp2_with fail
          obtain ⟨f1, f2, f3, f4, f5, f6, f7, f8⟩ := unhide HFO
          exact bodyPost_ret (v := .tuple #[.agg #[.slice va l.length vc, .int .i64 room], .slice sa set.length sc, .agg #[.int .i64 t.kind, .int .i64 t.inn, .int .i64 t.out]]) (by simp [results, Try.results26, go_sem, f4, f5, f6, f7, f8]) rfl ⟨⟨_, _, _, t, rfl, V2.down f1 (by omega), set, f2, by omega⟩, f3⟩
  · have hg : ¬ (0 : Int) < (L.length : Int) := by omega
    clear HL5
    obtain ⟨p0, p1, _⟩ := two (unhide HPV5)
    obtain ⟨A, hA, HSA⟩ := unhide HALL 0 w5 (by omega) HV5
    have HSA := hide HSA
    go_wp2_with fail
    refine (unhide HSA).mono ?_
    rintro e w6 ⟨⟨v6, rfl, hrow6⟩, b6⟩
    have HV6 := hide (V2.ev (unhide HV5) (Ev.of_below (B := 0) (s := w1.heap.size) (N := 60000) b6))
    have HRS6 := hide ((b6.block w.heap.size (by omega)).trans (unhide HRS5))
    have HRT6 := hide ((b6.block (w.heap.size + 1) (by omega)).trans (unhide HRT5))
    have HPV6 := hide ((b6.block w2.heap.size (by omega)).trans (unhide HPV5))
    have HB6 := hide ((unhide HB5).trans (b6.mono (unhide HB5).size))
    have HRW6 := hide (show RowI 0 w6 _ set from ownsRow_on (unhide HRW5) b6)
    have HR6 := hide ((unhide HR5).below b6)
    have hz6 := b6.size
    clear HV5 HRS5 HRT5 HPV5 HB5 HRW5 HR5
    have HL6 := hide hrow6
    obtain ⟨la2, lc2, hv6⟩ : ∃ la lc, v6 = .slice la A.length lc := by
      rcases hrow6.2 with ⟨hv, h0⟩ | ⟨g, cap, cur, hv, _⟩
      · exact ⟨none, 0, by rw [hv, h0]⟩
      · exact ⟨_, _, hv⟩
    subst hv6
    clear hrow6 b6 HSA p0 p1 HALL
    by_cases hem2 : 0 < A.length
    · have hg2 : (0 : Int) < (A.length : Int) := by omega
      go_wp2_with fail
      refine (pick_any (w.heap.size + 1 + 1) (w.heap.size + 1 + 1) _ 6 _ (unhide HR6) (by omega) (by omega) (by omega)).mono ?_
      rintro e w7 ⟨⟨r2, rfl, hr20, hr21⟩, R7, W7⟩
      have HL7 := hide (steps_wrote (unhide HL6) W7)
      have hz7 := W7.size
      have HV7 := hide (V2.ev (unhide HV6) (Ev.of_wrote (s := w1.heap.size) (N := 60000) W7))
      have HRS7 := hide (W7.blk (unhide HRS6) repoNotRd)
      have HRT7 := hide (W7.blk (unhide HRT6) stepNotRd)
      have HPV7 := hide (W7.blk (unhide HPV6) repoNotRd)
      have HB7 := hide ((unhide HB6).trans (W7.bel (B' := w.heap.size) (by omega) (by have := (unhide HB6).size; omega)))
      have HRW7 := hide (RowI.wrote (unhide HRW6) W7)
      have HR7 := hide R7
      clear HV6 HRS6 HRT6 HPV6 HB6 HRW6 HR6 R7
      clear W7 HL6
      by_cases hr2 : 0 < r2
      · obtain ⟨lb, lo, hla⟩ : ∃ lb lo, la2 = some ⟨lb, lo, none⟩ := by
          rcases (unhide HL7).2 with ⟨hv, h0⟩ | ⟨g, cap, cur, hv, _⟩
          · omega
          · simp at hv
            exact ⟨_, _, hv.1⟩
        subst hla
        have HCE : Hid (∀ x : World, (∀ (b : Nat) (C : Array Value), w7.heap[b]? = some (.cells C 27 (0, 0)) → b ≠ w.heap.size → x.heap[b]? = w7.heap[b]?) → ∀ r, r < A.length → x.cell? ⟨lb, lo + r * 3, none⟩ = some (.int .i64 (A.getD r dStep).kind) ∧ x.cell? ⟨lb, lo + r * 3 + 1, none⟩ = some (.int .i64 (A.getD r dStep).inn) ∧ x.cell? ⟨lb, lo + r * 3 + 2, none⟩ = some (.int .i64 (A.getD r dStep).out)) := fun x hx r hr => by
          obtain ⟨a', c', he, _, _, hS⟩ := StepsAt.of_row (steps_kept (unhide HL7) hx ⟨_, unhide HRS7⟩) (by omega)
          simp at he
          obtain ⟨rfl, _⟩ := he
          rcases hS.2 with h0 | ⟨b', o', he, _, hc⟩
          · rw [h0] at hr; simp at hr
          · simp at he
            obtain ⟨rfl, rfl⟩ := he
            exact hc r hr
        have HV := HV7
        have HRS := HRS7
        have HRT := HRT7
        have HPV := HPV7
        have HB := HB7
        have HRW := HRW7
        have HR := HR7
        clear HV7 HRS7 HRT7 HPV7 HB7 HRW7 HR7
        go_upto_region 9 with fail
        refine wp_region_headE 11 (by kernel_rfl) (by kernel_rfl) (by kernel_rfl) (by kernel_rfl) (by kernel_rfl) (TP w.heap.size (repoCells (.slice va l.length vc) room) (.agg #[.slice va l.length vc, .int .i64 room]) (.slice sa set.length sc) (.slice (some ⟨lb, lo, none⟩) A.length lc2) lb lo (w.heap.size + 1 + 1) A.length) (CD w7 (w.heap.size + 1 + 1) (w.heap.size + 1 + 1) w.heap.size 200000) (EP w.heap.size (repoCells (.slice va l.length vc) room)) (fun _ _ _ _ h e => TP_on h e) (CD.start ((unhide HR).more (by omega)) (unhide HRS)) ?_ ?_
        · intro i o him hi a x n hn ha hc hd
          match i with
          | 0 =>
            simp at hi
            subst hi
            have e6 : a.tmps[6]? = some (.pointer (some ⟨w2.heap.size, 0, none⟩)) := (ha.slot 6 (slots_no (by kernel_rfl))).trans rfl
            obtain ⟨p0, p1, _⟩ := two ((hc.keep _ _ ⟨_, unhide HPV⟩ (by omega) repoNotRd).trans (unhide HPV))
            go_simp
            exact ⟨_, rfl, rfl, hc.next, fun h => h⟩
          | 1 =>
            simp at hi
            subst hi
            have e7 : a.tmps[7]? = some (.slice sa set.length sc) := (ha.slot 7 (slots_no (by kernel_rfl))).trans rfl
            go_simp
            exact ⟨_, rfl, rfl, hc.next, fun h => h⟩
          | 2 =>
            simp at hi
            subst hi
            have e9 : a.tmps[9]? = some (.slice (some ⟨lb, lo, none⟩) A.length lc2) := (ha.slot 9 (slots_no (by kernel_rfl))).trans rfl
            go_simp
            exact ⟨_, rfl, rfl, hc.next, fun h => h⟩
          | 3 =>
            simp at hi
            subst hi
            have e5 : a.tmps[5]? = some (.pointer (some ⟨w.heap.size + 1 + 1, 0, none⟩)) := (ha.slot 5 (slots_no (by kernel_rfl))).trans rfl
            go_simp
            exact ⟨_, rfl, rfl, hc.next, fun h => h⟩
          | 4 =>
            simp at hi
            subst hi
            have e9 : a.tmps[9]? = some (.slice (some ⟨lb, lo, none⟩) A.length lc2) := (ha.slot 9 (slots_no (by kernel_rfl))).trans rfl
            go_simp
            exact ⟨_, rfl, rfl, hc.next, fun h => h⟩
          | 5 =>
            simp at hi
            subst hi
            have d4 := hd ⟨4, .data⟩ (by simp) rfl
            rw [valOf_at (d := 51) rfl] at d4
            have d4' : a.tmps[51]?.getD undef = .slice (some ⟨lb, lo, none⟩) A.length lc2 := d4
            go_simp
            exact ⟨_, rfl, rfl, hc.next, fun h => h⟩
          | 6 =>
            simp at hi
            subst hi
            have d3 := hd ⟨3, .data⟩ (by simp) rfl
            rw [valOf_at (d := 50) rfl] at d3
            have d3' : a.tmps[50]?.getD undef = .pointer (some ⟨w.heap.size + 1 + 1, 0, none⟩) := d3
            have d5 := hd ⟨5, .data⟩ (by simp) rfl
            rw [valOf_at (d := 52) rfl] at d5
            have d5' : a.tmps[52]?.getD undef = .int .i64 (A.length : Int) := d5
            go_simp
            refine (pick_any (w.heap.size + 1 + 1) (w.heap.size + 1 + 1) _ (A.length : Int) _ hc.rd (by omega) (by omega) (by omega)).mono ?_
            rintro e y ⟨⟨r, rfl, hr0, hr1⟩, hR, hW⟩
            exact ⟨_, rfl, ⟨r.toNat, by rw [Int.toNat_of_nonneg hr0], by omega⟩, hc.picked hR hW, EP.picked rfl hW⟩
          | 7 =>
            simp at hi
            subst hi
            have d2 := hd ⟨2, .data⟩ (by simp) rfl
            rw [valOf_at (d := 49) rfl] at d2
            have d2' : a.tmps[49]?.getD undef = .slice (some ⟨lb, lo, none⟩) A.length lc2 := d2
            obtain ⟨r, h6, hr⟩ := hd ⟨6, .data⟩ (by simp) rfl
            rw [valOf_at (d := 53) rfl] at h6
            have hrz : (r : Int) < (A.length : Int) := by omega
            have hr0 : (0 : Int) ≤ (r : Int) := by omega
            go_simp
            exact ⟨_, rfl, ⟨r, by simp, hr⟩, hc.next, fun h => h⟩
          | 8 =>
            simp at hi
            subst hi
            obtain ⟨r, h7, hr⟩ := hd ⟨7, .data⟩ (by simp) rfl
            rw [valOf_at (d := 54) rfl] at h7
            obtain ⟨c0, c1, c2⟩ := unhide HCE x (fun b C hb hne => hc.keep b _ ⟨C, hb⟩ hne stepNotRd) r hr
            generalize hLs : A.getD r dStep = s7 at c0 c1 c2
            clear hLs
            go_simp
            exact ⟨_, rfl, ⟨s7, rfl⟩, hc.next, fun h => h⟩
          | 9 =>
            simp at hi
            subst hi
            have e2 : a.tmps[2]? = some (.pointer (some ⟨w.heap.size, 0, none⟩)) := (ha.slot 2 (slots_no (by kernel_rfl))).trans rfl
            have d0 := hd ⟨0, .data⟩ (by simp) rfl
            rw [valOf_at (d := 47) rfl] at d0
            have d0' : a.tmps[47]?.getD undef = .agg #[.slice va l.length vc, .int .i64 room] := d0
            obtain ⟨u0, u1, u2, u3, hres⟩ := hc.res
            obtain ⟨r0, r1, rf⟩ := two hres
            have rf0 := rf 0
            have rf1 := rf 1
            have HC := hide hc
            clear hres rf hc
            go_simp
            exact ⟨(unhide HC).stored _ _, (unhide HC).store (by omega) _ _ _ _, fun _ => (unhide HC).stored _ _⟩
          | 10 =>
            simp at hi
            subst hi
            have d1 := hd ⟨1, .data⟩ (by simp) rfl
            rw [valOf_at (d := 48) rfl] at d1
            have d1' : a.tmps[48]?.getD undef = .slice sa set.length sc := d1
            go_simp
            exact ⟨_, rfl, rfl, hc.next, fun h => h⟩
          | i + 11 => omega
        · intro a x ha ht hc
          have h1 : a.tmps[3]?.getD undef = .slice sa set.length sc := by have := ht 10 (by omega); rwa [valOf_at (d := 3) rfl] at this
          have res7 : x.heap[w.heap.size]? = some (repoCells (.slice va l.length vc) room) := ht 9 (by omega)
          obtain ⟨t, h8⟩ := ht 8 (by omega)
          rw [valOf_at (d := 55) rfl] at h8
          have hl := ha.list
          simp [slotOf, List.range_succ] at hl
          rw [hl]
          clear hl ha ht
          have rst7 := (hc.keep _ _ ⟨_, unhide HRT⟩ (by omega) stepNotRd).trans (unhide HRT)
          have V7 := V2.kept (unhide HV) (fun b t hb h1 h2 => hc.keep b t hb (fun e => h1 (by subst e; exact hb.one ⟨_, unhide HRS⟩)) h2)
          have B7 := hc.below (unhide HB) (by omega) (Nat.le_refl _)
          have R7 := hc.row (unhide HRW) ⟨_, unhide HRS⟩
          obtain ⟨q0, q1, q2, g0, g1, g2⟩ := three rst7
          have HFO := hide (fin_st (s0 := ⟨0, 0, 0⟩) res7 rst7 V7 R7 B7 (Nat.le_refl _) t)
          clear hc res7 rst7 V7 B7 R7
          rw [h1, h8]
          go_wp2_with fail
          obtain ⟨f1, f2, f3, f4, f5, f6, f7, f8⟩ := unhide HFO
          exact bodyPost_ret (v := .tuple #[.agg #[.slice va l.length vc, .int .i64 room], .slice sa set.length sc, .agg #[.int .i64 t.kind, .int .i64 t.inn, .int .i64 t.out]]) (by simp [results, Try.results26, go_sem, f4, f5, f6, f7, f8]) rfl ⟨⟨_, _, _, t, rfl, V2.down f1 (by omega), set, f2, by omega⟩, f3⟩
      · clear HL7
        have HV := HV7
        have HRS := HRS7
        have HRT := HRT7
        have HPV := HPV7
        have HB := HB7
        have HRW := HRW7
        have HR := HR7
        clear HV7 HRS7 HRT7 HPV7 HB7 HRW7 HR7
        go_upto_region 10 with fail
        refine wp_region_headE 13 (by kernel_rfl) (by kernel_rfl) (by kernel_rfl) (by kernel_rfl) (by kernel_rfl) (TQ w.heap.size (repoCells (.slice va l.length vc) room) (.agg #[.slice va l.length vc, .int .i64 room]) (.slice sa set.length sc) (w.heap.size + 1 + 1)) (CD w7 (w.heap.size + 1 + 1) (w.heap.size + 1 + 1) w.heap.size 200000) (EP w.heap.size (repoCells (.slice va l.length vc) room)) (fun _ _ _ _ h e => TQ_on h e) (CD.start ((unhide HR).more (by omega)) (unhide HRS)) ?_ ?_
        · intro i o him hi a x n hn ha hc hd
          match i with
          | 0 =>
            simp at hi
            subst hi
            have e6 : a.tmps[6]? = some (.pointer (some ⟨w2.heap.size, 0, none⟩)) := (ha.slot 6 (slots_no (by kernel_rfl))).trans rfl
            obtain ⟨p0, p1, _⟩ := two ((hc.keep _ _ ⟨_, unhide HPV⟩ (by omega) repoNotRd).trans (unhide HPV))
            go_simp
            exact ⟨_, rfl, rfl, hc.next, fun h => h⟩
          | 1 =>
            simp at hi
            subst hi
            have e7 : a.tmps[7]? = some (.slice sa set.length sc) := (ha.slot 7 (slots_no (by kernel_rfl))).trans rfl
            go_simp
            exact ⟨_, rfl, rfl, hc.next, fun h => h⟩
          | 2 =>
            simp at hi
            subst hi
            have e5 : a.tmps[5]? = some (.pointer (some ⟨w.heap.size + 1 + 1, 0, none⟩)) := (ha.slot 5 (slots_no (by kernel_rfl))).trans rfl
            go_simp
            exact ⟨_, rfl, rfl, hc.next, fun h => h⟩
          | 3 =>
            simp at hi
            subst hi
            have d2 := hd ⟨2, .data⟩ (by simp) rfl
            rw [valOf_at (d := 58) rfl] at d2
            have d2' : a.tmps[58]?.getD undef = .pointer (some ⟨w.heap.size + 1 + 1, 0, none⟩) := d2
            go_simp
            refine (pick_any (w.heap.size + 1 + 1) (w.heap.size + 1 + 1) _ 5 _ hc.rd (by omega) (by omega) (by omega)).mono ?_
            rintro e y ⟨⟨r, rfl, hr0, hr1⟩, hR, hW⟩
            exact ⟨_, rfl, ⟨r, rfl, hr0, hr1⟩, hc.picked hR hW, EP.picked rfl hW⟩
          | 4 =>
            simp at hi
            subst hi
            have e5 : a.tmps[5]? = some (.pointer (some ⟨w.heap.size + 1 + 1, 0, none⟩)) := (ha.slot 5 (slots_no (by kernel_rfl))).trans rfl
            go_simp
            exact ⟨_, rfl, rfl, hc.next, fun h => h⟩
          | 5 =>
            simp at hi
            subst hi
            have d4 := hd ⟨4, .data⟩ (by simp) rfl
            rw [valOf_at (d := 60) rfl] at d4
            have d4' : a.tmps[60]?.getD undef = .pointer (some ⟨w.heap.size + 1 + 1, 0, none⟩) := d4
            go_simp
            refine (pick_any (w.heap.size + 1 + 1) (w.heap.size + 1 + 1) _ 8 _ hc.rd (by omega) (by omega) (by omega)).mono ?_
            rintro e y ⟨⟨r, rfl, hr0, hr1⟩, hR, hW⟩
            exact ⟨_, rfl, ⟨r, rfl, hr0, hr1⟩, hc.picked hR hW, EP.picked rfl hW⟩
          | 6 =>
            simp at hi
            subst hi
            obtain ⟨r, h5, hr0, hr1⟩ := hd ⟨5, .data⟩ (by simp) rfl
            rw [valOf_at (d := 61) rfl] at h5
            go_simp
            exact ⟨_, rfl, ⟨_, rfl⟩, hc.next, fun h => h⟩
          | 7 =>
            simp at hi
            subst hi
            have e5 : a.tmps[5]? = some (.pointer (some ⟨w.heap.size + 1 + 1, 0, none⟩)) := (ha.slot 5 (slots_no (by kernel_rfl))).trans rfl
            go_simp
            exact ⟨_, rfl, rfl, hc.next, fun h => h⟩
          | 8 =>
            simp at hi
            subst hi
            have d7 := hd ⟨7, .data⟩ (by simp) rfl
            rw [valOf_at (d := 63) rfl] at d7
            have d7' : a.tmps[63]?.getD undef = .pointer (some ⟨w.heap.size + 1 + 1, 0, none⟩) := d7
            go_simp
            refine (pick_any (w.heap.size + 1 + 1) (w.heap.size + 1 + 1) _ 8 _ hc.rd (by omega) (by omega) (by omega)).mono ?_
            rintro e y ⟨⟨r, rfl, hr0, hr1⟩, hR, hW⟩
            exact ⟨_, rfl, ⟨r, rfl, hr0, hr1⟩, hc.picked hR hW, EP.picked rfl hW⟩
          | 9 =>
            simp at hi
            subst hi
            obtain ⟨r, h8, hr0, hr1⟩ := hd ⟨8, .data⟩ (by simp) rfl
            rw [valOf_at (d := 64) rfl] at h8
            go_simp
            exact ⟨_, rfl, ⟨_, rfl⟩, hc.next, fun h => h⟩
          | 10 =>
            simp at hi
            subst hi
            obtain ⟨k3, h3, _, _⟩ := hd ⟨3, .data⟩ (by simp) rfl
            rw [valOf_at (d := 59) rfl] at h3
            obtain ⟨k6, h6⟩ := hd ⟨6, .data⟩ (by simp) rfl
            rw [valOf_at (d := 62) rfl] at h6
            obtain ⟨k9, h9⟩ := hd ⟨9, .data⟩ (by simp) rfl
            rw [valOf_at (d := 65) rfl] at h9
            go_simp
            exact ⟨_, rfl, ⟨⟨k3, k6, k9⟩, rfl⟩, hc.next, fun h => h⟩
          | 11 =>
            simp at hi
            subst hi
            have e2 : a.tmps[2]? = some (.pointer (some ⟨w.heap.size, 0, none⟩)) := (ha.slot 2 (slots_no (by kernel_rfl))).trans rfl
            have d0 := hd ⟨0, .data⟩ (by simp) rfl
            rw [valOf_at (d := 56) rfl] at d0
            have d0' : a.tmps[56]?.getD undef = .agg #[.slice va l.length vc, .int .i64 room] := d0
            obtain ⟨u0, u1, u2, u3, hres⟩ := hc.res
            obtain ⟨r0, r1, rf⟩ := two hres
            have rf0 := rf 0
            have rf1 := rf 1
            have HC := hide hc
            clear hres rf hc
            go_simp
            exact ⟨(unhide HC).stored _ _, (unhide HC).store (by omega) _ _ _ _, fun _ => (unhide HC).stored _ _⟩
          | 12 =>
            simp at hi
            subst hi
            have d1 := hd ⟨1, .data⟩ (by simp) rfl
            rw [valOf_at (d := 57) rfl] at d1
            have d1' : a.tmps[57]?.getD undef = .slice sa set.length sc := d1
            go_simp
            exact ⟨_, rfl, rfl, hc.next, fun h => h⟩
          | i + 13 => omega
        · intro a x ha ht hc
          have h1 : a.tmps[3]?.getD undef = .slice sa set.length sc := by have := ht 12 (by omega); rwa [valOf_at (d := 3) rfl] at this
          have res7 : x.heap[w.heap.size]? = some (repoCells (.slice va l.length vc) room) := ht 11 (by omega)
          obtain ⟨t, h8⟩ := ht 10 (by omega)
          rw [valOf_at (d := 66) rfl] at h8
          have hl := ha.list
          simp [slotOf, List.range_succ] at hl
          rw [hl]
          clear hl ha ht
          have rst7 := (hc.keep _ _ ⟨_, unhide HRT⟩ (by omega) stepNotRd).trans (unhide HRT)
          have V7 := V2.kept (unhide HV) (fun b t hb h1 h2 => hc.keep b t hb (fun e => h1 (by subst e; exact hb.one ⟨_, unhide HRS⟩)) h2)
          have B7 := hc.below (unhide HB) (by omega) (Nat.le_refl _)
          have R7 := hc.row (unhide HRW) ⟨_, unhide HRS⟩
          obtain ⟨q0, q1, q2, g0, g1, g2⟩ := three rst7
          have HFO := hide (fin_st (s0 := ⟨0, 0, 0⟩) res7 rst7 V7 R7 B7 (Nat.le_refl _) t)
          clear hc res7 rst7 V7 B7 R7
          rw [h1, h8]
          go_wp2_with fail
          obtain ⟨f1, f2, f3, f4, f5, f6, f7, f8⟩ := unhide HFO
          exact bodyPost_ret (v := .tuple #[.agg #[.slice va l.length vc, .int .i64 room], .slice sa set.length sc, .agg #[.int .i64 t.kind, .int .i64 t.inn, .int .i64 t.out]]) (by simp [results, Try.results26, go_sem, f4, f5, f6, f7, f8]) rfl ⟨⟨_, _, _, t, rfl, V2.down f1 (by omega), set, f2, by omega⟩, f3⟩
    · have hg2 : ¬ (0 : Int) < (A.length : Int) := by omega
      clear HL6
      have HV := HV6
      have HRS := HRS6
      have HRT := HRT6
      have HPV := HPV6
      have HB := HB6
      have HRW := HRW6
      have HR := HR6
      clear HV6 HRS6 HRT6 HPV6 HB6 HRW6 HR6
      go_upto_region 10 with fail
      refine wp_region_headE 13 (by kernel_rfl) (by kernel_rfl) (by kernel_rfl) (by kernel_rfl) (by kernel_rfl) (TQ w.heap.size (repoCells (.slice va l.length vc) room) (.agg #[.slice va l.length vc, .int .i64 room]) (.slice sa set.length sc) (w.heap.size + 1 + 1)) (CD w6 (w.heap.size + 1 + 1) (w.heap.size + 1 + 1) w.heap.size 200000) (EP w.heap.size (repoCells (.slice va l.length vc) room)) (fun _ _ _ _ h e => TQ_on h e) (CD.start ((unhide HR).more (by omega)) (unhide HRS)) ?_ ?_
      · intro i o him hi a x n hn ha hc hd
        match i with
        | 0 =>
          simp at hi
          subst hi
          have e6 : a.tmps[6]? = some (.pointer (some ⟨w2.heap.size, 0, none⟩)) := (ha.slot 6 (slots_no (by kernel_rfl))).trans rfl
          obtain ⟨p0, p1, _⟩ := two ((hc.keep _ _ ⟨_, unhide HPV⟩ (by omega) repoNotRd).trans (unhide HPV))
          go_simp
          exact ⟨_, rfl, rfl, hc.next, fun h => h⟩
        | 1 =>
          simp at hi
          subst hi
          have e7 : a.tmps[7]? = some (.slice sa set.length sc) := (ha.slot 7 (slots_no (by kernel_rfl))).trans rfl
          go_simp
          exact ⟨_, rfl, rfl, hc.next, fun h => h⟩
        | 2 =>
          simp at hi
          subst hi
          have e5 : a.tmps[5]? = some (.pointer (some ⟨w.heap.size + 1 + 1, 0, none⟩)) := (ha.slot 5 (slots_no (by kernel_rfl))).trans rfl
          go_simp
          exact ⟨_, rfl, rfl, hc.next, fun h => h⟩
        | 3 =>
          simp at hi
          subst hi
          have d2 := hd ⟨2, .data⟩ (by simp) rfl
          rw [valOf_at (d := 58) rfl] at d2
          have d2' : a.tmps[58]?.getD undef = .pointer (some ⟨w.heap.size + 1 + 1, 0, none⟩) := d2
          go_simp
          refine (pick_any (w.heap.size + 1 + 1) (w.heap.size + 1 + 1) _ 5 _ hc.rd (by omega) (by omega) (by omega)).mono ?_
          rintro e y ⟨⟨r, rfl, hr0, hr1⟩, hR, hW⟩
          exact ⟨_, rfl, ⟨r, rfl, hr0, hr1⟩, hc.picked hR hW, EP.picked rfl hW⟩
        | 4 =>
          simp at hi
          subst hi
          have e5 : a.tmps[5]? = some (.pointer (some ⟨w.heap.size + 1 + 1, 0, none⟩)) := (ha.slot 5 (slots_no (by kernel_rfl))).trans rfl
          go_simp
          exact ⟨_, rfl, rfl, hc.next, fun h => h⟩
        | 5 =>
          simp at hi
          subst hi
          have d4 := hd ⟨4, .data⟩ (by simp) rfl
          rw [valOf_at (d := 60) rfl] at d4
          have d4' : a.tmps[60]?.getD undef = .pointer (some ⟨w.heap.size + 1 + 1, 0, none⟩) := d4
          go_simp
          refine (pick_any (w.heap.size + 1 + 1) (w.heap.size + 1 + 1) _ 8 _ hc.rd (by omega) (by omega) (by omega)).mono ?_
          rintro e y ⟨⟨r, rfl, hr0, hr1⟩, hR, hW⟩
          exact ⟨_, rfl, ⟨r, rfl, hr0, hr1⟩, hc.picked hR hW, EP.picked rfl hW⟩
        | 6 =>
          simp at hi
          subst hi
          obtain ⟨r, h5, hr0, hr1⟩ := hd ⟨5, .data⟩ (by simp) rfl
          rw [valOf_at (d := 61) rfl] at h5
          go_simp
          exact ⟨_, rfl, ⟨_, rfl⟩, hc.next, fun h => h⟩
        | 7 =>
          simp at hi
          subst hi
          have e5 : a.tmps[5]? = some (.pointer (some ⟨w.heap.size + 1 + 1, 0, none⟩)) := (ha.slot 5 (slots_no (by kernel_rfl))).trans rfl
          go_simp
          exact ⟨_, rfl, rfl, hc.next, fun h => h⟩
        | 8 =>
          simp at hi
          subst hi
          have d7 := hd ⟨7, .data⟩ (by simp) rfl
          rw [valOf_at (d := 63) rfl] at d7
          have d7' : a.tmps[63]?.getD undef = .pointer (some ⟨w.heap.size + 1 + 1, 0, none⟩) := d7
          go_simp
          refine (pick_any (w.heap.size + 1 + 1) (w.heap.size + 1 + 1) _ 8 _ hc.rd (by omega) (by omega) (by omega)).mono ?_
          rintro e y ⟨⟨r, rfl, hr0, hr1⟩, hR, hW⟩
          exact ⟨_, rfl, ⟨r, rfl, hr0, hr1⟩, hc.picked hR hW, EP.picked rfl hW⟩
        | 9 =>
          simp at hi
          subst hi
          obtain ⟨r, h8, hr0, hr1⟩ := hd ⟨8, .data⟩ (by simp) rfl
          rw [valOf_at (d := 64) rfl] at h8
          go_simp
          exact ⟨_, rfl, ⟨_, rfl⟩, hc.next, fun h => h⟩
        | 10 =>
          simp at hi
          subst hi
          obtain ⟨k3, h3, _, _⟩ := hd ⟨3, .data⟩ (by simp) rfl
          rw [valOf_at (d := 59) rfl] at h3
          obtain ⟨k6, h6⟩ := hd ⟨6, .data⟩ (by simp) rfl
          rw [valOf_at (d := 62) rfl] at h6
          obtain ⟨k9, h9⟩ := hd ⟨9, .data⟩ (by simp) rfl
          rw [valOf_at (d := 65) rfl] at h9
          go_simp
          exact ⟨_, rfl, ⟨⟨k3, k6, k9⟩, rfl⟩, hc.next, fun h => h⟩
        | 11 =>
          simp at hi
          subst hi
          have e2 : a.tmps[2]? = some (.pointer (some ⟨w.heap.size, 0, none⟩)) := (ha.slot 2 (slots_no (by kernel_rfl))).trans rfl
          have d0 := hd ⟨0, .data⟩ (by simp) rfl
          rw [valOf_at (d := 56) rfl] at d0
          have d0' : a.tmps[56]?.getD undef = .agg #[.slice va l.length vc, .int .i64 room] := d0
          obtain ⟨u0, u1, u2, u3, hres⟩ := hc.res
          obtain ⟨r0, r1, rf⟩ := two hres
          have rf0 := rf 0
          have rf1 := rf 1
          have HC := hide hc
          clear hres rf hc
          go_simp
          exact ⟨(unhide HC).stored _ _, (unhide HC).store (by omega) _ _ _ _, fun _ => (unhide HC).stored _ _⟩
        | 12 =>
          simp at hi
          subst hi
          have d1 := hd ⟨1, .data⟩ (by simp) rfl
          rw [valOf_at (d := 57) rfl] at d1
          have d1' : a.tmps[57]?.getD undef = .slice sa set.length sc := d1
          go_simp
          exact ⟨_, rfl, rfl, hc.next, fun h => h⟩
        | i + 13 => omega
      · intro a x ha ht hc
        have h1 : a.tmps[3]?.getD undef = .slice sa set.length sc := by have := ht 12 (by omega); rwa [valOf_at (d := 3) rfl] at this
        have res7 : x.heap[w.heap.size]? = some (repoCells (.slice va l.length vc) room) := ht 11 (by omega)
        obtain ⟨t, h8⟩ := ht 10 (by omega)
        rw [valOf_at (d := 66) rfl] at h8
        have hl := ha.list
        simp [slotOf, List.range_succ] at hl
        rw [hl]
        clear hl ha ht
        have rst7 := (hc.keep _ _ ⟨_, unhide HRT⟩ (by omega) stepNotRd).trans (unhide HRT)
        have V7 := V2.kept (unhide HV) (fun b t hb h1 h2 => hc.keep b t hb (fun e => h1 (by subst e; exact hb.one ⟨_, unhide HRS⟩)) h2)
        have B7 := hc.below (unhide HB) (by omega) (Nat.le_refl _)
        have R7 := hc.row (unhide HRW) ⟨_, unhide HRS⟩
        obtain ⟨q0, q1, q2, g0, g1, g2⟩ := three rst7
        have HFO := hide (fin_st (s0 := ⟨0, 0, 0⟩) res7 rst7 V7 R7 B7 (Nat.le_refl _) t)
        clear hc res7 rst7 V7 B7 R7
        rw [h1, h8]
        go_wp2_with fail
        obtain ⟨f1, f2, f3, f4, f5, f6, f7, f8⟩ := unhide HFO
        exact bodyPost_ret (v := .tuple #[.agg #[.slice va l.length vc, .int .i64 room], .slice sa set.length sc, .agg #[.int .i64 t.kind, .int .i64 t.inn, .int .i64 t.out]]) (by simp [results, Try.results26, go_sem, f4, f5, f6, f7, f8]) rfl ⟨⟨_, _, _, t, rfl, V2.down f1 (by omega), set, f2, by omega⟩, f3⟩
end Go.Proofs.Ythkhaemlcmkkjas
