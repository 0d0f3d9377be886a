/- DrawPlanDo: the drawn packs, a drawn state and drawn steps. -/
import Derived.Test.YthkhaemlcmkkjaoGDx
namespace Go.Proofs.Ythkhaemlcmkkjao
set_option linter.unusedVariables false
set_option linter.unusedSimpArgs false
open Go.RowKit Go.Deep

theorem Try.cellsStepZ : (Try.prog.info? 41).map (fun i => (i.zero, i.size, i.bytes)) = some (some (.agg #[.int .i64 0, .int .i64 0, .int .i64 0]), 3, 24) := by kernel_rfl
/-- Cells that are steps are a row of them. -/
theorem steps_cells {w : World} {g B cap : Nat} {C : Array Value} {l : List StepD} (hg : B ≤ g) (hC : w.heap[g]? = some (.cells C 41 (0, 0))) (hs : C.size = cap * 3) (hlc : l.length ≤ cap) (hcm : cap ≤ maxLen) (hl : ∀ i j, i < l.length → j < 3 → C[i * 3 + j]? = [Value.int .i64 (l.getD i dStep).kind, .int .i64 (l.getD i dStep).inn, .int .i64 (l.getD i dStep).out][j]?) : w.ownsRow B 41 3 (.slice (some ⟨g, 0, none⟩) l.length cap) l.length (stepVs l) := by
  refine ⟨stepVs_len l, Or.inr ⟨g, cap, C, rfl, hg, hC, hlc, hcm, by omega, ?_⟩⟩
  apply List.ext_getElem?
  intro i
  rw [List.getElem?_take]
  by_cases hi : i < l.length * 3
  · rw [if_pos hi]
    obtain ⟨q, j, hq, hj, rfl⟩ : ∃ q j, q < l.length ∧ j < 3 ∧ i = q * 3 + j := ⟨i / 3, i % 3, by omega, by omega, by omega⟩
    rw [stepVs_at l q j hq hj, ← hl q j hq hj]
    simp
  · rw [if_neg hi, List.getElem?_eq_none (by rw [stepVs_len]; omega)]
/-- One of the steps is written anew. -/
theorem steps_set {w : World} {g B cap : Nat} {l : List StepD} (h : w.ownsRow B 41 3 (.slice (some ⟨g, 0, none⟩) l.length cap) l.length (stepVs l)) {r : Nat} (hr : r < l.length) (t : StepD) :
    (((w.setCell ⟨g, r * 3, none⟩ (.int .i64 t.kind)).setCell ⟨g, r * 3 + 1, none⟩ (.int .i64 t.inn)).setCell ⟨g, r * 3 + 2, none⟩ (.int .i64 t.out)).ownsRow B 41 3 (.slice (some ⟨g, 0, none⟩) l.length cap) l.length (stepVs (l.set r t)) := by
  rcases h.2 with ⟨hv, _⟩ | ⟨g', cap', cur, hv, hB, hc, hcap, hcm, hsz, hx⟩
  · cases hv
  · simp at hv
    obtain ⟨rfl, rfl⟩ := hv
    have k1 := blk_set hc (r * 3) (.int .i64 t.kind)
    have k2 := blk_set k1 (r * 3 + 1) (.int .i64 t.inn)
    have k3 := blk_set k2 (r * 3 + 2) (.int .i64 t.out)
    have hl : (l.set r t).length = l.length := by simp
    have := steps_cells (l := l.set r t) (cap := cap) hB k3 (by simpa using hsz) (by rw [hl]; exact hcap) hcm (fun i j hi hj => ?_)
    · rwa [hl] at this
    · rw [hl] at hi
      have hold : cur[i * 3 + j]? = [Value.int .i64 (l.getD i dStep).kind, .int .i64 (l.getD i dStep).inn, .int .i64 (l.getD i dStep).out][j]? := by
        rw [← stepVs_at l i j hi hj, ← hx, List.getElem?_take, if_pos (by omega)]
        simp
      have hin : i * 3 + j < cur.size := by omega
      by_cases e : i = r
      · subst e
        have hg : (l.set i t).getD i dStep = t := by simp [List.getD, hi]
        rw [hg]
        match j, hj with
        | 0, _ =>
          rw [Array.getElem?_setIfInBounds_ne (by omega), Array.getElem?_setIfInBounds_ne (by omega)]
          simp only [Nat.add_zero] at hin ⊢
          rw [Array.getElem?_setIfInBounds_self_of_lt hin]
          rfl
        | 1, _ =>
          rw [Array.getElem?_setIfInBounds_ne (by omega), Array.getElem?_setIfInBounds_self_of_lt (by simpa using hin)]
          rfl
        | 2, _ =>
          rw [Array.getElem?_setIfInBounds_self_of_lt (by simpa using hin)]
          rfl
      · have hg : (l.set r t).getD i dStep = l.getD i dStep := by simp [List.getD, List.getElem?_set_ne (Ne.symm e)]
        rw [hg, ← hold, Array.getElem?_setIfInBounds_ne (by omega), Array.getElem?_setIfInBounds_ne (by omega), Array.getElem?_setIfInBounds_ne (by omega)]
/-- Steps that are made. -/
theorem steps_made (w : World) (n : Nat) (hn : n ≤ 1000) : (w.alloc (.cells (madeCells (Value.agg #[.int .i64 0, .int .i64 0, .int .i64 0]).cells (n * 3)) 41)).ownsRow w.heap.size 41 3 (.slice (some ⟨w.heap.size, 0, none⟩) n n) n (stepVs (List.replicate n ⟨0, 0, 0⟩)) := by
  have hl : (List.replicate n (⟨0, 0, 0⟩ : StepD)).length = n := by simp
  have := steps_cells (w := w.alloc (.cells (madeCells (Value.agg #[.int .i64 0, .int .i64 0, .int .i64 0]).cells (n * 3)) 41)) (l := List.replicate n ⟨0, 0, 0⟩) (cap := n) (Nat.le_refl w.heap.size) (blk_alloc_new _ _) (size_madeCells _ _) (by rw [hl]; omega) (by unfold maxLen; omega) (fun i j hi hj => ?_)
  · rwa [hl] at this
  · rw [hl] at hi
    have hg : (List.replicate n (⟨0, 0, 0⟩ : StepD)).getD i dStep = ⟨0, 0, 0⟩ := by simp [List.getD, hi]
    rw [hg]
    have hc : (Value.agg #[.int .i64 0, .int .i64 0, .int .i64 0]).cells = #[.int .i64 0, .int .i64 0, .int .i64 0] := by kernel_rfl
    rw [hc]
    have hlt : i * 3 + j < n * 3 := by omega
    simp only [madeCells, Array.getElem?_map, Array.getElem?_range, if_pos hlt, Option.map_some]
    have hm : (i * 3 + j) % (#[Value.int .i64 0, .int .i64 0, .int .i64 0] : Array Value).size = j := by simp; omega
    rw [hm]
    match j, hj with
    | 0, _ => rfl
    | 1, _ => rfl
    | 2, _ => rfl
/-- What was stored stays, and what steps are. -/
def EM (rs : Nat) (R : Obj) (x y : World) : Prop := EP rs R x y ∧ ∀ (g : Nat) (C : Array Value), x.heap[g]? = some (.cells C 41 (0, 0)) → y.heap[g]? = x.heap[g]?
theorem EM.same (rs : Nat) (R : Obj) (x : World) : EM rs R x x := ⟨fun h => h, fun _ _ _ => rfl⟩
theorem EM.picked {rs B : Nat} {R : Obj} {C : Array Value} {x y : World} (hR : R = .cells C 25 (0, 0)) (hW : Wrote B isRd x y) : EM rs R x y := ⟨EP.picked hR hW, fun g C h => hW.other ⟨C, h⟩ stepNotRd⟩
theorem EM.alloc (rs : Nat) (R : Obj) (x : World) (o : Obj) : EM rs R x (x.alloc o) := ⟨fun h => (blk_alloc_lt _ _ _ (Array.getElem?_eq_some_iff.1 h).1).trans h, fun g C h => blk_alloc_lt _ _ _ (Array.getElem?_eq_some_iff.1 h).1⟩
theorem EM.store {rs : Nat} {R : Obj} {x : World} {u0 u1 a b : Value} (hres : x.heap[rs]? = some (.cells #[u0, u1] 25 (0, 0))) (hst : ((x.setCell ⟨rs, 0, none⟩ a).setCell ⟨rs, 1, none⟩ b).heap[rs]? = some R) : EM rs R x ((x.setCell ⟨rs, 0, none⟩ a).setCell ⟨rs, 1, none⟩ b) := ⟨fun _ => hst, fun g C h => by
  have hne : g ≠ rs := fun e => by subst e; rw [hres] at h; simp at h
  exact (blk_setCell_other _ _ _ _ hne).trans (blk_setCell_other _ _ _ _ hne)⟩
theorem steps_em {rs B : Nat} {R : Obj} {x y : World} {v : Value} {n : Nat} {xs : List Value} (h : x.ownsRow B 41 3 v n xs) (e : EM rs R x y) : y.ownsRow B 41 3 v n xs := by
  obtain ⟨h1, h2⟩ := h
  refine ⟨h1, h2.imp id ?_⟩
  rintro ⟨g, cap, cur, hv, hg, hc, r⟩
  exact ⟨g, cap, cur, hv, hg, (e.2 g cur hc).trans hc, r⟩
theorem CD.alloc {W x : World} {B rb rs n : Nat} {m : Int} (h : CD W B rb rs m n x) (o : Obj) : CD W B rb rs m (n + 1) (x.alloc o) := by
  obtain ⟨a0, k0, c0, r0, hres⟩ := h.res
  have hs := h.size
  refine ⟨(h.rd.alloc o).more (by omega), h.os, h.tape, h.output, by simp; omega, fun b t hc hb ht => ?_, fun b hb hl hn => ?_, a0, k0, c0, r0, (blk_alloc_lt _ _ _ (Array.getElem?_eq_some_iff.1 hres).1).trans hres⟩
  · have hl : b < W.heap.size := by obtain ⟨C, hC⟩ := hc; exact (Array.getElem?_eq_some_iff.1 hC).1
    exact (blk_alloc_lt _ _ _ (by omega)).trans (h.keep b t hc hb ht)
  · exact (blk_alloc_lt _ _ _ (by omega)).trans (h.low b hb hl hn)
/-- What the operations leave: steps that are made. -/
def TM (rs : Nat) (R : Obj) (P U : Value) (rb : Nat) (i : Nat) (v : Value) (x : World) : Prop := match i with
  | 0 => v = P
  | 1 => v = U
  | 2 => v = .pointer (some ⟨rb, 0, none⟩)
  | 3 => ∃ r : Int, v = .int .i64 r ∧ 0 ≤ r ∧ r < 2
  | 4 => ∃ n : Nat, v = .int .i64 (n : Int) ∧ n ≤ 301
  | 5 => ∃ (ss : List StepD) (q : Option Addr) (c : Nat), v = .slice q ss.length c ∧ ss.length ≤ 301 ∧ x.ownsRow 0 41 3 v ss.length (stepVs ss)
  | 6 => x.heap[rs]? = some R
  | 7 => v = U
  | _ => True
theorem TM_on {rs : Nat} {R : Obj} {P U : Value} {rb i : Nat} {v : Value} {x y : World} (h : TM rs R P U rb i v x) (e : EM rs R x y) : TM rs R P U rb i v y := by
  unfold TM at h ⊢
  split at h <;> first | exact h | exact e.1 h | (obtain ⟨ss, q, c, h1, h2, h3⟩ := h; exact ⟨ss, q, c, h1, h2, steps_em h3 e⟩)
/-- What DrawPlanDo answers. -/
def DrawnSteps (w w' : World) (e : Ending) : Prop := ∃ (v : Value) (room : Int) (u q : Value), e = .returned (.tuple #[.agg #[v, .int .i64 room], u, q]) ∧ V2 w.heap.size w' 60000 v ∧ (∃ set, RowI 0 w' u set ∧ set.length ≤ 200002) ∧ ∃ ss : List StepD, w'.ownsRow 0 41 3 q ss.length (stepVs ss) ∧ ss.length ≤ 400

set_option maxRecDepth 100000 in
set_option maxHeartbeats 8000000 in
theorem DrawPlanDo_V (a : Option Addr) (n c : Nat) (w : World) (h : CodeAt w.heap.size w a n) (hn : n ≤ 1048576) (hc : n ≤ c) (hc2 : c ≤ maxLen) :
    Calls Try.prog 30 #[.slice a n c] w fun e w' => DrawnSteps w w' e ∧ Below w.heap.size w w' := by
  have b0 := (Below.refl w.heap.size w).alloc (Nat.le_refl _) (.cells #[.slice none 0 0, .int .i64 0] 25)
  have hcode := h.below b0 (Nat.le_refl _)
  have HF0 := hide (show (w.alloc (.cells #[.slice none 0 0, .int .i64 0] 25)).heap[w.heap.size]? = some (repoCells (.slice none 0 0) 0) from blk_alloc_new _ _)
  go_enter Try.func30, Try.ntmps30
  go_wp2_with fail
  refine (l6Open_any a n c _ hcode hn hc hc2).mono ?_
  rintro e w1 ⟨rfl, R1, b1⟩
  simp only [nblk_alloc] at R1 b1
  have hz1 := b1.size
  simp at hz1
  have res1 := (b1.block w.heap.size (by omega)).trans (unhide HF0)
  have B1 : Below w.heap.size w w1 := b0.trans (b1.mono (by omega))
  have hrl := R1.lt
  clear b0 b1 hcode HF0
  go_wp2_with fail
  refine (l71Any_V (w.heap.size + 1) (w.heap.size + 1) 0 6 _ R1 (by omega) (by omega)).mono ?_
  rintro e w2 ⟨⟨v, room, rfl, hV⟩, R2, W2⟩
  obtain ⟨va, vn, vc, rfl, _, hvN, _⟩ := SlBy.slice hV
  have hz2 := W2.size
  have res2 := W2.blk res1 repoNotRd
  have B2 := B1.trans (W2.bel (B' := w.heap.size) (by omega) (by omega))
  have bp := (Below.refl w2.heap.size w2).alloc (Nat.le_refl _) (.cells #[.slice va vn vc, .int .i64 room] 25)
  have pv2 : (w2.alloc (.cells #[.slice va vn vc, .int .i64 room] 25)).heap[w2.heap.size]? = some (repoCells (.slice va vn vc) room) := blk_alloc_new _ _
  have res3 := (bp.block w.heap.size (by omega)).trans res2
  have R3 := R2.below bp
  have V3 := V2.ev hV (Ev.of_below (B := 0) (s := w1.heap.size) (N := 60000) bp)
  have B3 := B2.trans (bp.mono (by omega))
  obtain ⟨l, hll, hP3⟩ := V2.packs V3
  subst hll
  have HR3 := hide R3
  have HV3 := hide V3
  have HB3 := hide B3
  have HRS3 := hide res3
  have HPV3 := hide pv2
  have HP3 := hide hP3
  have hz3 : w2.heap.size < (w2.alloc (.cells #[.slice va l.length vc, .int .i64 room] 25)).heap.size := by simp
  clear R1 W2 res1 B1 hV R2 res2 B2 bp pv2 res3 R3 V3 B3 hP3
  go_wp2_with fail
  generalize hw3 : w2.alloc (.cells #[.slice va l.length vc, .int .i64 room] 25) = w3 at HR3 HV3 HB3 HRS3 HPV3 HP3 hz3 ⊢
  clear hw3
  refine (l71Set_V (w.heap.size + 1) (w.heap.size + 1) _ va l vc room w3 (unhide HR3) (by omega) (unhide HP3) (by omega)).mono ?_
  rintro e w4 ⟨⟨u, rfl, set, hrow, hsl⟩, R4, W4⟩
  have hz4 := W4.size
  have HV4 := hide (V2.ev (unhide HV3) (Ev.of_wrote (s := w1.heap.size) (N := 60000) W4))
  have HRS4 := hide (W4.blk (unhide HRS3) repoNotRd)
  have HPV4 := hide (W4.blk (unhide HPV3) repoNotRd)
  have HB4 := hide ((unhide HB3).trans (W4.bel (B' := w.heap.size) (by omega) (by have := (unhide HB3).size; omega)))
  have HRW4 := hide hrow
  have HR4 := hide R4
  obtain ⟨sa, sc, hu, _⟩ := RowI.set hrow (by omega)
  subst hu
  clear hrow R4 W4 HR3 HV3 HB3 HRS3 HPV3 HP3
  have hwz := (unhide HB4).size
  obtain ⟨p0, p1, _⟩ := two (unhide HPV4)
  have HWK := hide (l71Walk_V (w.heap.size + 1) (w.heap.size + 1) w1.heap.size _ 6 va l.length vc room sa set sc w4 (unhide HR4) (by omega) (by omega) (unhide HV4) (unhide HRW4) (by omega))
  go_wp2_with fail
  refine (unhide HWK).mono ?_
  rintro e w5 ⟨⟨v5, u5, ss, cur, rfl, hst5, hss, hcu5, hcl⟩, R5, W5⟩
  have hz5 := W5.size
  have HV5 := hide (V2.ev (unhide HV4) (Ev.of_wrote (s := w1.heap.size) (N := 60000) W5))
  have HRS5 := hide (W5.blk (unhide HRS4) repoNotRd)
  have HPV5 := hide (W5.blk (unhide HPV4) repoNotRd)
  have HB5 := hide ((unhide HB4).trans (W5.bel (B' := w.heap.size) (by omega) (by have := (unhide HB4).size; omega)))
  have HRW5 := hide (RowI.wrote (unhide HRW4) W5)
  have HR5 := hide R5
  have HST5 := hide hst5
  obtain ⟨ca, cc, hcv, _⟩ := RowI.set hcu5 (by omega)
  subst hcv
  clear HV4 HRS4 HPV4 HB4 HRW4 HR4 R5 W5 p0 p1 hst5 hcu5 HWK
  obtain ⟨qa, qc, hqv⟩ : ∃ qa qc, v5 = .slice qa ss.length qc := by
    rcases (unhide HST5).2 with ⟨hv, h0⟩ | ⟨g, cap, cur, hv, _⟩
    · exact ⟨none, 0, by rw [hv, h0]⟩
    · exact ⟨_, _, hv⟩
  subst hqv
  by_cases hem : 0 < ss.length
  · have hg : (0 : Int) < (ss.length : Int) := by omega
    go_wp2_with fail
    refine (pick_any (w.heap.size + 1) (w.heap.size + 1) _ 4 _ (unhide HR5) (by omega) (by omega) (by omega)).mono ?_
    rintro e w6 ⟨⟨r6, rfl, hr6a, hr6b⟩, R6, W6⟩
    have hz6 := W6.size
    have HV6 := hide (V2.ev (unhide HV5) (Ev.of_wrote (s := w1.heap.size) (N := 60000) W6))
    have HRS6 := hide (W6.blk (unhide HRS5) repoNotRd)
    have HPV6 := hide (W6.blk (unhide HPV5) repoNotRd)
    have HB6 := hide ((unhide HB5).trans (W6.bel (B' := w.heap.size) (by omega) (by have := (unhide HB5).size; omega)))
    have HRW6 := hide (RowI.wrote (unhide HRW5) W6)
    have HST6 := hide (steps_wrote (unhide HST5) W6)
    have HR6 := hide R6
    clear HV5 HRS5 HPV5 HB5 HRW5 HR5 HST5 R6 W6
    by_cases hr : r6 = 0
    · subst hr
      go_wp2_with fail
      refine (pick_any (w.heap.size + 1) (w.heap.size + 1) _ (ss.length : Int) _ (unhide HR6) (by omega) (by omega) (by omega)).mono ?_
      rintro e w7 ⟨⟨r7, rfl, hr7a, hr7b⟩, R7, W7⟩
      have hz7 := W7.size
      have HV7 := hide (V2.ev (unhide HV6) (Ev.of_wrote (s := w1.heap.size) (N := 60000) W7))
      have HRS7 := hide (W7.blk (unhide HRS6) repoNotRd)
      have HPV7 := hide (W7.blk (unhide HPV6) repoNotRd)
      have HB7 := hide ((unhide HB6).trans (W7.bel (B' := w.heap.size) (by omega) (by have := (unhide HB6).size; omega)))
      have HRW7 := hide (RowI.wrote (unhide HRW6) W7)
      have HST7 := hide (steps_wrote (unhide HST6) W7)
      have HR7 := hide R7
      clear HV6 HRS6 HPV6 HB6 HRW6 HR6 HST6 R7 W7
      obtain ⟨rn, rfl⟩ : ∃ rn : Nat, r7 = (rn : Int) := ⟨r7.toNat, by omega⟩
      go_wp2_with fail
      refine (pick_any (w.heap.size + 1) (w.heap.size + 1) _ 3 _ (unhide HR7) (by omega) (by omega) (by omega)).mono ?_
      rintro e w8 ⟨⟨r8, rfl, hr8a, hr8b⟩, R8, W8⟩
      have hz8 := W8.size
      have HV8 := hide (V2.ev (unhide HV7) (Ev.of_wrote (s := w1.heap.size) (N := 60000) W8))
      have HRS8 := hide (W8.blk (unhide HRS7) repoNotRd)
      have HPV8 := hide (W8.blk (unhide HPV7) repoNotRd)
      have HB8 := hide ((unhide HB7).trans (W8.bel (B' := w.heap.size) (by omega) (by have := (unhide HB7).size; omega)))
      have HRW8 := hide (RowI.wrote (unhide HRW7) W8)
      have HST8 := hide (steps_wrote (unhide HST7) W8)
      have HR8 := hide R8
      clear HV7 HRS7 HPV7 HB7 HRW7 HR7 HST7 R8 W8
      go_wp2_with fail
      refine (pick_any (w.heap.size + 1) (w.heap.size + 1) _ 3 _ (unhide HR8) (by omega) (by omega) (by omega)).mono ?_
      rintro e w9 ⟨⟨r9, rfl, hr9a, hr9b⟩, R9, W9⟩
      have hz9 := W9.size
      have HV9 := hide (V2.ev (unhide HV8) (Ev.of_wrote (s := w1.heap.size) (N := 60000) W9))
      have HRS9 := hide (W9.blk (unhide HRS8) repoNotRd)
      have HPV9 := hide (W9.blk (unhide HPV8) repoNotRd)
      have HB9 := hide ((unhide HB8).trans (W9.bel (B' := w.heap.size) (by omega) (by have := (unhide HB8).size; omega)))
      have HRW9 := hide (RowI.wrote (unhide HRW8) W9)
      have HST9 := hide (steps_wrote (unhide HST8) W9)
      have HR9 := hide R9
      clear HV8 HRS8 HPV8 HB8 HRW8 HR8 HST8 R9 W9
      go_wp2_with fail
      refine (pick_any (w.heap.size + 1) (w.heap.size + 1) _ 3 _ (unhide HR9) (by omega) (by omega) (by omega)).mono ?_
      rintro e w10 ⟨⟨r10, rfl, hr10a, hr10b⟩, R10, W10⟩
      have hz10 := W10.size
      have HV10 := hide (V2.ev (unhide HV9) (Ev.of_wrote (s := w1.heap.size) (N := 60000) W10))
      have HRS10 := hide (W10.blk (unhide HRS9) repoNotRd)
      have HPV10 := hide (W10.blk (unhide HPV9) repoNotRd)
      have HB10 := hide ((unhide HB9).trans (W10.bel (B' := w.heap.size) (by omega) (by have := (unhide HB9).size; omega)))
      have HRW10 := hide (RowI.wrote (unhide HRW9) W10)
      have HST10 := hide (steps_wrote (unhide HST9) W10)
      have HR10 := hide R10
      clear HV9 HRS9 HPV9 HB9 HRW9 HR9 HST9 R10 W10
      obtain ⟨qb, hqb⟩ : ∃ qb, qa = some ⟨qb, 0, none⟩ := by
        rcases (unhide HST10).2 with ⟨hv, h0⟩ | ⟨g, cap, cur, hv, _⟩
        · omega
        · simp at hv
          exact ⟨_, hv.1⟩
      subst hqb
      have hrl2 : rn < ss.length := by omega
      have hq0 : (0 : Int) ≤ (rn : Int) := by omega
      have hwr : IntKind.i64.wrap (1 + r8) = 1 + r8 := by rw [IntKind.wrap_i64]; omega
      have hqB := World.ownsRow.lt (unhide HST10) qb rfl
      have hST11 := steps_set (unhide HST10) hrl2 ⟨1 + r8, r9, r10⟩
      obtain ⟨qC, hqC, hqs⟩ : ∃ C, w10.heap[qb]? = some (.cells C 41 (0, 0)) ∧ ss.length * 3 ≤ C.size := by
        rcases (unhide HST10).2 with ⟨hv, _⟩ | ⟨g, cap, cur, hv, hB, hcx, hcap, hcm, hsz, hx⟩
        · cases hv
        · simp at hv
          obtain ⟨rfl, rfl⟩ := hv
          exact ⟨cur, hcx, by omega⟩
      obtain ⟨w11, hw11⟩ : ∃ w11, w11 = ((w10.setCell ⟨qb, rn * 3, none⟩ (.int .i64 (1 + r8))).setCell ⟨qb, rn * 3 + 1, none⟩ (.int .i64 r9)).setCell ⟨qb, rn * 3 + 2, none⟩ (.int .i64 r10) := ⟨_, rfl⟩
      have ho : ∀ b, b ≠ qb → w11.heap[b]? = w10.heap[b]? := fun b hb => by rw [hw11]; exact (blk_setCell_other _ _ _ _ hb).trans ((blk_setCell_other _ _ _ _ hb).trans (blk_setCell_other _ _ _ _ hb))
      have hsz11 : w11.heap.size = w10.heap.size := by rw [hw11]; simp [nblk_setCell]
      have hne : ∀ (b : Nat) (t : TypeId), CellsOf w10 b t → t ≠ 41 → b ≠ qb := fun b t hc ht e => ht (by subst e; exact hc.one ⟨_, hqC⟩)
      have HV11 := hide (V2.keptS (unhide HV10) (fun b t hb ht => ho b (hne b t hb ht)))
      have HRS11 := hide ((ho _ (hne _ _ ⟨_, unhide HRS10⟩ (by decide))).trans (unhide HRS10))
      have HPV11 := hide ((ho _ (hne _ _ ⟨_, unhide HPV10⟩ (by decide))).trans (unhide HPV10))
      have HB11 := hide (show Below w.heap.size w w11 by rw [hw11]; exact Below.setCell (Below.setCell (Below.setCell (unhide HB10) (by show w.heap.size ≤ qb; omega) _) (by show w.heap.size ≤ qb; omega) _) (by show w.heap.size ≤ qb; omega) _)
      have HRW11 := hide (show RowI 0 w11 _ set by
        obtain ⟨h1, h2⟩ := unhide HRW10
        refine ⟨h1, h2.imp id ?_⟩
        rintro ⟨g, cap, cur, hv, hg, hc, r⟩
        exact ⟨g, cap, cur, hv, hg, (ho g (hne g _ ⟨cur, hc⟩ (by decide))).trans hc, r⟩)
      have HST11 := hide (show w11.ownsRow _ 41 3 (.slice (some ⟨qb, 0, none⟩) ss.length qc) ss.length (stepVs (ss.set rn ⟨1 + r8, r9, r10⟩)) by rw [hw11]; exact hST11)
      have HR11 := hide (Rd.on (unhide HR10) (by omega) (fun b hb => ho b (by omega)) (ho _ (by omega)))
      have fz0 : ∀ i, w10.frozen? ⟨qb, i, none⟩ = false := fun i => by simp [World.frozen?, hqC]
      have fz1 := fz0 (rn * 3)
      have fz2 := fz0 (rn * 3 + 1)
      have fz3 := fz0 (rn * 3 + 2)
      obtain ⟨c0, c1, c2⟩ : (∃ v, w10.cell? ⟨qb, rn * 3, none⟩ = some v) ∧ (∃ v, w10.cell? ⟨qb, rn * 3 + 1, none⟩ = some v) ∧ (∃ v, w10.cell? ⟨qb, rn * 3 + 2, none⟩ = some v) := by
        simp only [World.cell?, hqC]
        exact ⟨⟨_, Array.getElem?_eq_getElem (by omega)⟩, ⟨_, Array.getElem?_eq_getElem (by omega)⟩, ⟨_, Array.getElem?_eq_getElem (by omega)⟩⟩
      obtain ⟨v0, c0⟩ := c0
      obtain ⟨v1, c1⟩ := c1
      obtain ⟨v2, c2⟩ := c2
      have HW11 := hide hw11
      clear hw11 hST11 HV10 HRS10 HPV10 HB10 HRW10 HR10 HST10 ho hne fz0
      go_upto_region 7 with fail
      rw [← unhide HW11]
      clear HW11 hqC fz1 fz2 fz3 c0 c1 c2
      go_wp2_with fail
      refine (pick_any (w.heap.size + 1) (w.heap.size + 1) _ 40 _ (unhide HR11) (by omega) (by omega) (by omega)).mono ?_
      rintro e w12 ⟨⟨r12, rfl, hr12a, hr12b⟩, R12, W12⟩
      have hz12 := W12.size
      have HV12 := hide (V2.ev (unhide HV11) (Ev.of_wrote (s := w1.heap.size) (N := 60000) W12))
      have HRS12 := hide (W12.blk (unhide HRS11) repoNotRd)
      have HPV12 := hide (W12.blk (unhide HPV11) repoNotRd)
      have HB12 := hide ((unhide HB11).trans (W12.bel (B' := w.heap.size) (by omega) (by have := (unhide HB11).size; omega)))
      have HRW12 := hide (RowI.wrote (unhide HRW11) W12)
      have HST12 := hide (steps_wrote (unhide HST11) W12)
      have HR12 := hide R12
      clear HV11 HRS11 HPV11 HB11 HRW11 HR11 HST11 R12 W12
      by_cases hq : r12 = 0
      · subst hq
        go_upto_region 8 with fail
        refine wp_region_headE 8 (by kernel_rfl) (by kernel_rfl) (by kernel_rfl) (by kernel_rfl) (by kernel_rfl) (TM w.heap.size (repoCells (.slice va l.length vc) room) (.agg #[.slice va l.length vc, .int .i64 room]) (.slice sa set.length sc) (w.heap.size + 1)) (CD w12 (w.heap.size + 1) (w.heap.size + 1) w.heap.size 400000) (EM w.heap.size (repoCells (.slice va l.length vc) room)) (fun _ _ _ _ h e => TM_on h e) (CD.start ((unhide HR12).more (by omega)) (unhide HRS12)) ?_ ?_
        · intro i o him hi a x n hn ha hc hd
          match i with
          | 0 =>
            simp at hi
            subst hi
            have e6 : a.tmps[6]? = some (.pointer (some ⟨w2.heap.size, 0, none⟩)) := (ha.slot 6 (slots_no (by kernel_rfl))).trans rfl
            obtain ⟨p0, p1, _⟩ := two ((hc.keep _ _ ⟨_, unhide HPV12⟩ (by omega) repoNotRd).trans (unhide HPV12))
            go_simp
            exact ⟨_, rfl, rfl, hc.next, EM.same _ _ _⟩
          | 1 =>
            simp at hi
            subst hi
            have e7 : a.tmps[7]? = some (.slice sa set.length sc) := (ha.slot 7 (slots_no (by kernel_rfl))).trans rfl
            go_simp
            exact ⟨_, rfl, rfl, hc.next, EM.same _ _ _⟩
          | 2 =>
            simp at hi
            subst hi
            have e5 : a.tmps[5]? = some (.pointer (some ⟨w.heap.size + 1, 0, none⟩)) := (ha.slot 5 (slots_no (by kernel_rfl))).trans rfl
            go_simp
            exact ⟨_, rfl, rfl, hc.next, EM.same _ _ _⟩
          | 3 =>
            simp at hi
            subst hi
            have d2 := hd ⟨2, .data⟩ (by simp) rfl
            rw [valOf_at (d := 51) rfl] at d2
            have d2' : a.tmps[51]?.getD undef = .pointer (some ⟨w.heap.size + 1, 0, none⟩) := d2
            go_simp
            refine (pick_any (w.heap.size + 1) (w.heap.size + 1) _ 2 _ hc.rd (by omega) (by omega) (by omega)).mono ?_
            rintro e y ⟨⟨r, rfl, hr0, hr1⟩, hR, hW⟩
            exact ⟨_, rfl, ⟨r, rfl, hr0, hr1⟩, hc.picked hR hW, EM.picked rfl hW⟩
          | 4 =>
            simp at hi
            subst hi
            obtain ⟨r, h3, hr0, hr1⟩ := hd ⟨3, .data⟩ (by simp) rfl
            rw [valOf_at (d := 52) rfl] at h3
            have hwr : IntKind.i64.wrap (300 + r) = 300 + r := by rw [IntKind.wrap_i64]; omega
            go_simp
            exact ⟨_, rfl, ⟨(300 + r).toNat, by show Value.int _ _ = _; rw [Int.toNat_of_nonneg (by omega)], by omega⟩, hc.next, EM.same _ _ _⟩
          | 5 =>
            simp at hi
            subst hi
            obtain ⟨n, h4, hn1⟩ := hd ⟨4, .data⟩ (by simp) rfl
            rw [valOf_at (d := 53) rfl] at h4
            have hmk := make_eq (P := Try.prog) 45 41 _ 3 24 Try.underlying45 Try.cellsStepZ n (by omega) (by omega)
            go_simp
            refine ⟨_, rfl, ?_, hc.alloc _, EM.alloc _ _ _ _⟩
            refine ⟨List.replicate n ⟨0, 0, 0⟩, some ⟨x.heap.size, 0, none⟩, n, by simp, by simp; omega, ?_⟩
            have hl : (List.replicate n (⟨0, 0, 0⟩ : StepD)).length = n := by simp
            rw [hl]
            exact row_base (steps_made x n (by omega)) (Nat.zero_le _)
          | 6 =>
            simp at hi
            subst hi
            have e2 : a.tmps[2]? = some (.pointer (some ⟨w.heap.size, 0, none⟩)) := (ha.slot 2 (slots_no (by kernel_rfl))).trans rfl
            have d0 := hd ⟨0, .data⟩ (by simp) rfl
            rw [valOf_at (d := 49) rfl] at d0
            have d0' : a.tmps[49]?.getD undef = .agg #[.slice va l.length vc, .int .i64 room] := d0
            obtain ⟨u0, u1, u2, u3, hres⟩ := hc.res
            obtain ⟨r0, r1, rf⟩ := two hres
            have rf0 := rf 0
            have rf1 := rf 1
            have HC := hide hc
            have HRX := hide hres
            clear hres rf hc
            go_simp
            exact ⟨(unhide HC).stored _ _, (unhide HC).store (by omega) _ _ _ _, EM.store (unhide HRX) ((unhide HC).stored _ _)⟩
          | 7 =>
            simp at hi
            subst hi
            have d1 := hd ⟨1, .data⟩ (by simp) rfl
            rw [valOf_at (d := 50) rfl] at d1
            have d1' : a.tmps[50]?.getD undef = .slice sa set.length sc := d1
            go_simp
            exact ⟨_, rfl, rfl, hc.next, EM.same _ _ _⟩
          | i + 8 => omega
        · intro a x ha ht hc
          have h1 : a.tmps[3]?.getD undef = .slice sa set.length sc := by have := ht 7 (by omega); rwa [valOf_at (d := 3) rfl] at this
          have res7 : x.heap[w.heap.size]? = some (repoCells (.slice va l.length vc) room) := ht 6 (by omega)
          obtain ⟨ms, mq, mc, h8, hml, hmr⟩ := ht 5 (by omega)
          rw [valOf_at (d := 54) rfl] at h8 hmr
          have hl := ha.list
          simp [slotOf, List.range_succ] at hl
          rw [hl]
          clear hl ha ht
          rw [h8] at hmr
          have V7 := V2.kept (unhide HV12) (fun b t hb h1 h2 => hc.keep b t hb (fun e => h1 (by subst e; exact hb.one ⟨_, unhide HRS12⟩)) h2)
          have B7 := hc.below (unhide HB12) (by omega) (Nat.le_refl _)
          have R7 := hc.row (unhide HRW12) ⟨_, unhide HRS12⟩
          obtain ⟨f3, f4, _⟩ := two res7
          have HFO := hide (And.intro V7 (And.intro B7 (And.intro R7 hmr)))
          clear hc res7 V7 B7 R7 hmr
          rw [h1, h8]
          go_wp2_with fail
          obtain ⟨f1, f2, f5, f6⟩ := unhide HFO
          exact bodyPost_ret (v := .tuple #[.agg #[.slice va l.length vc, .int .i64 room], .slice sa set.length sc, .slice mq ms.length mc]) (by simp [results, Try.results30, go_sem, f3, f4]) rfl ⟨⟨_, _, _, _, rfl, V2.down f1 (by omega), ⟨set, f5, by omega⟩, ms, f6, by omega⟩, f2⟩
      · have hrb : (r12 == 0) = false := by simp [hq]
        obtain ⟨q0, q1, _⟩ := two (unhide HPV12)
        obtain ⟨r0, r1, rf⟩ := two (unhide HRS12)
        have rf0 := rf 0
        have rf1 := rf 1
        have HFO := hide (fin_own (room := room) (unhide HRS12) (unhide HV12) (unhide HB12) (Nat.le_refl _))
        have HA := hide (RowI.repo (unhide HRW12) (unhide HRS12) (.slice va l.length vc) (.int .i64 room))
        have HCt := hide (steps_repo (unhide HST12) (unhide HRS12) (.slice va l.length vc) (.int .i64 room))
        clear rf
        go_wp2_with fail
        obtain ⟨f1, f2, f3, f4⟩ := unhide HFO
        exact bodyPost_ret (v := .tuple #[.agg #[.slice va l.length vc, .int .i64 room], .slice sa set.length sc, .slice (some ⟨qb, 0, none⟩) ss.length qc]) (by simp [results, Try.results30, go_sem, f3, f4]) rfl ⟨⟨_, _, _, _, rfl, V2.down f1 (by omega), ⟨set, unhide HA, by omega⟩, ss.set rn ⟨1 + r8, r9, r10⟩, (by rw [List.length_set]; exact row_base (unhide HCt) (Nat.zero_le _)), by simp; omega⟩, f2⟩
    · have hrb6 : (r6 == 0) = false := by simp [hr]
      go_wp2_with fail
      refine (pick_any (w.heap.size + 1) (w.heap.size + 1) _ 40 _ (unhide HR6) (by omega) (by omega) (by omega)).mono ?_
      rintro e w7 ⟨⟨r7, rfl, hr7a, hr7b⟩, R7, W7⟩
      have hz7 := W7.size
      have HV7 := hide (V2.ev (unhide HV6) (Ev.of_wrote (s := w1.heap.size) (N := 60000) W7))
      have HRS7 := hide (W7.blk (unhide HRS6) repoNotRd)
      have HPV7 := hide (W7.blk (unhide HPV6) repoNotRd)
      have HB7 := hide ((unhide HB6).trans (W7.bel (B' := w.heap.size) (by omega) (by have := (unhide HB6).size; omega)))
      have HRW7 := hide (RowI.wrote (unhide HRW6) W7)
      have HST7 := hide (steps_wrote (unhide HST6) W7)
      have HR7 := hide R7
      clear HV6 HRS6 HPV6 HB6 HRW6 HR6 HST6 R7 W7
      by_cases hq : r7 = 0
      · subst hq
        go_upto_region 8 with fail
        refine wp_region_headE 8 (by kernel_rfl) (by kernel_rfl) (by kernel_rfl) (by kernel_rfl) (by kernel_rfl) (TM w.heap.size (repoCells (.slice va l.length vc) room) (.agg #[.slice va l.length vc, .int .i64 room]) (.slice sa set.length sc) (w.heap.size + 1)) (CD w7 (w.heap.size + 1) (w.heap.size + 1) w.heap.size 400000) (EM w.heap.size (repoCells (.slice va l.length vc) room)) (fun _ _ _ _ h e => TM_on h e) (CD.start ((unhide HR7).more (by omega)) (unhide HRS7)) ?_ ?_
        · intro i o him hi a x n hn ha hc hd
          match i with
          | 0 =>
            simp at hi
            subst hi
            have e6 : a.tmps[6]? = some (.pointer (some ⟨w2.heap.size, 0, none⟩)) := (ha.slot 6 (slots_no (by kernel_rfl))).trans rfl
            obtain ⟨p0, p1, _⟩ := two ((hc.keep _ _ ⟨_, unhide HPV7⟩ (by omega) repoNotRd).trans (unhide HPV7))
            go_simp
            exact ⟨_, rfl, rfl, hc.next, EM.same _ _ _⟩
          | 1 =>
            simp at hi
            subst hi
            have e7 : a.tmps[7]? = some (.slice sa set.length sc) := (ha.slot 7 (slots_no (by kernel_rfl))).trans rfl
            go_simp
            exact ⟨_, rfl, rfl, hc.next, EM.same _ _ _⟩
          | 2 =>
            simp at hi
            subst hi
            have e5 : a.tmps[5]? = some (.pointer (some ⟨w.heap.size + 1, 0, none⟩)) := (ha.slot 5 (slots_no (by kernel_rfl))).trans rfl
            go_simp
            exact ⟨_, rfl, rfl, hc.next, EM.same _ _ _⟩
          | 3 =>
            simp at hi
            subst hi
            have d2 := hd ⟨2, .data⟩ (by simp) rfl
            rw [valOf_at (d := 51) rfl] at d2
            have d2' : a.tmps[51]?.getD undef = .pointer (some ⟨w.heap.size + 1, 0, none⟩) := d2
            go_simp
            refine (pick_any (w.heap.size + 1) (w.heap.size + 1) _ 2 _ hc.rd (by omega) (by omega) (by omega)).mono ?_
            rintro e y ⟨⟨r, rfl, hr0, hr1⟩, hR, hW⟩
            exact ⟨_, rfl, ⟨r, rfl, hr0, hr1⟩, hc.picked hR hW, EM.picked rfl hW⟩
          | 4 =>
            simp at hi
            subst hi
            obtain ⟨r, h3, hr0, hr1⟩ := hd ⟨3, .data⟩ (by simp) rfl
            rw [valOf_at (d := 52) rfl] at h3
            have hwr : IntKind.i64.wrap (300 + r) = 300 + r := by rw [IntKind.wrap_i64]; omega
            go_simp
            exact ⟨_, rfl, ⟨(300 + r).toNat, by show Value.int _ _ = _; rw [Int.toNat_of_nonneg (by omega)], by omega⟩, hc.next, EM.same _ _ _⟩
          | 5 =>
            simp at hi
            subst hi
            obtain ⟨n, h4, hn1⟩ := hd ⟨4, .data⟩ (by simp) rfl
            rw [valOf_at (d := 53) rfl] at h4
            have hmk := make_eq (P := Try.prog) 45 41 _ 3 24 Try.underlying45 Try.cellsStepZ n (by omega) (by omega)
            go_simp
            refine ⟨_, rfl, ?_, hc.alloc _, EM.alloc _ _ _ _⟩
            refine ⟨List.replicate n ⟨0, 0, 0⟩, some ⟨x.heap.size, 0, none⟩, n, by simp, by simp; omega, ?_⟩
            have hl : (List.replicate n (⟨0, 0, 0⟩ : StepD)).length = n := by simp
            rw [hl]
            exact row_base (steps_made x n (by omega)) (Nat.zero_le _)
          | 6 =>
            simp at hi
            subst hi
            have e2 : a.tmps[2]? = some (.pointer (some ⟨w.heap.size, 0, none⟩)) := (ha.slot 2 (slots_no (by kernel_rfl))).trans rfl
            have d0 := hd ⟨0, .data⟩ (by simp) rfl
            rw [valOf_at (d := 49) rfl] at d0
            have d0' : a.tmps[49]?.getD undef = .agg #[.slice va l.length vc, .int .i64 room] := d0
            obtain ⟨u0, u1, u2, u3, hres⟩ := hc.res
            obtain ⟨r0, r1, rf⟩ := two hres
            have rf0 := rf 0
            have rf1 := rf 1
            have HC := hide hc
            have HRX := hide hres
            clear hres rf hc
            go_simp
            exact ⟨(unhide HC).stored _ _, (unhide HC).store (by omega) _ _ _ _, EM.store (unhide HRX) ((unhide HC).stored _ _)⟩
          | 7 =>
            simp at hi
            subst hi
            have d1 := hd ⟨1, .data⟩ (by simp) rfl
            rw [valOf_at (d := 50) rfl] at d1
            have d1' : a.tmps[50]?.getD undef = .slice sa set.length sc := d1
            go_simp
            exact ⟨_, rfl, rfl, hc.next, EM.same _ _ _⟩
          | i + 8 => omega
        · intro a x ha ht hc
          have h1 : a.tmps[3]?.getD undef = .slice sa set.length sc := by have := ht 7 (by omega); rwa [valOf_at (d := 3) rfl] at this
          have res7 : x.heap[w.heap.size]? = some (repoCells (.slice va l.length vc) room) := ht 6 (by omega)
          obtain ⟨ms, mq, mc, h8, hml, hmr⟩ := ht 5 (by omega)
          rw [valOf_at (d := 54) rfl] at h8 hmr
          have hl := ha.list
          simp [slotOf, List.range_succ] at hl
          rw [hl]
          clear hl ha ht
          rw [h8] at hmr
          have V7 := V2.kept (unhide HV7) (fun b t hb h1 h2 => hc.keep b t hb (fun e => h1 (by subst e; exact hb.one ⟨_, unhide HRS7⟩)) h2)
          have B7 := hc.below (unhide HB7) (by omega) (Nat.le_refl _)
          have R7 := hc.row (unhide HRW7) ⟨_, unhide HRS7⟩
          obtain ⟨f3, f4, _⟩ := two res7
          have HFO := hide (And.intro V7 (And.intro B7 (And.intro R7 hmr)))
          clear hc res7 V7 B7 R7 hmr
          rw [h1, h8]
          go_wp2_with fail
          obtain ⟨f1, f2, f5, f6⟩ := unhide HFO
          exact bodyPost_ret (v := .tuple #[.agg #[.slice va l.length vc, .int .i64 room], .slice sa set.length sc, .slice mq ms.length mc]) (by simp [results, Try.results30, go_sem, f3, f4]) rfl ⟨⟨_, _, _, _, rfl, V2.down f1 (by omega), ⟨set, f5, by omega⟩, ms, f6, by omega⟩, f2⟩
      · have hrb : (r7 == 0) = false := by simp [hq]
        obtain ⟨q0, q1, _⟩ := two (unhide HPV7)
        obtain ⟨r0, r1, rf⟩ := two (unhide HRS7)
        have rf0 := rf 0
        have rf1 := rf 1
        have HFO := hide (fin_own (room := room) (unhide HRS7) (unhide HV7) (unhide HB7) (Nat.le_refl _))
        have HA := hide (RowI.repo (unhide HRW7) (unhide HRS7) (.slice va l.length vc) (.int .i64 room))
        have HCt := hide (steps_repo (unhide HST7) (unhide HRS7) (.slice va l.length vc) (.int .i64 room))
        clear rf
        go_wp2_with fail
        obtain ⟨f1, f2, f3, f4⟩ := unhide HFO
        exact bodyPost_ret (v := .tuple #[.agg #[.slice va l.length vc, .int .i64 room], .slice sa set.length sc, .slice qa ss.length qc]) (by simp [results, Try.results30, go_sem, f3, f4]) rfl ⟨⟨_, _, _, _, rfl, V2.down f1 (by omega), ⟨set, unhide HA, by omega⟩, ss, (row_base (unhide HCt) (Nat.zero_le _)), by omega⟩, f2⟩
  · have hg : ¬ (0 : Int) < (ss.length : Int) := by omega
    go_wp2_with fail
    refine (pick_any (w.heap.size + 1) (w.heap.size + 1) _ 40 _ (unhide HR5) (by omega) (by omega) (by omega)).mono ?_
    rintro e w6 ⟨⟨r6, rfl, hr6a, hr6b⟩, R6, W6⟩
    have hz6 := W6.size
    have HV6 := hide (V2.ev (unhide HV5) (Ev.of_wrote (s := w1.heap.size) (N := 60000) W6))
    have HRS6 := hide (W6.blk (unhide HRS5) repoNotRd)
    have HPV6 := hide (W6.blk (unhide HPV5) repoNotRd)
    have HB6 := hide ((unhide HB5).trans (W6.bel (B' := w.heap.size) (by omega) (by have := (unhide HB5).size; omega)))
    have HRW6 := hide (RowI.wrote (unhide HRW5) W6)
    have HST6 := hide (steps_wrote (unhide HST5) W6)
    have HR6 := hide R6
    clear HV5 HRS5 HPV5 HB5 HRW5 HR5 HST5 R6 W6
    by_cases hq : r6 = 0
    · subst hq
      go_upto_region 8 with fail
      refine wp_region_headE 8 (by kernel_rfl) (by kernel_rfl) (by kernel_rfl) (by kernel_rfl) (by kernel_rfl) (TM w.heap.size (repoCells (.slice va l.length vc) room) (.agg #[.slice va l.length vc, .int .i64 room]) (.slice sa set.length sc) (w.heap.size + 1)) (CD w6 (w.heap.size + 1) (w.heap.size + 1) w.heap.size 400000) (EM w.heap.size (repoCells (.slice va l.length vc) room)) (fun _ _ _ _ h e => TM_on h e) (CD.start ((unhide HR6).more (by omega)) (unhide HRS6)) ?_ ?_
      · intro i o him hi a x n hn ha hc hd
        match i with
        | 0 =>
          simp at hi
          subst hi
          have e6 : a.tmps[6]? = some (.pointer (some ⟨w2.heap.size, 0, none⟩)) := (ha.slot 6 (slots_no (by kernel_rfl))).trans rfl
          obtain ⟨p0, p1, _⟩ := two ((hc.keep _ _ ⟨_, unhide HPV6⟩ (by omega) repoNotRd).trans (unhide HPV6))
          go_simp
          exact ⟨_, rfl, rfl, hc.next, EM.same _ _ _⟩
        | 1 =>
          simp at hi
          subst hi
          have e7 : a.tmps[7]? = some (.slice sa set.length sc) := (ha.slot 7 (slots_no (by kernel_rfl))).trans rfl
          go_simp
          exact ⟨_, rfl, rfl, hc.next, EM.same _ _ _⟩
        | 2 =>
          simp at hi
          subst hi
          have e5 : a.tmps[5]? = some (.pointer (some ⟨w.heap.size + 1, 0, none⟩)) := (ha.slot 5 (slots_no (by kernel_rfl))).trans rfl
          go_simp
          exact ⟨_, rfl, rfl, hc.next, EM.same _ _ _⟩
        | 3 =>
          simp at hi
          subst hi
          have d2 := hd ⟨2, .data⟩ (by simp) rfl
          rw [valOf_at (d := 51) rfl] at d2
          have d2' : a.tmps[51]?.getD undef = .pointer (some ⟨w.heap.size + 1, 0, none⟩) := d2
          go_simp
          refine (pick_any (w.heap.size + 1) (w.heap.size + 1) _ 2 _ hc.rd (by omega) (by omega) (by omega)).mono ?_
          rintro e y ⟨⟨r, rfl, hr0, hr1⟩, hR, hW⟩
          exact ⟨_, rfl, ⟨r, rfl, hr0, hr1⟩, hc.picked hR hW, EM.picked rfl hW⟩
        | 4 =>
          simp at hi
          subst hi
          obtain ⟨r, h3, hr0, hr1⟩ := hd ⟨3, .data⟩ (by simp) rfl
          rw [valOf_at (d := 52) rfl] at h3
          have hwr : IntKind.i64.wrap (300 + r) = 300 + r := by rw [IntKind.wrap_i64]; omega
          go_simp
          exact ⟨_, rfl, ⟨(300 + r).toNat, by show Value.int _ _ = _; rw [Int.toNat_of_nonneg (by omega)], by omega⟩, hc.next, EM.same _ _ _⟩
        | 5 =>
          simp at hi
          subst hi
          obtain ⟨n, h4, hn1⟩ := hd ⟨4, .data⟩ (by simp) rfl
          rw [valOf_at (d := 53) rfl] at h4
          have hmk := make_eq (P := Try.prog) 45 41 _ 3 24 Try.underlying45 Try.cellsStepZ n (by omega) (by omega)
          go_simp
          refine ⟨_, rfl, ?_, hc.alloc _, EM.alloc _ _ _ _⟩
          refine ⟨List.replicate n ⟨0, 0, 0⟩, some ⟨x.heap.size, 0, none⟩, n, by simp, by simp; omega, ?_⟩
          have hl : (List.replicate n (⟨0, 0, 0⟩ : StepD)).length = n := by simp
          rw [hl]
          exact row_base (steps_made x n (by omega)) (Nat.zero_le _)
        | 6 =>
          simp at hi
          subst hi
          have e2 : a.tmps[2]? = some (.pointer (some ⟨w.heap.size, 0, none⟩)) := (ha.slot 2 (slots_no (by kernel_rfl))).trans rfl
          have d0 := hd ⟨0, .data⟩ (by simp) rfl
          rw [valOf_at (d := 49) rfl] at d0
          have d0' : a.tmps[49]?.getD undef = .agg #[.slice va l.length vc, .int .i64 room] := d0
          obtain ⟨u0, u1, u2, u3, hres⟩ := hc.res
          obtain ⟨r0, r1, rf⟩ := two hres
          have rf0 := rf 0
          have rf1 := rf 1
          have HC := hide hc
          have HRX := hide hres
          clear hres rf hc
          go_simp
          exact ⟨(unhide HC).stored _ _, (unhide HC).store (by omega) _ _ _ _, EM.store (unhide HRX) ((unhide HC).stored _ _)⟩
        | 7 =>
          simp at hi
          subst hi
          have d1 := hd ⟨1, .data⟩ (by simp) rfl
          rw [valOf_at (d := 50) rfl] at d1
          have d1' : a.tmps[50]?.getD undef = .slice sa set.length sc := d1
          go_simp
          exact ⟨_, rfl, rfl, hc.next, EM.same _ _ _⟩
        | i + 8 => omega
      · intro a x ha ht hc
        have h1 : a.tmps[3]?.getD undef = .slice sa set.length sc := by have := ht 7 (by omega); rwa [valOf_at (d := 3) rfl] at this
        have res7 : x.heap[w.heap.size]? = some (repoCells (.slice va l.length vc) room) := ht 6 (by omega)
        obtain ⟨ms, mq, mc, h8, hml, hmr⟩ := ht 5 (by omega)
        rw [valOf_at (d := 54) rfl] at h8 hmr
        have hl := ha.list
        simp [slotOf, List.range_succ] at hl
        rw [hl]
        clear hl ha ht
        rw [h8] at hmr
        have V7 := V2.kept (unhide HV6) (fun b t hb h1 h2 => hc.keep b t hb (fun e => h1 (by subst e; exact hb.one ⟨_, unhide HRS6⟩)) h2)
        have B7 := hc.below (unhide HB6) (by omega) (Nat.le_refl _)
        have R7 := hc.row (unhide HRW6) ⟨_, unhide HRS6⟩
        obtain ⟨f3, f4, _⟩ := two res7
        have HFO := hide (And.intro V7 (And.intro B7 (And.intro R7 hmr)))
        clear hc res7 V7 B7 R7 hmr
        rw [h1, h8]
        go_wp2_with fail
        obtain ⟨f1, f2, f5, f6⟩ := unhide HFO
        exact bodyPost_ret (v := .tuple #[.agg #[.slice va l.length vc, .int .i64 room], .slice sa set.length sc, .slice mq ms.length mc]) (by simp [results, Try.results30, go_sem, f3, f4]) rfl ⟨⟨_, _, _, _, rfl, V2.down f1 (by omega), ⟨set, f5, by omega⟩, ms, f6, by omega⟩, f2⟩
    · have hrb : (r6 == 0) = false := by simp [hq]
      obtain ⟨q0, q1, _⟩ := two (unhide HPV6)
      obtain ⟨r0, r1, rf⟩ := two (unhide HRS6)
      have rf0 := rf 0
      have rf1 := rf 1
      have HFO := hide (fin_own (room := room) (unhide HRS6) (unhide HV6) (unhide HB6) (Nat.le_refl _))
      have HA := hide (RowI.repo (unhide HRW6) (unhide HRS6) (.slice va l.length vc) (.int .i64 room))
      have HCt := hide (steps_repo (unhide HST6) (unhide HRS6) (.slice va l.length vc) (.int .i64 room))
      clear rf
      go_wp2_with fail
      obtain ⟨f1, f2, f3, f4⟩ := unhide HFO
      exact bodyPost_ret (v := .tuple #[.agg #[.slice va l.length vc, .int .i64 room], .slice sa set.length sc, .slice qa ss.length qc]) (by simp [results, Try.results30, go_sem, f3, f4]) rfl ⟨⟨_, _, _, _, rfl, V2.down f1 (by omega), ⟨set, unhide HA, by omega⟩, ss, (row_base (unhide HCt) (Nat.zero_le _)), by omega⟩, f2⟩
end Go.Proofs.Ythkhaemlcmkkjao
