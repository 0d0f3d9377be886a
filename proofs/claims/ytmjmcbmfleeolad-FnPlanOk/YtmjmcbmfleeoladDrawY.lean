/- DrawPlanOk: the drawn packs, two drawn states and drawn steps. -/
import Derived.Test.YtmjmcbmfleeoladDrawX
namespace Go.Proofs.Ytmjmcbmfleeolad
set_option linter.unusedVariables false
set_option linter.unusedSimpArgs false
open Go.RowKit Go.Deep

theorem set_drawn {B rb s n cap : Nat} {m : Int} {w : World} {a : Option Addr} (room : Int) (hV : V2 s w 60000 (.slice a n cap)) (hn : n ≤ 70000) (h : Rd B w rb m) (hm : m ≤ 500000) :
    Calls Try.prog 28 #[.pointer (some ⟨rb, 0, none⟩), .agg #[.slice a n cap, .int .i64 room]] w fun e w' => (∃ v, e = .returned v ∧ ∃ set, RowI 0 w' v set ∧ set.length ≤ 100000) ∧ Rd B w' rb (m + 80000) ∧ Wrote B isRd w w' := by
  obtain ⟨l4, hl4, hP4⟩ := V2.packs hV
  rw [← hl4]
  exact l71Set_V B rb m a l4 cap room w h hm hP4 (by omega)
theorem steps_repo {B : Nat} {w : World} {v u0 u1 : Value} {n : Nat} {xs : List Value} {rs : Nat} (h : w.ownsRow B 28 3 v n xs) (hres : w.heap[rs]? = some (.cells #[u0, u1] 25 (0, 0))) (a b : Value) : ((w.setCell ⟨rs, 0, none⟩ a).setCell ⟨rs, 1, none⟩ b).ownsRow B 28 3 v n xs := by
  obtain ⟨h1, h2⟩ := h
  refine ⟨h1, h2.imp id ?_⟩
  rintro ⟨g, cap, cur, hv, hg, hc, r⟩
  have hne : g ≠ rs := fun e => by subst e; rw [hres] at hc; simp at hc
  exact ⟨g, cap, cur, hv, hg, ((blk_setCell_other _ _ _ _ hne).trans (blk_setCell_other _ _ _ _ hne)).trans hc, r⟩
/-- What DrawPlanOk answers. -/
def DrawnPlan (w w' : World) (e : Ending) : Prop := ∃ (v : Value) (room : Int) (u to_ q : Value), e = .returned (.tuple #[.agg #[v, .int .i64 room], u, to_, q]) ∧ V2 w.heap.size w' 60000 v ∧ (∃ set, RowI 0 w' u set ∧ set.length ≤ 200002) ∧ (∃ set, RowI 0 w' to_ set ∧ set.length ≤ 300000) ∧ ∃ ss : List StepD, w'.ownsRow 0 28 3 q ss.length (stepVs ss) ∧ ss.length ≤ 100

set_option maxRecDepth 10000 in
set_option maxHeartbeats 8000000 in
theorem DrawPlanOk_V (a : Option Addr) (n c : Nat) (w : World) (h : CodeAt w.heap.size w a n) (hn : n ≤ 1048576) (hc : n ≤ c) (hc2 : c ≤ maxLen) :
    Calls Try.prog 23 #[.slice a n c] w fun e w' => DrawnPlan w w' e ∧ Below w.heap.size w w' := by
  have b0 := (Below.refl w.heap.size w).alloc (Nat.le_refl _) (.cells #[.slice none 0 0, .int .i64 0] 25)
  have hcode := h.below b0 (Nat.le_refl _)
  have HF0 := hide (show (w.alloc (.cells #[.slice none 0 0, .int .i64 0] 25)).heap[w.heap.size]? = some (repoCells (.slice none 0 0) 0) from blk_alloc_new _ _)
  go_enter Try.func23, Try.ntmps23
  go_wp2_with fail
  refine (l6Open_any a n c _ hcode hn hc hc2).mono ?_
  rintro e w1 ⟨rfl, R1, b1⟩
  simp only [nblk_alloc] at R1 b1
  have hz1 := b1.size
  simp at hz1
  have res1 := (b1.block w.heap.size (by omega)).trans (unhide HF0)
  have B1 : Below w.heap.size w w1 := b0.trans (b1.mono (by omega))
  have hrl := R1.lt
  clear b0 b1 hcode HF0
  go_wp2_with fail
  refine (l71Any_V (w.heap.size + 1) (w.heap.size + 1) 0 6 _ R1 (by omega) (by omega)).mono ?_
  rintro e w2 ⟨⟨v, room, rfl, hV⟩, R2, W2⟩
  obtain ⟨va, vn, vc, rfl, _, hvN, _⟩ := SlBy.slice hV
  have hz2 := W2.size
  have res2 := W2.blk res1 repoNotRd
  have B2 := B1.trans (W2.bel (B' := w.heap.size) (by omega) (by omega))
  have bp := (Below.refl w2.heap.size w2).alloc (Nat.le_refl _) (.cells #[.slice va vn vc, .int .i64 room] 25)
  have pv2 : (w2.alloc (.cells #[.slice va vn vc, .int .i64 room] 25)).heap[w2.heap.size]? = some (repoCells (.slice va vn vc) room) := blk_alloc_new _ _
  have res3 := (bp.block w.heap.size (by omega)).trans res2
  have R3 := R2.below bp
  have V3 := V2.ev hV (Ev.of_below (B := 0) (s := w1.heap.size) (N := 60000) bp)
  have B3 := B2.trans (bp.mono (by omega))
  obtain ⟨l, hll, hP3⟩ := V2.packs V3
  subst hll
  have HR3 := hide R3
  have HV3 := hide V3
  have HB3 := hide B3
  have HRS3 := hide res3
  have HPV3 := hide pv2
  have HP3 := hide hP3
  have hz3 : w2.heap.size < (w2.alloc (.cells #[.slice va l.length vc, .int .i64 room] 25)).heap.size := by simp
  clear R1 W2 res1 B1 hV R2 res2 B2 bp pv2 res3 R3 V3 B3 hP3
  go_wp2_with fail
  generalize hw3 : w2.alloc (.cells #[.slice va l.length vc, .int .i64 room] 25) = w3 at HR3 HV3 HB3 HRS3 HPV3 HP3 hz3 ⊢
  clear hw3
  refine (l71Set_V (w.heap.size + 1) (w.heap.size + 1) _ va l vc room w3 (unhide HR3) (by omega) (unhide HP3) (by omega)).mono ?_
  rintro e w4 ⟨⟨u, rfl, set, hrow, hsl⟩, R4, W4⟩
  have hz4 := W4.size
  have HV4 := hide (V2.ev (unhide HV3) (Ev.of_wrote (s := w1.heap.size) (N := 60000) W4))
  have HRS4 := hide (W4.blk (unhide HRS3) repoNotRd)
  have HPV4 := hide (W4.blk (unhide HPV3) repoNotRd)
  have HB4 := hide ((unhide HB3).trans (W4.bel (B' := w.heap.size) (by omega) (by have := (unhide HB3).size; omega)))
  have HRW4 := hide hrow
  have HR4 := hide R4
  obtain ⟨sa, sc, hu, _⟩ := RowI.set hrow (by omega)
  subst hu
  clear hrow R4 W4 HR3 HV3 HB3 HRS3 HPV3 HP3
  have hwz := (unhide HB4).size
  obtain ⟨p0, p1, _⟩ := two (unhide HPV4)
  have HWK := hide (l71Walk_V (w.heap.size + 1) (w.heap.size + 1) w1.heap.size _ 5 va l.length vc room sa set sc w4 (unhide HR4) (by omega) (by omega) (unhide HV4) (unhide HRW4) (by omega))
  go_wp2_with fail
  refine (unhide HWK).mono ?_
  rintro e w5 ⟨⟨v5, u5, ss, cur, rfl, hst5, hss, hcu5, hcl⟩, R5, W5⟩
  have hz5 := W5.size
  have HV5 := hide (V2.ev (unhide HV4) (Ev.of_wrote (s := w1.heap.size) (N := 60000) W5))
  have HRS5 := hide (W5.blk (unhide HRS4) repoNotRd)
  have HPV5 := hide (W5.blk (unhide HPV4) repoNotRd)
  have HB5 := hide ((unhide HB4).trans (W5.bel (B' := w.heap.size) (by omega) (by have := (unhide HB4).size; omega)))
  have HRW5 := hide (RowI.wrote (unhide HRW4) W5)
  have HR5 := hide R5
  have HST5 := hide (row_base hst5 (Nat.zero_le _))
  have HCU5 := hide hcu5
  obtain ⟨ca, cc, hcv, _⟩ := RowI.set hcu5 (by omega)
  subst hcv
  clear HV4 HRS4 HPV4 HB4 HRW4 HR4 R5 W5 p0 p1 hst5 hcu5 HWK
  obtain ⟨qa, qc, hqv⟩ : ∃ qa qc, v5 = .slice qa ss.length qc := by
    rcases (unhide HST5).2 with ⟨hv, h0⟩ | ⟨g, cap, cur, hv, _⟩
    · exact ⟨none, 0, by rw [hv, h0]⟩
    · exact ⟨_, _, hv⟩
  subst hqv
  go_wp2_with fail
  refine (pick_any (w.heap.size + 1) (w.heap.size + 1) _ 3 _ (unhide HR5) (by omega) (by omega) (by omega)).mono ?_
  rintro e w6 ⟨⟨r, rfl, hr0, hr1⟩, R6, W6⟩
  have hz6 := W6.size
  have HV6 := hide (V2.ev (unhide HV5) (Ev.of_wrote (s := w1.heap.size) (N := 60000) W6))
  have HRS6 := hide (W6.blk (unhide HRS5) repoNotRd)
  have HPV6 := hide (W6.blk (unhide HPV5) repoNotRd)
  have HB6 := hide ((unhide HB5).trans (W6.bel (B' := w.heap.size) (by omega) (by have := (unhide HB5).size; omega)))
  have HRW6 := hide (RowI.wrote (unhide HRW5) W6)
  have HST6 := hide (steps_wrote (unhide HST5) W6)
  have HCU6 := hide (RowI.wrote (unhide HCU5) W6)
  have HR6 := hide R6
  clear HV5 HRS5 HPV5 HB5 HRW5 HR5 HST5 HCU5 R6 W6
  by_cases hr : r = 0
  · subst hr
    obtain ⟨p0, p1, _⟩ := two (unhide HPV6)
    have HSD := hide (set_drawn room (unhide HV6) (by omega) (unhide HR6) (by omega))
    go_wp2_with fail
    refine (unhide HSD).mono ?_
    rintro e w7 ⟨⟨u7, rfl, set7, hrow7, hsl7⟩, R7, W7⟩
    obtain ⟨ta, tc, htv, _⟩ := RowI.set hrow7 (by omega)
    subst htv
    have HV7 := hide (V2.ev (unhide HV6) (Ev.of_wrote (s := w1.heap.size) (N := 60000) W7))
    have res7 := W7.blk (unhide HRS6) repoNotRd
    have HPV7 := hide (W7.blk (unhide HPV6) repoNotRd)
    have B7 := (unhide HB6).trans (W7.bel (B' := w.heap.size) (by omega) (by have := (unhide HB6).size; omega))
    obtain ⟨q0, q1, _⟩ := two (unhide HPV7)
    obtain ⟨r0, r1, rf⟩ := two res7
    have rf0 := rf 0
    have rf1 := rf 1
    have HFO := hide (fin_own (room := room) res7 (unhide HV7) B7 (Nat.le_refl _))
    have HA := hide (RowI.repo (RowI.wrote (unhide HRW6) W7) res7 (.slice va l.length vc) (.int .i64 room))
    have HBt := hide (RowI.repo hrow7 res7 (.slice va l.length vc) (.int .i64 room))
    have HCt := hide (steps_repo (steps_wrote (unhide HST6) W7) res7 (.slice va l.length vc) (.int .i64 room))
    clear rf p0 p1 R7 W7 res7 B7 hrow7 HSD
    go_wp2_with fail
    obtain ⟨f1, f2, f3, f4⟩ := unhide HFO
    exact bodyPost_ret (v := .tuple #[.agg #[.slice va l.length vc, .int .i64 room], .slice sa set.length sc, .slice ta set7.length tc, .slice qa ss.length qc]) (by simp [results, Try.results23, go_sem, f3, f4]) rfl ⟨⟨_, _, _, _, _, rfl, V2.down f1 (by omega), ⟨set, unhide HA, by omega⟩, ⟨set7, unhide HBt, by omega⟩, ss, unhide HCt, by omega⟩, f2⟩
  · have hrb : (r == 0) = false := by simp [hr]
    obtain ⟨q0, q1, _⟩ := two (unhide HPV6)
    obtain ⟨r0, r1, rf⟩ := two (unhide HRS6)
    have rf0 := rf 0
    have rf1 := rf 1
    have HFO := hide (fin_own (room := room) (unhide HRS6) (unhide HV6) (unhide HB6) (Nat.le_refl _))
    have HA := hide (RowI.repo (unhide HRW6) (unhide HRS6) (.slice va l.length vc) (.int .i64 room))
    have HBt := hide (RowI.repo (unhide HCU6) (unhide HRS6) (.slice va l.length vc) (.int .i64 room))
    have HCt := hide (steps_repo (unhide HST6) (unhide HRS6) (.slice va l.length vc) (.int .i64 room))
    clear rf
    go_wp2_with fail
    obtain ⟨f1, f2, f3, f4⟩ := unhide HFO
    exact bodyPost_ret (v := .tuple #[.agg #[.slice va l.length vc, .int .i64 room], .slice sa set.length sc, .slice ca cur.length cc, .slice qa ss.length qc]) (by simp [results, Try.results23, go_sem, f3, f4]) rfl ⟨⟨_, _, _, _, _, rfl, V2.down f1 (by omega), ⟨set, unhide HA, by omega⟩, ⟨cur, unhide HBt, by omega⟩, ss, unhide HCt, by omega⟩, f2⟩
end Go.Proofs.Ytmjmcbmfleeolad
