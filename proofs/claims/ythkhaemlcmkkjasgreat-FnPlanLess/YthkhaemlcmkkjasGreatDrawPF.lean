/- DrawPlanFind: the drawn packs and two drawn states. -/
import Derived.Test.YthkhaemlcmkkjasGreatGDx
import Derived.Test.YthkhaemlcmkkjasGreatGRn
namespace Go.Proofs.YthkhaemlcmkkjasGreat
set_option linter.unusedVariables false
set_option linter.unusedSimpArgs false
open Go.RowKit Go.Deep

/-- What DrawPlanFind answers. -/
def DrawnTwo (w w' : World) (e : Ending) : Prop := ∃ (v : Value) (room : Int) (u to_ : Value), e = .returned (.tuple #[.agg #[v, .int .i64 room], u, to_]) ∧ V2 w.heap.size w' 60000 v ∧ (∃ set, RowI 0 w' u set ∧ set.length ≤ 200002) ∧ (∃ set, RowI 0 w' to_ set ∧ set.length ≤ 300000)
/-- The class of worlds: ahead of l71Set nothing that was there is written; behind it the reader alone; then the packs are stored. -/
structure CP (W : World) (B rs : Nat) (v0 v1 : Value) (b : Bool) (us : List Value) (x : World) : Prop where
  len : us.length ≤ 2
  ahead : us = [] → Below W.heap.size W x
  wrote : us.length ≤ 1 → Wrote B isRd W x
  row : ∀ y, us = [y] → ∃ s, RowI 0 x y s ∧ s.length ≤ 200002
  done : ∀ y u, us = [y, u] → ∃ x0, x = (x0.setCell ⟨rs, 0, none⟩ v0).setCell ⟨rs, 1, none⟩ v1 ∧ Wrote B isRd W x0 ∧ ∃ s, RowI 0 x0 y s ∧ s.length ≤ 200002
theorem CP.flag {W : World} {B rs : Nat} {v0 v1 : Value} {b b' : Bool} {us : List Value} {x : World} (h : CP W B rs v0 v1 b us x) : CP W B rs v0 v1 b' us x := ⟨h.len, h.ahead, h.wrote, h.row, h.done⟩
theorem CP.blk {W : World} {B rs pb : Nat} {v0 v1 c0 c1 : Value} {b : Bool} {us : List Value} {x : World} (h : CP W B rs v0 v1 b us x) (hp : W.heap[pb]? = some (.cells #[c0, c1] 25 (0, 0))) (hne : pb ≠ rs) : x.heap[pb]? = some (.cells #[c0, c1] 25 (0, 0)) := by
  match us, h with
  | [], h => exact (h.wrote (by simp)).blk hp repoNotRd
  | [y], h => exact (h.wrote (by simp)).blk hp repoNotRd
  | [y, u], h =>
    obtain ⟨x0, rfl, hw, _⟩ := h.done y u rfl
    exact ((blk_setCell_other _ _ _ _ hne).trans (blk_setCell_other _ _ _ _ hne)).trans (hw.blk hp repoNotRd)
  | _ :: _ :: _ :: _, h => exact absurd h.len (by simp)

set_option maxRecDepth 100000 in
set_option maxHeartbeats 8000000 in
theorem DrawPlanFind_V (a : Option Addr) (n c : Nat) (w : World) (h : CodeAt w.heap.size w a n) (hn : n ≤ 1048576) (hc : n ≤ c) (hc2 : c ≤ maxLen) :
    Calls Tryz.prog 4 #[.slice a n c] w fun e w' => DrawnTwo w w' e ∧ Below w.heap.size w w' := by
  have b0 := (Below.refl w.heap.size w).alloc (Nat.le_refl _) (.cells #[.slice none 0 0, .int .i64 0] 25)
  have hcode := h.below b0 (Nat.le_refl _)
  have HF0 := hide (show (w.alloc (.cells #[.slice none 0 0, .int .i64 0] 25)).heap[w.heap.size]? = some (repoCells (.slice none 0 0) 0) from blk_alloc_new _ _)
  go_enter Tryz.func4, Tryz.ntmps4
  go_wp2_with fail
  refine (l6Open_any a n c _ hcode hn hc hc2).mono ?_
  rintro e w1 ⟨rfl, R1, b1⟩
  simp only [nblk_alloc] at R1 b1
  have hz1 := b1.size
  simp at hz1
  have res1 := (b1.block w.heap.size (by omega)).trans (unhide HF0)
  have B1 : Below w.heap.size w w1 := b0.trans (b1.mono (by omega))
  have hrl := R1.lt
  clear b0 b1 hcode HF0
  go_wp2_with fail
  refine (l71Any_V (w.heap.size + 1) (w.heap.size + 1) 0 6 _ R1 (by omega) (by omega)).mono ?_
  rintro e w2 ⟨⟨v, room, rfl, hV⟩, R2, W2⟩
  obtain ⟨va, vn, vc, rfl, _, hvN, _⟩ := SlBy.slice hV
  have hz2 := W2.size
  have res2 := W2.blk res1 repoNotRd
  have B2 := B1.trans (W2.bel (B' := w.heap.size) (by omega) (by omega))
  have bp := (Below.refl w2.heap.size w2).alloc (Nat.le_refl _) (.cells #[.slice va vn vc, .int .i64 room] 25)
  have pv2 : (w2.alloc (.cells #[.slice va vn vc, .int .i64 room] 25)).heap[w2.heap.size]? = some (repoCells (.slice va vn vc) room) := blk_alloc_new _ _
  have res3 := (bp.block w.heap.size (by omega)).trans res2
  have R3 := R2.below bp
  have V3 := V2.ev hV (Ev.of_below (B := 0) (s := w1.heap.size) (N := 60000) bp)
  have B3 := B2.trans (bp.mono (by omega))
  obtain ⟨l, hll, hP3⟩ := V2.packs V3
  subst hll
  have HR3 := hide R3
  have HV3 := hide V3
  have HB3 := hide B3
  have HRS3 := hide res3
  have HPV3 := hide pv2
  have HP3 := hide hP3
  have hz3 : w2.heap.size < (w2.alloc (.cells #[.slice va l.length vc, .int .i64 room] 25)).heap.size := by simp
  clear R1 W2 res1 B1 hV R2 res2 B2 bp pv2 res3 R3 V3 B3 hP3
  go_wp2_with fail
  generalize hw3 : w2.alloc (.cells #[.slice va l.length vc, .int .i64 room] 25) = w3 at HR3 HV3 HB3 HRS3 HPV3 HP3 hz3 ⊢
  clear hw3
  refine (l71Set_V (w.heap.size + 1) (w.heap.size + 1) _ va l vc room w3 (unhide HR3) (by omega) (unhide HP3) (by omega)).mono ?_
  rintro e w4 ⟨⟨u, rfl, set, hrow, hsl⟩, R4, W4⟩
  have hz4 := W4.size
  have HV4 := hide (V2.ev (unhide HV3) (Ev.of_wrote (s := w1.heap.size) (N := 60000) W4))
  have HRS4 := hide (W4.blk (unhide HRS3) repoNotRd)
  have HPV4 := hide (W4.blk (unhide HPV3) repoNotRd)
  have HB4 := hide ((unhide HB3).trans (W4.bel (B' := w.heap.size) (by omega) (by have := (unhide HB3).size; omega)))
  have HRW4 := hide hrow
  have HR4 := hide R4
  obtain ⟨sa, sc, hu, _⟩ := RowI.set hrow (by omega)
  subst hu
  clear hrow R4 W4 HR3 HV3 HB3 HRS3 HPV3 HP3
  have hwz := (unhide HB4).size
  go_wp2_with fail
  refine (pick_any (w.heap.size + 1) (w.heap.size + 1) _ 3 _ (unhide HR4) (by omega) (by omega) (by omega)).mono ?_
  rintro e w5 ⟨⟨r, rfl, hr0, hr1⟩, R5, W5⟩
  have hz5 := W5.size
  have HV5 := hide (V2.ev (unhide HV4) (Ev.of_wrote (s := w1.heap.size) (N := 60000) W5))
  have HRS5 := hide (W5.blk (unhide HRS4) repoNotRd)
  have HPV5 := hide (W5.blk (unhide HPV4) repoNotRd)
  have HB5 := hide ((unhide HB4).trans (W5.bel (B' := w.heap.size) (by omega) (by have := (unhide HB4).size; omega)))
  have HRW5 := hide (RowI.wrote (unhide HRW4) W5)
  have HR5 := hide R5
  clear HV4 HRS4 HPV4 HB4 HRW4 HR4 R5 W5
  by_cases hr : r = 0
  · subst hr
    obtain ⟨p0, p1, _⟩ := two (unhide HPV5)
    have HWK := hide (l71Walk_V (w.heap.size + 1) (w.heap.size + 1) w1.heap.size _ 8 va l.length vc room sa set sc w5 (unhide HR5) (by omega) (by omega) (unhide HV5) (unhide HRW5) (by omega))
    go_wp2_with fail
    refine (unhide HWK).mono ?_
    rintro e w6 ⟨⟨v6, u6, ss, cur, rfl, hst6, hss, hcu6, hcl⟩, R6, W6⟩
    have HV6 := hide (V2.ev (unhide HV5) (Ev.of_wrote (s := w1.heap.size) (N := 60000) W6))
    have res6 := W6.blk (unhide HRS5) repoNotRd
    have HPV6 := hide (W6.blk (unhide HPV5) repoNotRd)
    have B6 := (unhide HB5).trans (W6.bel (B' := w.heap.size) (by omega) (by have := (unhide HB5).size; omega))
    obtain ⟨ca, cc, hcv, _⟩ := RowI.set hcu6 (by omega)
    subst hcv
    obtain ⟨qa, qn, qc, hqv⟩ : ∃ qa qn qc, v6 = .slice qa qn qc := by
      rcases hst6.2 with ⟨hv, h0⟩ | ⟨g, cap, cur, hv, _⟩
      · exact ⟨none, 0, 0, hv⟩
      · exact ⟨_, _, _, hv⟩
    subst hqv
    obtain ⟨q0, q1, _⟩ := two (unhide HPV6)
    obtain ⟨r0, r1, rf⟩ := two res6
    have rf0 := rf 0
    have rf1 := rf 1
    have HFO := hide (fin_own (room := room) res6 (unhide HV6) B6 (Nat.le_refl _))
    have HA := hide (RowI.repo (RowI.wrote (unhide HRW5) W6) res6 (.slice va l.length vc) (.int .i64 room))
    have HBt := hide (RowI.repo hcu6 res6 (.slice va l.length vc) (.int .i64 room))
    clear rf p0 p1 R6 W6 res6 B6 hcu6 hst6 HWK
    go_wp2_with fail
    obtain ⟨f1, f2, f3, f4⟩ := unhide HFO
    exact bodyPost_ret (v := .tuple #[.agg #[.slice va l.length vc, .int .i64 room], .slice sa set.length sc, .slice ca cur.length cc]) (by simp [results, Tryz.results4, go_sem, f3, f4]) rfl ⟨⟨_, _, _, _, rfl, V2.down f1 (by omega), ⟨set, unhide HA, by omega⟩, ⟨cur, unhide HBt, by omega⟩⟩, f2⟩
  · have hrb : (r == 0) = false := by simp [hr]
    go_upto_region 7 with fail
    have hpn : w2.heap.size ≠ w.heap.size := by omega
    refine wp_region_mixN (k := 100) 7 [4, 5] [.agg #[.slice va l.length vc, .int .i64 room], .slice sa set.length sc, .pointer (some ⟨w.heap.size + 1, 0, none⟩), .agg #[.slice va l.length vc, .int .i64 room], undef, undef, .slice sa set.length sc] (CP w5 (w.heap.size + 1) w.heap.size (.slice va l.length vc) (.int .i64 room)) (by kernel_rfl) (by kernel_rfl) (by kernel_rfl) (by kernel_rfl) (by kernel_rfl) (by kernel_rfl) ⟨by simp, fun _ => (Below.refl _ _).drew, fun _ => Wrote.of_below (Below.refl _ _).drew, (fun y h => by cases h), (fun y u h => by cases h)⟩ ?_ ?_ ?_
    · intro full hfull i oo hi hns ho x fl us hC hb
      simp [putAll, slotOf, Act.put] at hfull
      subst hfull
      obtain ⟨p0, p1, _⟩ := two (hC.blk (unhide HPV5) hpn)
      have hC0 := hC.flag (b' := fl)
      match i with
      | 0 => simp at ho; subst ho; simp [gwp, Region.wanted, yielded]; go_simp; first | done | exact hC0 | exact ⟨rfl, hC0⟩
      | 1 => simp at ho; subst ho; simp [gwp, Region.wanted, yielded]; go_simp; first | done | exact hC0 | exact ⟨rfl, hC0⟩
      | 2 => simp at ho; subst ho; simp [gwp, Region.wanted, yielded]; go_simp; first | done | exact hC0 | exact ⟨rfl, hC0⟩
      | 3 => simp at ho; subst ho; simp [gwp, Region.wanted, yielded]; go_simp; first | done | exact hC0 | exact ⟨rfl, hC0⟩
      | 4 => simp at hns
      | 5 => simp at hns
      | 6 => simp at ho; subst ho; simp [gwp, Region.wanted, yielded]; go_simp; first | done | exact hC0 | exact ⟨rfl, hC0⟩
      | i + 7 => omega
    · intro full hfull us j hj oo ho x fl hC
      simp [putAll, slotOf, Act.put] at hfull
      subst hfull
      match us with
      | [] =>
        simp at hj
        subst hj
        simp at ho
        subst ho
        simp [gwp, Region.wanted, yielded, putP]
        go_simp
        have hbx := hC.ahead rfl
        have hVx := V2.ev (unhide HV5) (Ev.of_below (B := 0) (s := w1.heap.size) (N := 60000) hbx)
        refine (set_drawn room hVx (by omega) ((unhide HR5).below hbx) (by omega)).mono ?_
        rintro e w' ⟨⟨u, rfl, set2, hrow, hsl2⟩, _, W6⟩
        go_simp
        refine ⟨by simp, fun h => (by simp at h), fun _ => (hC.wrote (by simp)).trans W6, fun z hz => ?_, fun y u h => by simp at h⟩
        cases hz
        exact ⟨set2, hrow, by omega⟩
      | [y] =>
        simp at hj
        subst hj
        simp at ho
        subst ho
        simp [gwp, Region.wanted, yielded, putP, slotOf, Act.put]
        have hw6 := hC.wrote (by simp)
        obtain ⟨r0, r1, rf⟩ := two (hw6.blk (unhide HRS5) repoNotRd)
        have rf0 := rf 0
        have rf1 := rf 1
        have hrw := hC.row y rfl
        clear rf
        go_simp
        refine ⟨undef, by simp, fun h => (by simp at h), fun h => (by simp at h), fun z h => (by simp at h), fun z u h => ?_⟩
        simp at h
        obtain ⟨rfl, rfl⟩ := h
        exact ⟨x, rfl, hw6, hrw⟩
      | _ :: _ :: _ => simp at hj
    · intro full hfull us x hus hC
      simp [putAll, slotOf, Act.put] at hfull
      subst hfull
      match us, hus with
      | [yv, uv], _ =>
      obtain ⟨x0, rfl, W6, s2, hrow2, hlen2⟩ := hC.done yv uv rfl
      obtain ⟨ya, yc, hy, _⟩ := RowI.set hrow2 (by omega)
      subst hy
      have res7 := W6.blk (unhide HRS5) repoNotRd
      have V7 := V2.ev (unhide HV5) (Ev.of_wrote (s := w1.heap.size) (N := 60000) W6)
      have B7 := (unhide HB5).trans (W6.bel (B' := w.heap.size) (by omega) (by have := (unhide HB5).size; omega))
      have HFO := hide (fin_own (room := room) res7 V7 B7 (Nat.le_refl _))
      have HRA := hide (RowI.repo (RowI.wrote (unhide HRW5) W6) res7 (.slice va l.length vc) (.int .i64 room))
      have HRO := hide (RowI.repo hrow2 res7 (.slice va l.length vc) (.int .i64 room))
      clear hC W6 res7 V7 B7 hrow2
      simp [putP, slotOf, Act.put]
      go_wp2_with fail
      obtain ⟨f1, f2, f3, f4⟩ := unhide HFO
      exact bodyPost_ret (v := .tuple #[.agg #[.slice va l.length vc, .int .i64 room], .slice sa set.length sc, .slice ya s2.length yc]) (by simp [results, Tryz.results4, go_sem, f3, f4]) rfl ⟨⟨_, _, _, _, rfl, V2.down f1 (by omega), ⟨set, unhide HRA, by omega⟩, ⟨s2, unhide HRO, by omega⟩⟩, f2⟩
end Go.Proofs.YthkhaemlcmkkjasGreat
