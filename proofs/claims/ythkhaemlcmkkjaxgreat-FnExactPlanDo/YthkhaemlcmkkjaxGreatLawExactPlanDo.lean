/- The walk of the law FnExactPlanDo. -/
import Derived.Test.YthkhaemlcmkkjaxGreatToSS
import Derived.Test.YthkhaemlcmkkjaxGreatGPl
import Derived.Test.YthkhaemlcmkkjaxGreatSz
import Derived.Test.YthkhaemlcmkkjaxGreatEq
import Derived.Test.YthkhaemlcmkkjaxGreatRowsL
import Derived.Test.YthkhaemlcmkkjaxGreatMarkB
import Derived.Deep.RegionWith
import Derived.Deep.CutRange
namespace Go.Proofs.YthkhaemlcmkkjaxGreat
set_option linter.unusedVariables false
set_option linter.unusedSimpArgs false
open Go.RowKit Go.Deep

theorem PacksAt.old {w w' : World} {a : Option Addr} {l : List PackD} (h : PacksAt (New w w') w' a l) : PacksAt (Old w') w' a l := h.wider fun _ _ hb => hb.2.lt
theorem PacksAt.newOn {v w w' : World} {a : Option Addr} {l : List PackD} (h : PacksAt (New v w) w a l) (hb : Below w.heap.size w w') : PacksAt (New v w') w' a l :=
  (h.stay fun _ b hs => hb.block b hs.2.lt).wider fun _ b hs => ⟨hs.1, hs.2.of_block (hb.block b hs.2.lt)⟩
section
variable {B B' : Nat} {w w' : World} {v : Value} {ss : List StepD}
theorem SR_on (h : SR B w v ss) (hb : Below w.heap.size w w') : SR B w' v ss := ownsRow_on h hb
theorem SR_wrote (h : SR B w v ss) (hw : Wrote B' isAny w w') : SR B w' v ss := by
  obtain ⟨h1, h2⟩ := h
  refine ⟨h1, h2.imp id ?_⟩
  rintro ⟨g, cap, cur, hv, hg, hc, r⟩
  exact ⟨g, cap, cur, hv, hg, (hw.other ⟨cur, hc⟩ (by decide)).trans hc, r⟩
theorem SR_lt (h : SR B w v ss) : ∀ j, v.ownBlock = some j → j < w.heap.size := fun j hj => (World.ownsRow.lt h j hj).2
theorem SR_far (h : SR B w v ss) (hb : Below B' w w') (hlt : ∀ j, v.ownBlock = some j → j < B') : SR B w' v ss := by
  obtain ⟨h1, h2⟩ := h
  refine ⟨h1, h2.imp id ?_⟩
  rintro ⟨g, cap, cur, hv, hg, hc, r⟩
  exact ⟨g, cap, cur, hv, hg, (hb.block g (hlt g (by rw [hv]; rfl))).trans hc, r⟩
theorem eqStepS_sr {v' : Value} (h : SR B w v ss) (h' : SR B' w v' ss) (hl : ss.length ≤ 1000) :
    Calls Tryz.prog 22 #[v, v'] w fun e w' => e = .returned (.bool true) ∧ Below w.heap.size w w' := by
  obtain ⟨a, c, rfl, ha⟩ := SR.at h (by omega)
  obtain ⟨a', c', rfl, ha'⟩ := SR.at h' (by omega)
  exact eqStepS_any a ss c a' c' w ha ha'
theorem markStepS_sr {k0 : Int} (h : SR B w v ss) (hB : B ≤ w.heap.size) (hn : ss.length ≤ 1000) (hk0 : 0 ≤ k0) (hk1 : k0 ≤ 1000000000) :
    Calls Tryz.prog 23 #[v, .int .i64 k0] w fun e w' => e = .returned (.int .i64 (k0 + 3 * ss.length)) ∧ Below B w w' ∧ SR B w' v (upsS k0 ss.length) := by
  refine (markStepS_k k0 B v ss w h (by omega) hk0 (by omega)).mono ?_
  rintro e w' ⟨rfl, hg, hS⟩
  exact ⟨rfl, ⟨hg.os, hg.tape, hg.output, hg.size, fun k hk => hg.block k (by omega) (fun e => by have := (World.ownsRow.lt h k e.symm).1; omega)⟩, hS⟩
end

/-- A copy of numbers, in memory of its own. -/
theorem SetAt.row {w : World} {g B : Nat} {l : List Int} (h : SetAt w (some ⟨g, 0, none⟩) l) (hg : B ≤ g) (hr : Row w g 3 l.length) : RowI B w (.slice (some ⟨g, 0, none⟩) l.length l.length) l := by
  obtain ⟨hl, h⟩ := h
  obtain ⟨C, hC, hs⟩ := hr
  refine ⟨by simp, Or.inr ⟨g, l.length, C, rfl, hg, hC, Nat.le_refl _, by unfold maxLen; omega, by omega, ?_⟩⟩
  apply List.ext_getElem?
  intro i
  rw [List.getElem?_take, List.getElem?_map]
  by_cases hi : i < l.length
  · rw [if_pos (by omega)]
    rcases h with h | ⟨b, o, e, _, hc⟩
    · rw [h] at hi; simp at hi
    · simp at e
      obtain ⟨rfl, rfl⟩ := e
      have := hc i hi
      simp only [World.cell?, hC, Nat.zero_add] at this
      have e2 : l[i]? = some (l.getD i 0) := by simp [List.getD, hi]
      rw [e2]
      simpa using this
  · rw [if_neg (by omega), List.getElem?_eq_none (by omega)]
    rfl
theorem RowI_wrote {B B' : Nat} {w w' : World} {v : Value} {l : List Int} (h : RowI B w v l) (hw : Wrote B' isAny w w') : RowI B w' v l := by
  obtain ⟨h1, h2⟩ := h
  refine ⟨h1, h2.imp id ?_⟩
  rintro ⟨g, cap, cur, hv, hg, hc, r⟩
  exact ⟨g, cap, cur, hv, hg, (hw.other ⟨cur, hc⟩ (by decide)).trans hc, r⟩
theorem SR_grown {B : Nat} {w w' : World} {v u : Value} {ss : List StepD} {B2 n : Nat} {xs : List Value} (h : SR B w v ss) (hu : w.ownsRow B2 3 1 u n xs) (hg : w.grownBy w' u.ownBlock) : SR B w' v ss := by
  obtain ⟨h1, h2⟩ := h
  refine ⟨h1, h2.imp id ?_⟩
  rintro ⟨g, cap, cur, hv, hgB, hc, r⟩
  refine ⟨g, cap, cur, hv, hgB, (hg.block g (Array.getElem?_eq_some_iff.1 hc).1 (fun e => ?_)).trans hc, r⟩
  obtain ⟨c2, f2, e2⟩ := row_kind hu g e.symm
  rw [hc] at e2
  simp at e2
theorem set_at {B : Nat} {w : World} {a : Option Addr} {n c : Nat} {l : List Int} (h : RowI B w (.slice a n c) l) (hl : l.length ≤ 1048576) : SetAt w a l := by
  obtain ⟨a', c', e, hs⟩ := RowI.set h hl
  simp at e
  obtain ⟨rfl, _⟩ := e
  exact hs
theorem row_apart {B n sz : Nat} {w w' : World} {v u : Value} {e : TypeId} {xs : List Value} (h : w.ownsRow B e sz v n xs) (hg : w.grownBy w' u.ownBlock) (hne : ∀ j, v.ownBlock = some j → u.ownBlock = some j → False) : w'.ownsRow B e sz v n xs := by
  obtain ⟨h1, h2⟩ := h
  refine ⟨h1, h2.imp id ?_⟩
  rintro ⟨g, cap, cur, hv, hgB, hc, r⟩
  exact ⟨g, cap, cur, hv, hgB, (hg.block g (Array.getElem?_eq_some_iff.1 hc).1 (fun e => hne g (by rw [hv]; rfl) e.symm)).trans hc, r⟩

theorem steps_at {B n c : Nat} {w : World} {a : Option Addr} {ss : List StepD} (h : SR B w (.slice a n c) ss) (hl : ss.length ≤ 1048576) : StepsAt w a ss := by
  obtain ⟨a', c', e, hs⟩ := SR.at h hl
  simp at e
  obtain ⟨rfl, _⟩ := e
  exact hs

set_option maxRecDepth 10000 in
set_option maxHeartbeats 8000000 in
theorem law_any (a : Option Addr) (l : List PackD) (cap : Nat) (room : Int) (sa : Option Addr) (set : List Int) (sc : Nat) (ta : Option Addr) (ss : List StepD) (tc : Nat) (w : World) (h : PacksAt (Old w) w a l) (hs1 : set.length ≤ maxLen) (hs : set = [] ∨ ∃ b o, sa = some ⟨b, o, none⟩ ∧ b < w.heap.size ∧ ∀ i, i < set.length → w.cell? ⟨b, o + i, none⟩ = some (.int .i64 (set.getD i 0))) (hts1 : ss.length ≤ maxLen) (hts : ss = [] ∨ ∃ b o, ta = some ⟨b, o, none⟩ ∧ b < w.heap.size ∧ ∀ i, i < ss.length → w.cell? ⟨b, o + i * 3, none⟩ = some (.int .i64 (ss.getD i dStep).kind) ∧ w.cell? ⟨b, o + i * 3 + 1, none⟩ = some (.int .i64 (ss.getD i dStep).inn) ∧ w.cell? ⟨b, o + i * 3 + 2, none⟩ = some (.int .i64 (ss.getD i dStep).out)) :
    Calls Tryz.prog 4 #[.agg #[.slice a l.length cap, .int .i64 room], .slice sa set.length sc, .slice ta ss.length tc] w fun e w' => e = .returned (.bool true) ∧ Below w.heap.size w w' := by
  unfold maxLen at hs1 hts1
  by_cases hbig : 1048576 < set.length
  · have hb' : (1048576 : Int) < (set.length : Int) := by omega
    go_enter Tryz.func4, Tryz.ntmps4
    go_wp2_with fail
    go_ret
    exact ⟨rfl, (Below.refl _ _).alloc (Nat.le_refl _) _⟩
  have hb' : ¬ (1048576 : Int) < (set.length : Int) := by omega
  have HS := hide (show SetAt w sa set from ⟨by omega, hs⟩)
  have HV := hide h
  obtain ⟨ds, hds⟩ : ∃ ds, ds = planZ l room set ss := ⟨_, rfl⟩
  have HDI := hide hds.symm
  have hdl : (ds.getD []).length ≤ 1000 := by
    rw [hds]
    unfold planZ
    split
    · rename_i hc
      rw [Bool.and_eq_true] at hc
      cases hi : planDo l room set ss with
      | none => simp
      | some t =>
        have := ok_len8 (plan_ok hc.1 hi)
        simp
        omega
    · simp
  clear h hs hds
  go_enter Tryz.func4, Tryz.ntmps4
  go_wp2_with fail
  have bA := (Below.refl w.heap.size w).alloc (Nat.le_refl _) (.cells #[.slice a l.length cap, .int .i64 room] 24)
  refine (szRepo_any a l cap room 1048576 _ ((unhide HV).on bA) (by omega) (by omega)).mono ?_
  rintro e w1 ⟨⟨r1, rfl, hr1⟩, hb⟩
  have x0 := hb.cell (p := ⟨w.heap.size, 0, none⟩) (by simp)
  have x1 := hb.cell (p := ⟨w.heap.size, 1, none⟩) (by simp)
  have hz := hb.size
  simp at x0 x1 hz
  have HB := hide (bA.trans (hb.mono (by simp)))
  clear hb bA
  rcases hr1 with hr1 | ⟨hr10, hr11, hrs1⟩
  · go_wp2_with fail
    go_ret
    exact ⟨rfl, unhide HB⟩
  have hn1 : ¬ r1 < 0 := by omega
  go_wp2_with fail
  refine (szStepS_any ta ss.length tc r1 _ hts1 (by omega) (by omega)).mono ?_
  rintro e w1b ⟨⟨r2, rfl, hr2⟩, hb⟩
  rw [← hb.cell (p := ⟨w.heap.size, _, none⟩) (by simp; omega)] at x0 x1
  have hz1b := hb.size
  have hb1 := (unhide HB).trans (hb.mono (unhide HB).size)
  clear HB 
  have HB := hide hb1
  clear hb hb1
  rcases hr2 with hr2 | ⟨hr20, hr21⟩
  · go_wp2_with fail
    go_ret
    exact ⟨rfl, unhide HB⟩
  have hn2 : ¬ r2 < 0 := by omega
  have HTS := hide (show StepsAt w ta ss from ⟨hr21, hts⟩)
  clear hts
  go_wp2_with fail
  refine (toRepo_caps a l cap room _ ((unhide HV).on (unhide HB)) hrs1).mono ?_
  rintro e w2 ⟨g1, rfl, hb, hn, hcp⟩
  rw [← hb.cell (p := ⟨w.heap.size, _, none⟩) (by simp; omega)] at x0 x1
  have hz2 := hb.size
  have hb1 := (unhide HB).trans (hb.mono (unhide HB).size)
  have HN2 := hide hn.old
  have HC2 := hide hcp
  clear hn hcp
  clear HB 
  have HB := hide hb1
  clear hb hb1
  go_wp2_with fail
  refine (toIntS_any sa set sc _ ((unhide HS).on (unhide HB))).mono ?_
  rintro e w2b ⟨gi, rfl, hb, hsn, _, _⟩
  rw [← hb.cell (p := ⟨w.heap.size, _, none⟩) (by simp; omega)] at x0 x1
  have hz2b := hb.size
  have hb1 := (unhide HB).trans (hb.mono (unhide HB).size)
  have HN2b := hide ((unhide HN2).on hb)
  have HC2b := hide ((unhide HC2).on hb)
  have HSN2b := hide hsn
  clear hsn
  clear HB HN2 HC2
  have HB := hide hb1
  clear hb hb1
  go_wp2_with fail
  refine (toStepS_any ta ss tc _ ((unhide HTS).on (unhide HB))).mono ?_
  rintro e w2c ⟨gt, rfl, hb, hst⟩
  rw [← hb.cell (p := ⟨w.heap.size, _, none⟩) (by simp; omega)] at x0 x1
  have hz2c := hb.size
  have hb1 := (unhide HB).trans (hb.mono (unhide HB).size)
  have HN2c := hide ((unhide HN2b).on hb)
  have HC2c := hide ((unhide HC2b).on hb)
  have HSN2c := hide ((unhide HSN2b).on hb)
  have HST2c := hide (steps_at hst (by omega))
  clear hst
  clear HB HN2b HC2b HSN2b
  have HB := hide hb1
  clear hb hb1
  go_wp2_with fail
  refine (specPlanDo_any _ l _ room _ set _ _ ss _ _ (unhide HN2c) (unhide HC2c) (unhide HSN2c) (fun e => by cases e) (unhide HST2c)).mono ?_
  rw [unhide HDI]
  rintro e w3 ⟨⟨v3, rfl, hr3⟩, hb⟩
  rw [← hb.cell (p := ⟨w.heap.size, _, none⟩) (by simp; omega)] at x0 x1
  have hz3 := hb.size
  have hb1 := (unhide HB).trans (hb.mono (unhide HB).size)
  have HO3 := hide hr3
  clear hr3 HN2c HC2c HSN2c HST2c
  clear HB 
  have HB := hide hb1
  clear hb hb1
  obtain ⟨voa, voc, hvo, _⟩ := RowI.set (unhide HO3) (by omega)
  subst hvo
  have HOlt := hide (fun j hj => (World.ownsRow.lt (unhide HO3) j hj).2)
  go_wp2_with fail
  refine (toRepo_any a l cap room _ ((unhide HV).on (unhide HB)) hrs1).mono ?_
  rintro e w4 ⟨g2, rfl, hb, hn⟩
  rw [← hb.cell (p := ⟨w.heap.size, _, none⟩) (by simp; omega)] at x0 x1
  have hz4 := hb.size
  have hb1 := (unhide HB).trans (hb.mono (unhide HB).size)
  have HO4 := hide (show RowI _ _ _ (ds.getD []) from ownsRow_on (unhide HO3) hb)
  have HX4 := hide hn
  clear hn
  clear HB HO3
  have HB := hide hb1
  clear hb hb1
  go_wp2_with fail
  obtain ⟨w5, hw5⟩ : ∃ w5, w5 = w4.alloc (.cells #[.slice (some ⟨g2, 0, none⟩) l.length l.length, .int .i64 room] 33) := ⟨_, rfl⟩
  rw [← hw5]
  have hb : Below w4.heap.size w4 w5 := by rw [hw5]; exact (Below.refl _ _).alloc (Nat.le_refl _) _
  have y0 : w5.cell? ⟨w4.heap.size, 0, none⟩ = some (.slice (some ⟨g2, 0, none⟩) l.length l.length) := by rw [hw5]; simp
  have y1 : w5.cell? ⟨w4.heap.size, 1, none⟩ = some (.int .i64 room) := by rw [hw5]; simp
  have hzw5 : w4.heap.size < w5.heap.size := by rw [hw5]; simp
  clear hw5
  rw [← hb.cell (p := ⟨w.heap.size, _, none⟩) (by simp; omega)] at x0 x1
  have hz5 := hb.size
  have hb1 := (unhide HB).trans (hb.mono (unhide HB).size)
  have HO5 := hide (show RowI _ _ _ (ds.getD []) from ownsRow_on (unhide HO4) hb)
  have HX5 := hide ((unhide HX4).newOn hb)
  clear HB HO4 HX4
  have HB := hide hb1
  clear hb hb1
  refine (toIntS_any sa set sc _ ((unhide HS).on (unhide HB))).mono ?_
  rintro e w5b ⟨gx, rfl, hb, hsx, hgx, hrx⟩
  rw [← hb.cell (p := ⟨w.heap.size, _, none⟩) (by simp; omega)] at x0 x1
  rw [← hb.cell (p := ⟨w4.heap.size, _, none⟩) (by simp; omega)] at y0 y1
  have hz5b := hb.size
  have hb1 := (unhide HB).trans (hb.mono (unhide HB).size)
  have HO5b := hide (show RowI _ _ _ (ds.getD []) from ownsRow_on (unhide HO5) hb)
  have HX5b := hide ((unhide HX5).newOn hb)
  have HI5b := hide (SetAt.row hsx hgx hrx)
  have HSX5b := hide hsx
  have HGXL : Hid (gx < w5b.heap.size) := hrx.lt
  clear hsx hgx hrx
  clear HB HO5 HX5
  have HB := hide hb1
  clear hb hb1
  go_wp2_with fail
  refine (toStepS_any ta ss tc _ ((unhide HTS).on (unhide HB))).mono ?_
  rintro e w5c ⟨gj, rfl, hb, hst⟩
  rw [← hb.cell (p := ⟨w.heap.size, _, none⟩) (by simp; omega)] at x0 x1
  rw [← hb.cell (p := ⟨w4.heap.size, _, none⟩) (by simp; omega)] at y0 y1
  have hz5c := hb.size
  have hb1 := (unhide HB).trans (hb.mono (unhide HB).size)
  have HO5c := hide (show RowI _ _ _ (ds.getD []) from ownsRow_on (unhide HO5b) hb)
  have HX5c := hide ((unhide HX5b).newOn hb)
  have HI5c := hide (show RowI _ _ _ set from ownsRow_on (unhide HI5b) hb)
  have HSX5c := hide ((unhide HSX5b).on hb)
  have HJ5c := hide hst
  have HSJ := hide (steps_at hst (by omega))
  have HGJ : Hid (w5b.heap.size ≤ gj ∧ gj < w5c.heap.size) := World.ownsRow.lt hst gj rfl
  clear hst
  clear HB HO5b HX5b HI5b HSX5b
  have HB := hide hb1
  clear hb hb1
  go_wp2_with fail
  refine (implPlanDo_any _ l _ room _ set _ _ ss _ _ (unhide HX5c).old (unhide HSX5c) (unhide HSJ)).mono ?_
  rw [unhide HDI]
  rintro e w6 ⟨⟨v6, rfl, hr6⟩, hb⟩
  rw [← hb.cell (p := ⟨w.heap.size, _, none⟩) (by simp; omega)] at x0 x1
  rw [← hb.cell (p := ⟨w4.heap.size, _, none⟩) (by simp; omega)] at y0 y1
  have hz6 := hb.size
  have hb1 := (unhide HB).trans (hb.mono (unhide HB).size)
  have HO6 := hide (show RowI _ _ _ (ds.getD []) from ownsRow_on (unhide HO5c) hb)
  have HX6 := hide ((unhide HX5c).newOn hb)
  have HI6 := hide (show RowI _ _ _ set from ownsRow_on (unhide HI5c) hb)
  have HJ6 := hide (SR_on (unhide HJ5c) hb)
  have HG6 := hide hr6
  clear hr6 HSX5c HSJ
  clear HB HO5c HX5c HI5c HJ5c
  have HB := hide hb1
  clear hb hb1
  obtain ⟨vga, vgc, hvg, _⟩ := RowI.set (unhide HG6) (by omega)
  subst hvg
  have HEQ := hide (fun W (h1 : SetAt W vga (ds.getD [])) (h2 : SetAt W voa (ds.getD [])) => eqIntS_same vga voa (ds.getD []) vgc voc W h1 h2)
  go_wp2_with fail
  refine (unhide HEQ _ (set_at (unhide HG6) (by omega)) (set_at (unhide HO6) (by omega))).mono ?_
  rintro e w7 ⟨rfl, hb⟩
  rw [← hb.cell (p := ⟨w.heap.size, _, none⟩) (by simp; omega)] at x0 x1
  rw [← hb.cell (p := ⟨w4.heap.size, _, none⟩) (by simp; omega)] at y0 y1
  have hz7 := hb.size
  have hb1 := (unhide HB).trans (hb.mono (unhide HB).size)
  have HO7 := hide (show RowI _ _ _ (ds.getD []) from ownsRow_on (unhide HO6) hb)
  have HX7 := hide ((unhide HX6).newOn hb)
  have HI7 := hide (show RowI _ _ _ set from ownsRow_on (unhide HI6) hb)
  have HJ7 := hide (SR_on (unhide HJ6) hb)
  have HG7 := hide (show RowI _ _ _ (ds.getD []) from ownsRow_on (unhide HG6) hb)
  clear HB HO6 HX6 HI6 HJ6 HG6
  have HB := hide hb1
  clear hb hb1
  have HT := hide (fun W (hW : Below w7.heap.size w7 W) => toRepo_any a l cap room W (((unhide HV).on (unhide HB)).on hW) hrs1)
  go_wp2_with fail
  go_cut [69] from 65 to 69 (fun s wx => s = .bool false ∧ Below w7.heap.size w7 wx)
  case first =>
    go_region_with (first
      | (go_at_call 9; refine (unhide HT _ ?_).mono ?_; exact (Below.refl _ _).drew; rintro e wA ⟨gA, rfl, hbA, hnA⟩; have hA : Below w7.heap.size w7 wA := (Below.refl w7.heap.size w7).drew.trans hbA; have a0 := (hA.cell (p := ⟨w4.heap.size, 0, none⟩) (by simp; omega)).trans y0; have a1 := (hA.cell (p := ⟨w4.heap.size, 1, none⟩) (by simp; omega)).trans y1; have HA := hide hA; have HNA := hide hnA.old; clear hbA hA hnA)
      | (go_at_call 14; refine (eqRepo_any _ _ l _ _ room _ ((unhide HX7).old.on (unhide HA)) (unhide HNA)).mono ?_; rintro e wC ⟨rfl, hbC⟩))
    all_goals (go_wp2_with fail; go_meet; exact ⟨rfl, (unhide HA).trans (hbC.mono (unhide HA).size)⟩)
  case rest =>
  obtain ⟨rfl, hb⟩ := hcut
  rename World => w8
  clear HT
  rw [← hb.cell (p := ⟨w.heap.size, _, none⟩) (by simp; omega)] at x0 x1
  rw [← hb.cell (p := ⟨w4.heap.size, _, none⟩) (by simp; omega)] at y0 y1
  have hz8 := hb.size
  have hb1 := (unhide HB).trans (hb.mono (unhide HB).size)
  have HO8 := hide (show RowI _ _ _ (ds.getD []) from ownsRow_on (unhide HO7) hb)
  have HX8 := hide ((unhide HX7).newOn hb)
  have HI8 := hide (show RowI _ _ _ set from ownsRow_on (unhide HI7) hb)
  have HJ8 := hide (SR_on (unhide HJ7) hb)
  have HG8 := hide (show RowI _ _ _ (ds.getD []) from ownsRow_on (unhide HG7) hb)
  clear HB HO7 HX7 HI7 HJ7 HG7
  have HB := hide hb1
  clear hb hb1
  go_wp2_with fail
  refine (toIntS_any sa set sc _ ((unhide HS).on (unhide HB))).mono ?_
  rintro e w8b ⟨gy, rfl, hb, hsy, _, _⟩
  rw [← hb.cell (p := ⟨w.heap.size, _, none⟩) (by simp; omega)] at x0 x1
  rw [← hb.cell (p := ⟨w4.heap.size, _, none⟩) (by simp; omega)] at y0 y1
  have hz8b := hb.size
  have hb1 := (unhide HB).trans (hb.mono (unhide HB).size)
  have HO8b := hide (show RowI _ _ _ (ds.getD []) from ownsRow_on (unhide HO8) hb)
  have HX8b := hide ((unhide HX8).newOn hb)
  have HI8b := hide (show RowI _ _ _ set from ownsRow_on (unhide HI8) hb)
  have HJ8b := hide (SR_on (unhide HJ8) hb)
  have HG8b := hide (show RowI _ _ _ (ds.getD []) from ownsRow_on (unhide HG8) hb)
  have HSY := hide hsy
  clear hsy
  clear HB HO8 HX8 HI8 HJ8 HG8
  have HB := hide hb1
  clear hb hb1
  have HSZ := hide (set_at (unhide HI8b) (by omega))
  go_wp2_with fail
  refine (eqIntS_same _ _ set _ _ _ (unhide HSZ) (unhide HSY)).mono ?_
  rintro e w8c ⟨rfl, hb⟩
  clear HSZ HSY
  rw [← hb.cell (p := ⟨w.heap.size, _, none⟩) (by simp; omega)] at x0 x1
  rw [← hb.cell (p := ⟨w4.heap.size, _, none⟩) (by simp; omega)] at y0 y1
  have hz8c := hb.size
  have hb1 := (unhide HB).trans (hb.mono (unhide HB).size)
  have HO8c := hide (show RowI _ _ _ (ds.getD []) from ownsRow_on (unhide HO8b) hb)
  have HX8c := hide ((unhide HX8b).newOn hb)
  have HI8c := hide (show RowI _ _ _ set from ownsRow_on (unhide HI8b) hb)
  have HJ8c := hide (SR_on (unhide HJ8b) hb)
  have HG8c := hide (show RowI _ _ _ (ds.getD []) from ownsRow_on (unhide HG8b) hb)
  clear HB HO8b HX8b HI8b HJ8b HG8b
  have HB := hide hb1
  clear hb hb1
  go_wp2_with fail
  refine (toStepS_any ta ss tc _ ((unhide HTS).on (unhide HB))).mono ?_
  rintro e w8d ⟨gz, rfl, hb, hst⟩
  rw [← hb.cell (p := ⟨w.heap.size, _, none⟩) (by simp; omega)] at x0 x1
  rw [← hb.cell (p := ⟨w4.heap.size, _, none⟩) (by simp; omega)] at y0 y1
  have hz8d := hb.size
  have hb1 := (unhide HB).trans (hb.mono (unhide HB).size)
  have HO8d := hide (show RowI _ _ _ (ds.getD []) from ownsRow_on (unhide HO8c) hb)
  have HX8d := hide ((unhide HX8c).newOn hb)
  have HI8d := hide (show RowI _ _ _ set from ownsRow_on (unhide HI8c) hb)
  have HJ8d := hide (SR_on (unhide HJ8c) hb)
  have HG8d := hide (show RowI _ _ _ (ds.getD []) from ownsRow_on (unhide HG8c) hb)
  have HSY := hide (steps_at hst (by omega))
  clear hst
  clear HB HO8c HX8c HI8c HJ8c HG8c
  have HB := hide hb1
  clear hb hb1
  have HSZ := hide (steps_at (unhide HJ8d) (by omega))
  go_wp2_with fail
  refine (eqStepS_any _ ss _ _ _ _ (unhide HSZ) (unhide HSY)).mono ?_
  rintro e w8e ⟨rfl, hb⟩
  clear HSZ HSY
  rw [← hb.cell (p := ⟨w.heap.size, _, none⟩) (by simp; omega)] at x0 x1
  rw [← hb.cell (p := ⟨w4.heap.size, _, none⟩) (by simp; omega)] at y0 y1
  have hz8e := hb.size
  have hb1 := (unhide HB).trans (hb.mono (unhide HB).size)
  have HO8e := hide (show RowI _ _ _ (ds.getD []) from ownsRow_on (unhide HO8d) hb)
  have HX8e := hide ((unhide HX8d).newOn hb)
  have HI8e := hide (show RowI _ _ _ set from ownsRow_on (unhide HI8d) hb)
  have HJ8e := hide (SR_on (unhide HJ8d) hb)
  have HG8e := hide (show RowI _ _ _ (ds.getD []) from ownsRow_on (unhide HG8d) hb)
  clear HB HO8d HX8d HI8d HJ8d HG8d
  have HB := hide hb1
  clear hb hb1
  have HX0 := hide (And.intro x0 x1)
  clear x0 x1
  go_wp2_with fail
  refine (markRepo_any w3 _ g2 l _ room (unhide HX8e) hrs1).mono ?_
  rintro e w9 ⟨⟨r9, rfl, hr90, hr91⟩, hw9⟩
  have hb9 := hw9.below (by omega)
  have HB9 := hide ((unhide HB).trans (hb9.mono (by have := (unhide HB).size; omega)))
  obtain ⟨x0, x1⟩ := unhide HX0
  rw [← hb9.cell (p := ⟨w.heap.size, _, none⟩) (by simp; omega)] at x0 x1
  have HO9 := hide (RowI_wrote (unhide HO8e) hw9)
  have HG9 := hide (RowI_wrote (unhide HG8e) hw9)
  have HJ9 := hide (SR_wrote (unhide HJ8e) hw9)
  have HI9 := hide (RowI_wrote (unhide HI8e) hw9)
  have hz9 := hw9.size
  clear hw9 HB HX8e HO8e HG8e HI8e HJ8e y0 y1 hb9 HX0
  have HMK := hide (markIntS_k r9 _ _ set _ (unhide HI9) (by omega) (by omega) (by omega))
  have HGB : Hid (∀ j, (Value.slice vga (ds.getD []).length vgc).ownBlock = some j → w5c.heap.size ≤ j) := fun j hj => (World.ownsRow.lt (unhide HG9) j hj).1
  go_wp2_with fail
  refine (unhide HMK).mono ?_
  rintro e w9b ⟨rfl, hg9, _⟩
  have hbG : Below w5.heap.size w9 w9b := ⟨hg9.os, hg9.tape, hg9.output, hg9.size, fun k hk => hg9.block k (by omega) (fun e => by have := (World.ownsRow.lt (unhide HI9) k e.symm).1; omega)⟩
  have HB9b := hide ((unhide HB9).trans (hbG.mono (by have := (unhide HB9).size; omega)))
  rw [← hbG.cell (p := ⟨w.heap.size, _, none⟩) (by simp; omega)] at x0 x1
  have HO9b := hide (row_apart (unhide HO9) hg9 (fun j hj e => by
    have h1 := unhide HOlt j hj
    have h2 := (World.ownsRow.lt (unhide HI9) j e).1
    omega))
  have HG9b := hide (row_apart (unhide HG9) hg9 (fun j hj e => by
    have h1 := unhide HGB j hj
    have h2 := unhide HGXL
    simp [Value.ownBlock] at e
    omega))
  have HJ9b := hide (SR_grown (unhide HJ9) (unhide HI9) hg9)
  have hz9b := hg9.size
  clear HB9 HO9 HG9 HI9 HMK hg9 hbG HJ9
  have HMS := hide (markStepS_k (r9 + (set.length : Int)) _ _ ss _ (unhide HJ9b) (by omega) (by omega) (by omega))
  have hn9 : ¬ (r9 + (set.length : Int) + 3 * (ss.length : Int) < 0) := by omega
  generalize r9 + (set.length : Int) = r10 at HMS hn9
  go_wp2_with fail
  refine (unhide HMS).mono ?_
  rintro e w9c ⟨rfl, hg9, _⟩
  have hbG : Below w5.heap.size w9b w9c := ⟨hg9.os, hg9.tape, hg9.output, hg9.size, fun k hk => hg9.block k (by omega) (fun e => by have := (World.ownsRow.lt (unhide HJ9b) k e.symm).1; omega)⟩
  have HB := hide ((unhide HB9b).trans (hbG.mono (by have := (unhide HB9b).size; omega)))
  rw [← hbG.cell (p := ⟨w.heap.size, _, none⟩) (by simp; omega)] at x0 x1
  have HO9c := hide (row_apart (unhide HO9b) hg9 (fun j hj e => by
    have h1 := unhide HOlt j hj
    have h2 := (World.ownsRow.lt (unhide HJ9b) j e).1
    omega))
  have HG9c := hide (row_apart (unhide HG9b) hg9 (fun j hj e => by
    have h1 := unhide HGB j hj
    have h2 := (unhide HGJ).2
    simp [Value.ownBlock] at e
    omega))
  have hz9c := hg9.size
  clear HB9b HO9b HG9b HMS hg9 hbG HJ9b
  generalize r10 + 3 * (ss.length : Int) = r11 at hn9 ⊢
  go_wp2_with fail
  refine (unhide HEQ _ (set_at (unhide HG9c) (by omega)) (set_at (unhide HO9c) (by omega))).mono ?_
  rintro e w10 ⟨rfl, hb⟩
  rw [← hb.cell (p := ⟨w.heap.size, _, none⟩) (by simp; omega)] at x0 x1
  have hz10 := hb.size
  have hb1 := (unhide HB).trans (hb.mono (unhide HB).size)
  have HO10 := hide (show RowI _ _ _ (ds.getD []) from ownsRow_on (unhide HO9c) hb)
  have HG10 := hide (show RowI _ _ _ (ds.getD []) from ownsRow_on (unhide HG9c) hb)
  clear HB HO9c HG9c
  have HB := hide hb1
  clear hb hb1
  have HMG := hide (markIntS_k 1 _ _ (ds.getD []) _ (unhide HG10) (by omega) (by omega) (by omega))
  go_wp2_with fail
  refine (unhide HMG).mono ?_
  rintro e w11 ⟨rfl, hg11, hG11⟩
  have HGM11 := hide hG11
  have HO11 := hide (row_apart (unhide HO10) hg11 (fun j hj e => by
    have h1 := unhide HOlt j hj
    have h2 := (World.ownsRow.lt (unhide HG10) j e).1
    omega))
  have hbG : Below w5c.heap.size w10 w11 := ⟨hg11.os, hg11.tape, hg11.output, hg11.size, fun k hk => hg11.block k (by omega) (fun e => by have := (World.ownsRow.lt (unhide HG10) k e.symm).1; omega)⟩
  have hz11 := hg11.size
  have hb1 := (unhide HB).trans (hbG.mono (by have := (unhide HB).size; omega))
  rw [← hbG.cell (p := ⟨w.heap.size, _, none⟩) (by simp; omega)] at x0 x1
  clear HB HMG HG10 HO10 hg11 hG11 hbG
  have HB := hide hb1
  clear hb1
  have hpos : ¬ (1 + ((ds.getD []).length : Int) < 0) := by omega
  have HHE := hide (fun W (hW : SetAt W vga (upsK 1 (ds.getD []).length)) => heldIntS_k 1 vga (ds.getD []).length vgc W hW (by omega) (by omega))
  generalize 1 + ((ds.getD []).length : Int) = ek at hpos HHE ⊢
  go_wp2_with fail
  refine (unhide HHE _ (set_at (unhide HGM11) (by rw [upsK_length]; omega))).mono ?_
  rintro e w12 ⟨rfl, hb⟩
  rw [← hb.cell (p := ⟨w.heap.size, _, none⟩) (by simp; omega)] at x0 x1
  have hz12 := hb.size
  have hb1 := (unhide HB).trans (hb.mono (unhide HB).size)
  have HO12 := hide (show RowI _ _ _ (ds.getD []) from ownsRow_on (unhide HO11) hb)
  have HGM12 := hide (show RowI _ _ _ (upsK 1 (ds.getD []).length) from ownsRow_on (unhide HGM11) hb)
  clear HB HO11 HGM11
  have HB := hide hb1
  clear hb hb1
  go_wp2_with fail
  refine (toRepo_any a l cap room _ ((unhide HV).on (unhide HB)) hrs1).mono ?_
  rintro e w13 ⟨g3, rfl, hb, hn⟩
  rw [← hb.cell (p := ⟨w.heap.size, _, none⟩) (by simp; omega)] at x0 x1
  have hz13 := hb.size
  have hb1 := (unhide HB).trans (hb.mono (unhide HB).size)
  have HO13 := hide (show RowI _ _ _ (ds.getD []) from ownsRow_on (unhide HO12) hb)
  have HGM13 := hide (show RowI _ _ _ (upsK 1 (ds.getD []).length) from ownsRow_on (unhide HGM12) hb)
  have HN13 := hide hn.old
  clear hn
  clear HB HO12 HGM12
  have HB := hide hb1
  clear hb hb1
  clear x0 x1
  go_wp2_with fail
  refine (toIntS_any sa set sc _ ((unhide HS).on (unhide HB))).mono ?_
  rintro e w13b ⟨gi3, rfl, hb, hsn, _, _⟩
  have hz13b := hb.size
  have hb1 := (unhide HB).trans (hb.mono (unhide HB).size)
  have HO13b := hide (show RowI _ _ _ (ds.getD []) from ownsRow_on (unhide HO13) hb)
  have HGM13b := hide (show RowI _ _ _ (upsK 1 (ds.getD []).length) from ownsRow_on (unhide HGM13) hb)
  have HN13b := hide ((unhide HN13).on hb)
  have HSN13b := hide hsn
  clear hsn
  clear HB HO13 HGM13 HN13
  have HB := hide hb1
  clear hb hb1
  go_wp2_with fail
  refine (toStepS_any ta ss tc _ ((unhide HTS).on (unhide HB))).mono ?_
  rintro e w13c ⟨gt3, rfl, hb, hst⟩
  have hz13c := hb.size
  have hb1 := (unhide HB).trans (hb.mono (unhide HB).size)
  have HO13c := hide (show RowI _ _ _ (ds.getD []) from ownsRow_on (unhide HO13b) hb)
  have HGM13c := hide (show RowI _ _ _ (upsK 1 (ds.getD []).length) from ownsRow_on (unhide HGM13b) hb)
  have HN13c := hide ((unhide HN13b).on hb)
  have HSN13c := hide ((unhide HSN13b).on hb)
  have HST13 := hide (steps_at hst (by omega))
  clear hst
  clear HB HO13b HGM13b HN13b HSN13b
  have HB := hide hb1
  clear hb hb1
  go_wp2_with fail
  refine (implPlanDo_any _ l _ room _ set _ _ ss _ _ (unhide HN13c) (unhide HSN13c) (unhide HST13)).mono ?_
  rw [unhide HDI]
  rintro e w14 ⟨⟨v14, rfl, hr14⟩, hb⟩
  have hz14 := hb.size
  have hb1 := (unhide HB).trans (hb.mono (unhide HB).size)
  have HO14 := hide (show RowI _ _ _ (ds.getD []) from ownsRow_on (unhide HO13c) hb)
  have HGM14 := hide (show RowI _ _ _ (upsK 1 (ds.getD []).length) from ownsRow_on (unhide HGM13c) hb)
  have HH14 := hide hr14
  clear hr14 HN13c HSN13c HST13
  clear HB HO13c HGM13c
  have HB := hide hb1
  clear hb hb1
  obtain ⟨vha, vhc, hvh, _⟩ := RowI.set (unhide HH14) (by omega)
  subst hvh
  go_wp2_with fail
  refine (eqIntS_same vha voa (ds.getD []) vhc voc _ (set_at (unhide HH14) (by omega)) (set_at (unhide HO14) (by omega))).mono ?_
  rintro e w15 ⟨rfl, hb⟩
  have HB15 := hide ((unhide HB).trans (hb.mono (unhide HB).size))
  have HGM15 := hide (show RowI _ _ _ (upsK 1 (ds.getD []).length) from ownsRow_on (unhide HGM14) hb)
  clear hb HB HGM14 HO14 HH14
  go_wp2_with fail
  refine (unhide HHE _ (set_at (unhide HGM15) (by rw [upsK_length]; omega))).mono ?_
  rintro e w16 ⟨rfl, hb⟩
  have HB16 := hide ((unhide HB15).trans (hb.mono (unhide HB15).size))
  clear hb HB15 HGM15
  go_wp2_with fail
  go_ret
  exact ⟨rfl, unhide HB16⟩
end Go.Proofs.YthkhaemlcmkkjaxGreat
