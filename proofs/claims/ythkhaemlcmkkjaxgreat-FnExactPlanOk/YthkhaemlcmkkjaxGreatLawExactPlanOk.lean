/- The walk of the law FnExactPlanOk. -/
import Derived.Test.YthkhaemlcmkkjaxGreatToSS
import Derived.Test.YthkhaemlcmkkjaxGreatGPl
import Derived.Test.YthkhaemlcmkkjaxGreatSz
import Derived.Test.YthkhaemlcmkkjaxGreatEq
import Derived.Test.YthkhaemlcmkkjaxGreatRowsL
import Derived.Test.YthkhaemlcmkkjaxGreatMarkB
import Derived.Deep.RegionWith
import Derived.Deep.CutRange
namespace Go.Proofs.YthkhaemlcmkkjaxGreat
set_option linter.unusedVariables false
set_option linter.unusedSimpArgs false
open Go.RowKit Go.Deep

theorem PacksAt.old {w w' : World} {a : Option Addr} {l : List PackD} (h : PacksAt (New w w') w' a l) : PacksAt (Old w') w' a l := h.wider fun _ _ hb => hb.2.lt
theorem steps_at {B n c : Nat} {w : World} {a : Option Addr} {ss : List StepD} (h : SR B w (.slice a n c) ss) (hl : ss.length ≤ 1048576) : StepsAt w a ss := by
  obtain ⟨a', c', e, hs⟩ := SR.at h hl
  simp at e
  obtain ⟨rfl, _⟩ := e
  exact hs

set_option maxRecDepth 10000 in
set_option maxHeartbeats 8000000 in
theorem law_any (a : Option Addr) (l : List PackD) (cap : Nat) (room : Int) (sa : Option Addr) (set : List Int) (sc : Nat) (ra : Option Addr) (too : List Int) (rc : Nat) (ta : Option Addr) (ss : List StepD) (tc : Nat) (w : World) (h : PacksAt (Old w) w a l) (hs1 : set.length ≤ maxLen) (hs : set = [] ∨ ∃ b o, sa = some ⟨b, o, none⟩ ∧ b < w.heap.size ∧ ∀ i, i < set.length → w.cell? ⟨b, o + i, none⟩ = some (.int .i64 (set.getD i 0))) (hr1' : too.length ≤ maxLen) (hr : too = [] ∨ ∃ b o, ra = some ⟨b, o, none⟩ ∧ b < w.heap.size ∧ ∀ i, i < too.length → w.cell? ⟨b, o + i, none⟩ = some (.int .i64 (too.getD i 0))) (hts1 : ss.length ≤ maxLen) (hts : ss = [] ∨ ∃ b o, ta = some ⟨b, o, none⟩ ∧ b < w.heap.size ∧ ∀ i, i < ss.length → w.cell? ⟨b, o + i * 3, none⟩ = some (.int .i64 (ss.getD i dStep).kind) ∧ w.cell? ⟨b, o + i * 3 + 1, none⟩ = some (.int .i64 (ss.getD i dStep).inn) ∧ w.cell? ⟨b, o + i * 3 + 2, none⟩ = some (.int .i64 (ss.getD i dStep).out)) :
    Calls Tryz.prog 5 #[.agg #[.slice a l.length cap, .int .i64 room], .slice sa set.length sc, .slice ra too.length rc, .slice ta ss.length tc] w fun e w' => e = .returned (.bool true) ∧ Below w.heap.size w w' := by
  unfold maxLen at hs1 hts1 hr1'
  by_cases hbigset : 1048576 < set.length
  · have hb' : (1048576 : Int) < (set.length : Int) := by omega
    go_enter Tryz.func5, Tryz.ntmps5
    go_wp2_with fail
    go_ret
    exact ⟨rfl, (Below.refl _ _).alloc (Nat.le_refl _) _⟩
  have hb'set : ¬ (1048576 : Int) < (set.length : Int) := by omega
  by_cases hbigtoo : 1048576 < too.length
  · have hb' : (1048576 : Int) < (too.length : Int) := by omega
    go_enter Tryz.func5, Tryz.ntmps5
    go_wp2_with fail
    go_ret
    exact ⟨rfl, (Below.refl _ _).alloc (Nat.le_refl _) _⟩
  have hb'too : ¬ (1048576 : Int) < (too.length : Int) := by omega
  have HS := hide (show SetAt w sa set from ⟨by omega, hs⟩)
  have HR := hide (show SetAt w ra too from ⟨by omega, hr⟩)
  have HV := hide h
  clear h hs hr
  go_enter Tryz.func5, Tryz.ntmps5
  go_wp2_with fail
  have bA := (Below.refl w.heap.size w).alloc (Nat.le_refl _) (.cells #[.slice a l.length cap, .int .i64 room] 24)
  refine (szRepo_any a l cap room 1048576 _ ((unhide HV).on bA) (by omega) (by omega)).mono ?_
  rintro e w1 ⟨⟨r1, rfl, hr1⟩, hb⟩
  have x0 := hb.cell (p := ⟨w.heap.size, 0, none⟩) (by simp)
  have x1 := hb.cell (p := ⟨w.heap.size, 1, none⟩) (by simp)
  have hz := hb.size
  simp at x0 x1 hz
  have HB := hide (bA.trans (hb.mono (by simp)))
  clear hb bA
  rcases hr1 with hr1 | ⟨hr10, hr11, hrs1⟩
  · go_wp2_with fail
    go_ret
    exact ⟨rfl, unhide HB⟩
  have hn1 : ¬ r1 < 0 := by omega
  go_wp2_with fail
  refine (szStepS_any ta ss.length tc r1 _ hts1 (by omega) (by omega)).mono ?_
  rintro e w1b ⟨⟨r2, rfl, hr2⟩, hb⟩
  rw [← hb.cell (p := ⟨w.heap.size, _, none⟩) (by simp; omega)] at x0 x1
  have hz1b := hb.size
  have hb1 := (unhide HB).trans (hb.mono (unhide HB).size)
  clear HB 
  have HB := hide hb1
  clear hb hb1
  rcases hr2 with hr2 | ⟨hr20, hr21⟩
  · go_wp2_with fail
    go_ret
    exact ⟨rfl, unhide HB⟩
  have hn2 : ¬ r2 < 0 := by omega
  have HTS := hide (show StepsAt w ta ss from ⟨hr21, hts⟩)
  clear hts
  go_wp2_with fail
  refine (toRepo_caps a l cap room _ ((unhide HV).on (unhide HB)) hrs1).mono ?_
  rintro e w2 ⟨g1, rfl, hb, hn, hcp⟩
  rw [← hb.cell (p := ⟨w.heap.size, _, none⟩) (by simp; omega)] at x0 x1
  have hz2 := hb.size
  have hb1 := (unhide HB).trans (hb.mono (unhide HB).size)
  have HN2 := hide hn.old
  have HC2 := hide hcp
  clear hn hcp
  clear HB 
  have HB := hide hb1
  clear hb hb1
  go_wp2_with fail
  refine (toIntS_any sa set sc _ ((unhide HS).on (unhide HB))).mono ?_
  rintro e w2b ⟨gi, rfl, hb, hsn, _, _⟩
  rw [← hb.cell (p := ⟨w.heap.size, _, none⟩) (by simp; omega)] at x0 x1
  have hz2b := hb.size
  have hb1 := (unhide HB).trans (hb.mono (unhide HB).size)
  have HN2b := hide ((unhide HN2).on hb)
  have HC2b := hide ((unhide HC2).on hb)
  have HSN2b := hide hsn
  clear hsn
  clear HB HN2 HC2
  have HB := hide hb1
  clear hb hb1
  go_wp2_with fail
  refine (toIntS_any ra too rc _ ((unhide HR).on (unhide HB))).mono ?_
  rintro e w2c ⟨gr, rfl, hb, hsn, _, _⟩
  rw [← hb.cell (p := ⟨w.heap.size, _, none⟩) (by simp; omega)] at x0 x1
  have hz2c := hb.size
  have hb1 := (unhide HB).trans (hb.mono (unhide HB).size)
  have HN2c := hide ((unhide HN2b).on hb)
  have HC2c := hide ((unhide HC2b).on hb)
  have HSN2c := hide ((unhide HSN2b).on hb)
  have HRN2c := hide hsn
  clear hsn
  clear HB HN2b HC2b HSN2b
  have HB := hide hb1
  clear hb hb1
  go_wp2_with fail
  refine (toStepS_any ta ss tc _ ((unhide HTS).on (unhide HB))).mono ?_
  rintro e w2d ⟨gt, rfl, hb, hst⟩
  rw [← hb.cell (p := ⟨w.heap.size, _, none⟩) (by simp; omega)] at x0 x1
  have hz2d := hb.size
  have hb1 := (unhide HB).trans (hb.mono (unhide HB).size)
  have HN2d := hide ((unhide HN2c).on hb)
  have HC2d := hide ((unhide HC2c).on hb)
  have HSN2d := hide ((unhide HSN2c).on hb)
  have HRN2d := hide ((unhide HRN2c).on hb)
  have HST2d := hide (steps_at hst (by omega))
  clear hst
  clear HB HN2c HC2c HSN2c HRN2c
  have HB := hide hb1
  clear hb hb1
  go_wp2_with fail
  refine (specPlanOk_any _ l _ room _ set _ _ too _ _ ss _ _ (unhide HN2d) (unhide HC2d) (unhide HSN2d) (fun e => by cases e) (unhide HRN2d) (unhide HST2d)).mono ?_
  rintro e w3 ⟨rfl, hb⟩
  rw [← hb.cell (p := ⟨w.heap.size, _, none⟩) (by simp; omega)] at x0 x1
  have hz3 := hb.size
  have hb1 := (unhide HB).trans (hb.mono (unhide HB).size)
  clear HN2d HC2d HSN2d HRN2d HST2d
  clear HB 
  have HB := hide hb1
  clear hb hb1
  go_wp2_with fail
  refine (toRepo_any a l cap room _ ((unhide HV).on (unhide HB)) hrs1).mono ?_
  rintro e w4 ⟨g2, rfl, hb, hn⟩
  rw [← hb.cell (p := ⟨w.heap.size, _, none⟩) (by simp; omega)] at x0 x1
  have hz4 := hb.size
  have hb1 := (unhide HB).trans (hb.mono (unhide HB).size)
  have HP4 := hide hn.old
  clear hn
  clear HB 
  have HB := hide hb1
  clear hb hb1
  go_wp2_with fail
  obtain ⟨w5, hw5⟩ : ∃ w5, w5 = w4.alloc (.cells #[.slice (some ⟨g2, 0, none⟩) l.length l.length, .int .i64 room] 33) := ⟨_, rfl⟩
  rw [← hw5]
  have hb : Below w4.heap.size w4 w5 := by rw [hw5]; exact (Below.refl _ _).alloc (Nat.le_refl _) _
  have y0 : w5.cell? ⟨w4.heap.size, 0, none⟩ = some (.slice (some ⟨g2, 0, none⟩) l.length l.length) := by rw [hw5]; simp
  have y1 : w5.cell? ⟨w4.heap.size, 1, none⟩ = some (.int .i64 room) := by rw [hw5]; simp
  have hzw5 : w4.heap.size < w5.heap.size := by rw [hw5]; simp
  clear hw5
  rw [← hb.cell (p := ⟨w.heap.size, _, none⟩) (by simp; omega)] at x0 x1
  have hz5 := hb.size
  have hb1 := (unhide HB).trans (hb.mono (unhide HB).size)
  have HP5 := hide ((unhide HP4).on hb)
  clear HB HP4
  have HB := hide hb1
  clear hb hb1
  refine (toIntS_any sa set sc _ ((unhide HS).on (unhide HB))).mono ?_
  rintro e w5b ⟨gx, rfl, hb, hsx, _, _⟩
  rw [← hb.cell (p := ⟨w.heap.size, _, none⟩) (by simp; omega)] at x0 x1
  rw [← hb.cell (p := ⟨w4.heap.size, _, none⟩) (by simp; omega)] at y0 y1
  have hz5b := hb.size
  have hb1 := (unhide HB).trans (hb.mono (unhide HB).size)
  have HP5b := hide ((unhide HP5).on hb)
  have HSX5b := hide hsx
  clear hsx
  clear HB HP5
  have HB := hide hb1
  clear hb hb1
  go_wp2_with fail
  refine (toIntS_any ra too rc _ ((unhide HR).on (unhide HB))).mono ?_
  rintro e w5c ⟨gy, rfl, hb, hsx, _, _⟩
  rw [← hb.cell (p := ⟨w.heap.size, _, none⟩) (by simp; omega)] at x0 x1
  rw [← hb.cell (p := ⟨w4.heap.size, _, none⟩) (by simp; omega)] at y0 y1
  have hz5c := hb.size
  have hb1 := (unhide HB).trans (hb.mono (unhide HB).size)
  have HP5c := hide ((unhide HP5b).on hb)
  have HSX5c := hide ((unhide HSX5b).on hb)
  have HRX5c := hide hsx
  clear hsx
  clear HB HP5b HSX5b
  have HB := hide hb1
  clear hb hb1
  go_wp2_with fail
  refine (toStepS_any ta ss tc _ ((unhide HTS).on (unhide HB))).mono ?_
  rintro e w5d ⟨gj, rfl, hb, hst⟩
  rw [← hb.cell (p := ⟨w.heap.size, _, none⟩) (by simp; omega)] at x0 x1
  rw [← hb.cell (p := ⟨w4.heap.size, _, none⟩) (by simp; omega)] at y0 y1
  have hz5d := hb.size
  have hb1 := (unhide HB).trans (hb.mono (unhide HB).size)
  have HP5d := hide ((unhide HP5c).on hb)
  have HSX5d := hide ((unhide HSX5c).on hb)
  have HRX5d := hide ((unhide HRX5c).on hb)
  have HTX5d := hide (steps_at hst (by omega))
  clear hst
  clear HB HP5c HSX5c HRX5c
  have HB := hide hb1
  clear hb hb1
  go_wp2_with fail
  refine (implPlanOk_any _ l _ room _ set _ _ too _ _ ss _ _ (unhide HP5d) (unhide HSX5d) (unhide HRX5d) (unhide HTX5d)).mono ?_
  rintro e w7 ⟨rfl, hb⟩
  rw [← hb.cell (p := ⟨w.heap.size, _, none⟩) (by simp; omega)] at x0 x1
  rw [← hb.cell (p := ⟨w4.heap.size, _, none⟩) (by simp; omega)] at y0 y1
  have hz7 := hb.size
  have hb1 := (unhide HB).trans (hb.mono (unhide HB).size)
  have HP7 := hide ((unhide HP5d).on hb)
  have HSX7 := hide ((unhide HSX5d).on hb)
  have HRX7 := hide ((unhide HRX5d).on hb)
  have HTX7 := hide ((unhide HTX5d).on hb)
  clear HB HP5d HSX5d HRX5d HTX5d
  have HB := hide hb1
  clear hb hb1
  generalize planOkZ l room set too ss = bb
  have HT := hide (fun W (hW : Below w7.heap.size w7 W) => toRepo_any a l cap room W (((unhide HV).on (unhide HB)).on hW) hrs1)
  go_wp2_with fail
  go_cut [61] from 57 to 61 (fun s wx => s = .bool false ∧ Below w7.heap.size w7 wx)
  case first =>
    go_region_with (first
      | (go_at_call 9; refine (unhide HT _ ?_).mono ?_; exact (Below.refl _ _).drew; rintro e wA ⟨gA, rfl, hbA, hnA⟩; have hA : Below w7.heap.size w7 wA := (Below.refl w7.heap.size w7).drew.trans hbA; have a0 := (hA.cell (p := ⟨w4.heap.size, 0, none⟩) (by simp; omega)).trans y0; have a1 := (hA.cell (p := ⟨w4.heap.size, 1, none⟩) (by simp; omega)).trans y1; have HA := hide hA; have HNA := hide hnA.old; clear hbA hA hnA)
      | (go_at_call 14; refine (eqRepo_any _ _ l _ _ room _ ((unhide HP7).on (unhide HA)) (unhide HNA)).mono ?_; rintro e wC ⟨rfl, hbC⟩))
    all_goals (go_wp2_with fail; go_meet; exact ⟨rfl, (unhide HA).trans (hbC.mono (unhide HA).size)⟩)
  case rest =>
  obtain ⟨rfl, hb⟩ := hcut
  rename World => w8
  clear HT
  rw [← hb.cell (p := ⟨w.heap.size, _, none⟩) (by simp; omega)] at x0 x1
  rw [← hb.cell (p := ⟨w4.heap.size, _, none⟩) (by simp; omega)] at y0 y1
  have hz8 := hb.size
  have hb1 := (unhide HB).trans (hb.mono (unhide HB).size)
  have HP8 := hide ((unhide HP7).on hb)
  have HSX8 := hide ((unhide HSX7).on hb)
  have HRX8 := hide ((unhide HRX7).on hb)
  have HTX8 := hide ((unhide HTX7).on hb)
  clear HB HP7 HSX7 HRX7 HTX7
  have HB := hide hb1
  clear hb hb1
  clear x0 x1 y0 y1
  go_wp2_with fail
  refine (toIntS_any sa set sc _ ((unhide HS).on (unhide HB))).mono ?_
  rintro e w8b ⟨g8, rfl, hb, hsy, _, _⟩
  have hz8b := hb.size
  have hb1 := (unhide HB).trans (hb.mono (unhide HB).size)
  have HP8b := hide ((unhide HP8).on hb)
  have HSX8b := hide ((unhide HSX8).on hb)
  have HRX8b := hide ((unhide HRX8).on hb)
  have HTX8b := hide ((unhide HTX8).on hb)
  have HSY := hide hsy
  clear hsy
  clear HB HP8 HSX8 HRX8 HTX8
  have HB := hide hb1
  clear hb hb1
  go_wp2_with fail
  refine (eqIntS_same _ _ set _ _ _ (unhide HSX8b) (unhide HSY)).mono ?_
  rintro e w8c ⟨rfl, hb⟩
  clear HSY
  have hz8c := hb.size
  have hb1 := (unhide HB).trans (hb.mono (unhide HB).size)
  have HP8c := hide ((unhide HP8b).on hb)
  have HSX8c := hide ((unhide HSX8b).on hb)
  have HRX8c := hide ((unhide HRX8b).on hb)
  have HTX8c := hide ((unhide HTX8b).on hb)
  clear HB HP8b HSX8b HRX8b HTX8b
  have HB := hide hb1
  clear hb hb1
  go_wp2_with fail
  refine (toIntS_any ra too rc _ ((unhide HR).on (unhide HB))).mono ?_
  rintro e w8d ⟨g9, rfl, hb, hsy, _, _⟩
  have hz8d := hb.size
  have hb1 := (unhide HB).trans (hb.mono (unhide HB).size)
  have HP8d := hide ((unhide HP8c).on hb)
  have HSX8d := hide ((unhide HSX8c).on hb)
  have HRX8d := hide ((unhide HRX8c).on hb)
  have HTX8d := hide ((unhide HTX8c).on hb)
  have HSY := hide hsy
  clear hsy
  clear HB HP8c HSX8c HRX8c HTX8c
  have HB := hide hb1
  clear hb hb1
  go_wp2_with fail
  refine (eqIntS_same _ _ too _ _ _ (unhide HRX8d) (unhide HSY)).mono ?_
  rintro e w8e ⟨rfl, hb⟩
  clear HSY
  have hz8e := hb.size
  have hb1 := (unhide HB).trans (hb.mono (unhide HB).size)
  have HP8e := hide ((unhide HP8d).on hb)
  have HSX8e := hide ((unhide HSX8d).on hb)
  have HRX8e := hide ((unhide HRX8d).on hb)
  have HTX8e := hide ((unhide HTX8d).on hb)
  clear HB HP8d HSX8d HRX8d HTX8d
  have HB := hide hb1
  clear hb hb1
  go_wp2_with fail
  refine (toStepS_any ta ss tc _ ((unhide HTS).on (unhide HB))).mono ?_
  rintro e w8f ⟨g10, rfl, hb, hst⟩
  have hz8f := hb.size
  have hb1 := (unhide HB).trans (hb.mono (unhide HB).size)
  have HP8f := hide ((unhide HP8e).on hb)
  have HSX8f := hide ((unhide HSX8e).on hb)
  have HRX8f := hide ((unhide HRX8e).on hb)
  have HTX8f := hide ((unhide HTX8e).on hb)
  have HSY := hide (steps_at hst (by omega))
  clear hst
  clear HB HP8e HSX8e HRX8e HTX8e
  have HB := hide hb1
  clear hb hb1
  go_wp2_with fail
  refine (eqStepS_any _ ss _ _ _ _ (unhide HTX8f) (unhide HSY)).mono ?_
  rintro e w8g ⟨rfl, hb⟩
  have HB9 := hide ((unhide HB).trans (hb.mono (unhide HB).size))
  clear hb HB
  go_wp2_with fail
  go_ret
  exact ⟨rfl, unhide HB9⟩
end Go.Proofs.YthkhaemlcmkkjaxGreat
