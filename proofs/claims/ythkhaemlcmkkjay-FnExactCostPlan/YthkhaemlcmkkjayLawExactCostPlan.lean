/- The walk of the law FnExactCostPlan: at every argument it answers true, and writes nothing that was there. -/
import Derived.Test.YthkhaemlcmkkjaySz
import Derived.Test.YthkhaemlcmkkjayEq
import Derived.Test.YthkhaemlcmkkjayToSS
import Derived.Test.YthkhaemlcmkkjayCostB
import Derived.Test.YthkhaemlcmkkjayCostT
import Derived.Deep.RegionWith
import Derived.Test.YthkhaemlcmkkjayStepsM
namespace Go.Proofs.Ythkhaemlcmkkjay
set_option linter.unusedVariables false
set_option linter.unusedSimpArgs false
open Go.RowKit Go.Deep

theorem PacksAt.old {w w' : World} {a : Option Addr} {l : List PackD} (h : PacksAt (New w w') w' a l) : PacksAt (Old w') w' a l := h.wider fun _ _ hb => hb.2.lt
theorem steps_at {B n c : Nat} {w : World} {a : Option Addr} {ss : List StepD} (h : SR B w (.slice a n c) ss) (hl : ss.length ≤ 1048576) : StepsAt w a ss := by
  obtain ⟨a', c', e, hs⟩ := SR.at h hl
  simp at e
  obtain ⟨rfl, _⟩ := e
  exact hs

set_option maxRecDepth 100000 in
set_option maxHeartbeats 8000000 in
theorem law_any (a : Option Addr) (l : List PackD) (cap : Nat) (room : Int) (ta : Option Addr) (ss : List StepD) (tc : Nat) (w : World) (h : PacksAt (Old w) w a l) (hts1 : ss.length ≤ maxLen) (hts : ss = [] ∨ ∃ b o, ta = some ⟨b, o, none⟩ ∧ b < w.heap.size ∧ ∀ i, i < ss.length → w.cell? ⟨b, o + i * 3, none⟩ = some (.int .i64 (ss.getD i dStep).kind) ∧ w.cell? ⟨b, o + i * 3 + 1, none⟩ = some (.int .i64 (ss.getD i dStep).inn) ∧ w.cell? ⟨b, o + i * 3 + 2, none⟩ = some (.int .i64 (ss.getD i dStep).out)) :
    Calls Try.prog 5 #[.agg #[.slice a l.length cap, .int .i64 room], .slice ta ss.length tc] w fun e w' => e = .returned (.bool true) ∧ Below w.heap.size w w' := by
  unfold maxLen at hts1
  have HV := hide h
  clear h
  go_enter Try.func5, Try.ntmps5
  have bA := (Below.refl w.heap.size w).alloc (Nat.le_refl _) (.cells #[.slice a l.length cap, .int .i64 room] 24)
  go_wp2_with fail
  refine (szRepo_any a l cap room 1048576 _ ((unhide HV).on bA) (by omega) (by omega)).mono ?_
  rintro e w1 ⟨⟨r1, rfl, hr1⟩, hb⟩
  have x0 := hb.cell (p := ⟨w.heap.size, 0, none⟩) (by simp)
  have x1 := hb.cell (p := ⟨w.heap.size, 1, none⟩) (by simp)
  have hz := hb.size
  simp at x0 x1 hz
  have HB := hide (bA.trans (hb.mono (by simp)))
  clear hb bA
  rcases hr1 with hr1 | ⟨hr10, hr11, hrs1⟩
  · go_wp2_with fail
    go_ret
    exact ⟨rfl, unhide HB⟩
  have hn1 : ¬ r1 < 0 := by omega
  go_wp2_with fail
  refine (szStepS_any ta ss.length tc r1 _ hts1 (by omega) (by omega)).mono ?_
  rintro e w1b ⟨⟨r2, rfl, hr2⟩, hb⟩
  rw [← hb.cell (p := ⟨w.heap.size, _, none⟩) (by simp; omega)] at x0 x1
  have hz1b := hb.size
  have hb1 := (unhide HB).trans (hb.mono (unhide HB).size)
  clear HB 
  have HB := hide hb1
  clear hb hb1
  rcases hr2 with hr2 | ⟨hr20, hr21⟩
  · go_wp2_with fail
    go_ret
    exact ⟨rfl, unhide HB⟩
  have hn2 : ¬ r2 < 0 := by omega
  have HTS := hide (show StepsAt w ta ss from ⟨hr21, hts⟩)
  clear hts
  obtain ⟨cz, hcz⟩ : ∃ cz, cz = costPlanZ l room ss := ⟨_, rfl⟩
  have HCZ := hide hcz.symm
  clear hcz
  go_wp2_with fail
  refine (toRepo_any a l cap room _ ((unhide HV).on (unhide HB)) hrs1).mono ?_
  rintro e w2 ⟨g1, rfl, hb, hn⟩
  rw [← hb.cell (p := ⟨w.heap.size, _, none⟩) (by simp; omega)] at x0 x1
  have hz2 := hb.size
  have hb1 := (unhide HB).trans (hb.mono (unhide HB).size)
  have HN := hide hn.old
  clear hn
  clear HB 
  have HB := hide hb1
  clear hb hb1
  go_wp2_with fail
  refine (toStepS_any ta ss tc _ ((unhide HTS).on (unhide HB))).mono ?_
  rintro e w2b ⟨gt, rfl, hb, hst⟩
  rw [← hb.cell (p := ⟨w.heap.size, _, none⟩) (by simp; omega)] at x0 x1
  have hz2b := hb.size
  have hb1 := (unhide HB).trans (hb.mono (unhide HB).size)
  have HN2 := hide ((unhide HN).on hb)
  have HST := hide (steps_at hst (by omega))
  clear hst
  clear HB HN
  have HB := hide hb1
  clear hb hb1
  have HCO := hide (specCostPlan_any _ l l.length room _ ss ss.length w2b (unhide HN2) (unhide HST))
  rw [unhide HCZ] at HCO
  go_wp2_with fail
  refine (unhide HCO).mono ?_
  rintro e w3 ⟨rfl, hb⟩
  clear HCO HN2 HST
  rw [← hb.cell (p := ⟨w.heap.size, _, none⟩) (by simp; omega)] at x0 x1
  have hz3 := hb.size
  have hb1 := (unhide HB).trans (hb.mono (unhide HB).size)
  clear HB 
  have HB := hide hb1
  clear hb hb1
  go_wp2_with fail
  refine (toRepo_any a l cap room _ ((unhide HV).on (unhide HB)) hrs1).mono ?_
  rintro e w4 ⟨g2, rfl, hb, hn⟩
  rw [← hb.cell (p := ⟨w.heap.size, _, none⟩) (by simp; omega)] at x0 x1
  have hz4 := hb.size
  have hb1 := (unhide HB).trans (hb.mono (unhide HB).size)
  have HN := hide hn.old
  clear hn
  clear HB 
  have HB := hide hb1
  clear hb hb1
  go_upto_region 10 with fail
  obtain ⟨w4b, hw4b⟩ : ∃ w4b, w4b = w4.alloc (.cells #[.slice (some ⟨g2, 0, none⟩) l.length l.length, .int .i64 room] 31) := ⟨_, rfl⟩
  rw [← hw4b]
  have hb : Below w4.heap.size w4 w4b := by rw [hw4b]; exact (Below.refl _ _).alloc (Nat.le_refl _) _
  have y0 : w4b.cell? ⟨w4.heap.size, 0, none⟩ = some (.slice (some ⟨g2, 0, none⟩) l.length l.length) := by rw [hw4b]; simp
  have y1 : w4b.cell? ⟨w4.heap.size, 1, none⟩ = some (.int .i64 room) := by rw [hw4b]; simp
  have hlt4 : w4.heap.size < w4b.heap.size := by rw [hw4b]; simp
  clear hw4b
  rw [← hb.cell (p := ⟨w.heap.size, _, none⟩) (by simp; omega)] at x0 x1
  have hz4b := hb.size
  have hb1 := (unhide HB).trans (hb.mono (unhide HB).size)
  have HN4 := hide ((unhide HN).on hb)
  clear HB HN
  have HB := hide hb1
  clear hb hb1
  go_wp2_with fail
  refine (toStepS_any ta ss tc _ ((unhide HTS).on (unhide HB))).mono ?_
  rintro e w4c ⟨gs, rfl, hb, hst⟩
  rw [← hb.cell (p := ⟨w.heap.size, _, none⟩) (by simp; omega)] at x0 x1
  rw [← hb.cell (p := ⟨w4.heap.size, _, none⟩) (by simp; omega)] at y0 y1
  have hz4c := hb.size
  have hb1 := (unhide HB).trans (hb.mono (unhide HB).size)
  have HN5 := hide ((unhide HN4).on hb)
  have HSJ := hide (steps_at hst (by omega))
  clear hst
  clear HB HN4
  have HB := hide hb1
  clear hb hb1
  have HCI := hide (implCostPlan_any _ l l.length room _ ss ss.length w4c (unhide HN5) (unhide HSJ))
  rw [unhide HCZ] at HCI
  go_wp2_with fail
  refine (unhide HCI).mono ?_
  rintro e w5 ⟨rfl, hb⟩
  clear HCI
  rw [← hb.cell (p := ⟨w.heap.size, _, none⟩) (by simp; omega)] at x0 x1
  rw [← hb.cell (p := ⟨w4.heap.size, _, none⟩) (by simp; omega)] at y0 y1
  have hz5 := hb.size
  have hb1 := (unhide HB).trans (hb.mono (unhide HB).size)
  have HN := hide ((unhide HN5).on hb)
  have HSJ5 := hide ((unhide HSJ).on hb)
  clear HB HN5 HSJ
  have HB := hide hb1
  clear hb hb1
  have H6 := hide (fun W (hW : Below w5.heap.size w5 W) => toRepo_any a l cap room W (((unhide HV).on (unhide HB)).on hW) hrs1)
  go_wp2_with fail
  go_region_with (first
    | (go_at_call 8; refine (unhide H6 _ ?_).mono ?_; exact (Below.refl _ _).drew; rintro e w6 ⟨g3, rfl, hb6, hn6⟩; have hb6' : Below w5.heap.size w5 w6 := (Below.refl w5.heap.size w5).drew.trans hb6; have q0 := (hb6'.cell (p := ⟨w4.heap.size, 0, none⟩) (by simp; omega)).trans y0; have q1 := (hb6'.cell (p := ⟨w4.heap.size, 1, none⟩) (by simp; omega)).trans y1; have HB6 := hide hb6'; have HN6 := hide hn6.old; clear hb6 hb6' hn6)
    | (go_at_call 12; refine (eqRepo_any _ _ l _ _ room _ ((unhide HN).on (unhide HB6)) (unhide HN6)).mono ?_; rintro e w7 ⟨rfl, hb7⟩))
  all_goals
    have HB7 := hide ((unhide HB6).trans (hb7.mono (unhide HB6).size))
    have HBB := hide ((unhide HB).trans ((unhide HB7).mono (unhide HB).size))
    have H8 := hide (fun W (hW : Below w7.heap.size w7 W) => toStepS_any ta ss tc W (((unhide HTS).on (unhide HBB)).on hW))
    clear hb7
    go_wp2_with (first
      | (go_at_call 23; refine (unhide H8 _ (Below.refl _ _)).mono ?_; rintro e w8 ⟨g8, rfl, hb8, hs8⟩; have HB8 := hide hb8; have HS8 := hide (steps_at hs8 (by omega)); clear hb8 hs8)
      | (go_at_call 25; refine (eqStepS_any _ ss _ _ _ _ (((unhide HSJ5).on (unhide HB7)).on (unhide HB8)) (unhide HS8)).mono ?_; rintro e w9 ⟨rfl, hb9⟩; have HB9 := hide hb9; clear hb9))
    go_ret
    exact ⟨rfl, (unhide HBB).trans (((unhide HB8).trans ((unhide HB9).mono (unhide HB8).size)).mono (unhide HBB).size)⟩
end Go.Proofs.Ythkhaemlcmkkjay
