/- The walk of the law FnPlanOk: of every code it answers true, and writes nothing that was there. -/
import Derived.Test.YthkhaemlcmkkjadGDx
import Derived.Test.YthkhaemlcmkkjadGPl
import Derived.Test.YthkhaemlcmkkjadLdInts
namespace Go.Proofs.Ythkhaemlcmkkjad
set_option linter.unusedVariables false
set_option linter.unusedSimpArgs false
open Go.RowKit Go.Deep

set_option maxRecDepth 100000 in
set_option maxHeartbeats 8000000 in
theorem planok_law (a : Option Addr) (n c : Nat) (w : World) (h : CodeAt w.heap.size w a n) (hc : n ≤ c) (hc2 : c ≤ maxLen) :
    Calls Try.prog 8 #[.slice a n c] w fun e w' => e = .returned (.bool true) ∧ Below w.heap.size w w' := by
  have hmx := hc2
  unfold maxLen at hmx
  by_cases hbig : 1048576 < n
  · have hb' : (1048576 : Int) < (n : Int) := by omega
    go_enter Try.func8, Try.ntmps8
    go_wp2_with fail
    go_ret
    exact ⟨rfl, Below.refl _ _⟩
  have hb' : ¬ (1048576 : Int) < (n : Int) := by omega
  go_enter Try.func8, Try.ntmps8
  go_wp2_with fail
  refine (DrawPlanOk_V a n c w h (by omega) hc hc2).mono ?_
  rintro e w1 ⟨⟨v, room, u, tv, qv, rfl, hV, ⟨set, hrow, hsl⟩, ⟨too, hrow2, hsl2⟩, ss, hst, hss⟩, b1⟩
  obtain ⟨va, vn, vc, rfl, _⟩ := SlBy.slice hV
  obtain ⟨l, rfl, hP⟩ := V2.packs hV
  obtain ⟨sa, sc, hu, hset⟩ := RowI.set hrow (by omega)
  subst hu
  obtain ⟨ta, tc, hu2, hset2⟩ := RowI.set hrow2 (by omega)
  subst hu2
  obtain ⟨qa, qc, hu3, _, _, hSt⟩ := StepsAt.of_row hst (by omega)
  subst hu3
  have HSC : Hid (sa = none → sc = 0) := row_cap0 hrow
  have HC1 := hide (V2.caps hV hP)
  have HP1 := hide hP
  have HS1 := hide hset
  have HT1 := hide hset2
  have HQ1 := hide hSt
  have HB1 := hide b1
  clear hV hrow hP hset b1 h hrow2 hset2 hst hSt
  go_upto_region 4 with fail
  obtain ⟨w2, hw2⟩ : ∃ w2, w2 = w1.alloc (.cells #[.slice va l.length vc, .int .i64 room] 25) := ⟨_, rfl⟩
  rw [← hw2]
  have b2 : Below w1.heap.size w1 w2 := by rw [hw2]; exact (Below.refl _ _).alloc (Nat.le_refl _) _
  have x0 : w2.cell? ⟨w1.heap.size, 0, none⟩ = some (.slice va l.length vc) := by rw [hw2]; simp
  have x1 : w2.cell? ⟨w1.heap.size, 1, none⟩ = some (.int .i64 room) := by rw [hw2]; simp
  have hlt2 : w1.heap.size < w2.heap.size := by rw [hw2]; simp
  have HP2 := hide ((unhide HP1).on b2)
  have HS2 := hide ((unhide HS1).on b2)
  have HC2 := hide ((unhide HC1).on b2)
  have HT2 := hide ((unhide HT1).on b2)
  have HQ2 := hide ((unhide HQ1).on b2)
  have HB2 := hide ((unhide HB1).trans (b2.mono (unhide HB1).size))
  clear hw2 b2 HP1 HS1 HB1 HC1 HT1 HQ1
  go_wp2_with fail
  refine (implPlanOk_any va l vc room sa set sc ta too tc qa ss qc w2 (unhide HP2) (unhide HS2) (unhide HT2) (unhide HQ2)).mono ?_
  rintro e w3 ⟨rfl, b3⟩
  have HP3 := hide ((unhide HP2).on b3)
  have HS3 := hide ((unhide HS2).on b3)
  have HC3 := hide ((unhide HC2).on b3)
  have HT3 := hide ((unhide HT2).on b3)
  have HQ3 := hide ((unhide HQ2).on b3)
  have HB3 := hide ((unhide HB2).trans (b3.mono (unhide HB2).size))
  have hlt3 : w1.heap.size < w3.heap.size := Nat.lt_of_lt_of_le hlt2 b3.size
  rw [← b3.cell (p := ⟨w1.heap.size, _, none⟩) hlt2] at x0 x1
  clear HB2 b3 hlt2 HP2 HS2 HC2 HT2 HQ2
  have hl8 := planZ_len (l := l) (room := room) (set := set) (ss := ss)
  have HDO := hide (implPlanDo_any va l vc room sa set sc qa ss qc w3 (unhide HP3) (unhide HS3) (unhide HQ3))
  have HE : Hid (planOkZ l room set too ss = match planZ l room set ss with
    | none => false
    | some t => decide (t = too)) := rfl
  have HE2 : Hid (∀ t, planZ l room set ss = some t → planOkZ l room set t ss = true) := fun t h => by unfold planOkZ; rw [h]; simp
  go_wp2_with fail
  refine (unhide HDO).mono ?_
  rintro e w4 ⟨⟨v4, rfl, hr4⟩, b4⟩
  obtain ⟨xa, xc, hxv, hx4⟩ := RowI.set hr4 (by omega)
  subst hxv
  have HX4 := hide hx4
  have HP4 := hide ((unhide HP3).on b4)
  have HS4 := hide ((unhide HS3).on b4)
  have HC4 := hide ((unhide HC3).on b4)
  have HT4 := hide ((unhide HT3).on b4)
  have HQ4 := hide ((unhide HQ3).on b4)
  have HB4 := hide ((unhide HB3).trans (b4.mono (unhide HB3).size))
  have hlt4 : w1.heap.size < w4.heap.size := Nat.lt_of_lt_of_le hlt3 b4.size
  rw [← b4.cell (p := ⟨w1.heap.size, _, none⟩) hlt3] at x0 x1
  clear HB3 b4 hlt3 HP3 HS3 HC3 HT3 HQ3
  clear hr4 hx4 HDO
  go_wp2_with fail
  refine (specPlanOk_any va l vc room sa set sc ta too tc qa ss qc w4 (unhide HP4) (unhide HC4) (unhide HS4) (unhide HSC) (unhide HT4) (unhide HQ4)).mono ?_
  rintro e w5 ⟨rfl, b5⟩
  have HP5 := hide ((unhide HP4).on b5)
  have HS5 := hide ((unhide HS4).on b5)
  have HC5 := hide ((unhide HC4).on b5)
  have HT5 := hide ((unhide HT4).on b5)
  have HQ5 := hide ((unhide HQ4).on b5)
  have HX5 := hide ((unhide HX4).on b5)
  have HB5 := hide ((unhide HB4).trans (b5.mono (unhide HB4).size))
  have hlt5 : w1.heap.size < w5.heap.size := Nat.lt_of_lt_of_le hlt4 b5.size
  rw [← b5.cell (p := ⟨w1.heap.size, _, none⟩) hlt4] at x0 x1
  clear HB4 b5 hlt4 HP4 HS4 HC4 HT4 HQ4 HX4
  generalize hpd : planZ l room set ss = od at HE HE2 hl8 HX5 ⊢
  clear hpd
  cases od with
  | none =>
    have HF := hide (show planOkZ l room set too ss = false from unhide HE)
    rw [unhide HF]
    clear HE HE2
    simp only [Option.isSome_none]
    go_wp2_with fail
    go_ret
    exact ⟨by simp, unhide HB5⟩
  | some t =>
    have HF := hide (show planOkZ l room set too ss = decide (t = too) from unhide HE)
    have HF2 := hide (unhide HE2 t rfl)
    rw [unhide HF]
    clear HE HE2
    simp only [Option.isSome_some, Option.getD_some] at HX5 ⊢
    have HLI := hide (ldIntsZ_any xa t xc ta too tc w5 (unhide HX5) (unhide HT5))
    generalize decide (t = too) = bb at HF HLI ⊢
    go_wp2_with fail
    refine (unhide HLI).mono ?_
    rintro e w6 ⟨rfl, b6⟩
    have HP6 := hide ((unhide HP5).on b6)
    have HS6 := hide ((unhide HS5).on b6)
    have HC6 := hide ((unhide HC5).on b6)
    have HT6 := hide ((unhide HT5).on b6)
    have HQ6 := hide ((unhide HQ5).on b6)
    have HX6 := hide ((unhide HX5).on b6)
    have HB6 := hide ((unhide HB5).trans (b6.mono (unhide HB5).size))
    have hlt6 : w1.heap.size < w6.heap.size := Nat.lt_of_lt_of_le hlt5 b6.size
    rw [← b6.cell (p := ⟨w1.heap.size, _, none⟩) hlt5] at x0 x1
    clear HB5 b6 hlt5 HP5 HS5 HC5 HT5 HQ5 HX5
    clear HLI HF
    go_wp2_with fail
    refine (implPlanOk_any va l vc room sa set sc xa t xc qa ss qc w6 (unhide HP6) (unhide HS6) (unhide HX6) (unhide HQ6)).mono ?_
    rintro e w7 ⟨rfl, b7⟩
    rw [unhide HF2]
    have HB7 := hide ((unhide HB6).trans (b7.mono (unhide HB6).size))
    clear b7 HB6 HF2
    go_wp2_with fail
    go_ret
    exact ⟨by simp, unhide HB7⟩
end Go.Proofs.Ythkhaemlcmkkjad
