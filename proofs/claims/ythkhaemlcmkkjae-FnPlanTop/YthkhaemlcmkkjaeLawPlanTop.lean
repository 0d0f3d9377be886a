/- The walk of the law FnPlanTop: of every code it answers true, and writes nothing that was there. -/
import Derived.Test.YthkhaemlcmkkjaeGDx
import Derived.Test.YthkhaemlcmkkjaeGPl
import Derived.Test.YthkhaemlcmkkjaeStepsA
import Derived.Test.YthkhaemlcmkkjaeGSf
import Derived.Test.YthkhaemlcmkkjaeGRf
import Derived.Test.YthkhaemlcmkkjaePfT
namespace Go.Proofs.Ythkhaemlcmkkjae
set_option linter.unusedVariables false
set_option linter.unusedSimpArgs false
open Go.RowKit Go.Deep

set_option maxRecDepth 100000 in
set_option maxHeartbeats 8000000 in
theorem plantop_law (a : Option Addr) (n c : Nat) (w : World) (h : CodeAt w.heap.size w a n) (hc : n ≤ c) (hc2 : c ≤ maxLen) :
    Calls Try.prog 3 #[.slice a n c] w fun e w' => e = .returned (.bool true) ∧ Below w.heap.size w w' := by
  have hmx := hc2
  unfold maxLen at hmx
  by_cases hbig : 1048576 < n
  · have hb' : (1048576 : Int) < (n : Int) := by omega
    go_enter Try.func3, Try.ntmps3
    go_wp2_with fail
    go_ret
    exact ⟨rfl, Below.refl _ _⟩
  have hb' : ¬ (1048576 : Int) < (n : Int) := by omega
  go_enter Try.func3, Try.ntmps3
  go_wp2_with fail
  refine (DrawPlanOk_V a n c w h (by omega) hc hc2).mono ?_
  rintro e w1 ⟨⟨v, room, u, tv, qv, rfl, hV, ⟨set, hrow, hsl⟩, ⟨too, hrow2, hsl2⟩, ss, hst, hss⟩, b1⟩
  obtain ⟨va, vn, vc, rfl, _⟩ := SlBy.slice hV
  obtain ⟨l, rfl, hP⟩ := V2.packs hV
  obtain ⟨sa, sc, hu, hset⟩ := RowI.set hrow (by omega)
  subst hu
  obtain ⟨ta, tc, hu2, hset2⟩ := RowI.set hrow2 (by omega)
  subst hu2
  obtain ⟨qa, qc, hu3, _, _, hSt⟩ := StepsAt.of_row hst (by omega)
  subst hu3
  have HSC : Hid (sa = none → sc = 0) := row_cap0 hrow
  have HC1 := hide (V2.caps hV hP)
  have HP1 := hide hP
  have HS1 := hide hset
  have HT1 := hide hset2
  have HQ1 := hide hSt
  have HB1 := hide b1
  clear hV hrow hP hset b1 h hrow2 hset2 hst hSt
  go_upto_region 4 with fail
  obtain ⟨w2, hw2⟩ : ∃ w2, w2 = w1.alloc (.cells #[.slice va l.length vc, .int .i64 room] 25) := ⟨_, rfl⟩
  rw [← hw2]
  have b2 : Below w1.heap.size w1 w2 := by rw [hw2]; exact (Below.refl _ _).alloc (Nat.le_refl _) _
  have x0 : w2.cell? ⟨w1.heap.size, 0, none⟩ = some (.slice va l.length vc) := by rw [hw2]; simp
  have x1 : w2.cell? ⟨w1.heap.size, 1, none⟩ = some (.int .i64 room) := by rw [hw2]; simp
  have hlt2 : w1.heap.size < w2.heap.size := by rw [hw2]; simp
  have HP2 := hide ((unhide HP1).on b2)
  have HS2 := hide ((unhide HS1).on b2)
  have HC2 := hide ((unhide HC1).on b2)
  have HT2 := hide ((unhide HT1).on b2)
  have HQ2 := hide ((unhide HQ1).on b2)
  have HB2 := hide ((unhide HB1).trans (b2.mono (unhide HB1).size))
  clear hw2 b2 HP1 HS1 HB1 HC1 HT1 HQ1
  obtain ⟨od, hod⟩ : ∃ od, od = findZ l room set too := ⟨_, rfl⟩
  have hpl : (od.getD []).length ≤ 300 := by rw [hod]; exact find_len
  have HOD := hide hod
  have HCX3 := hide (specPlanFind_any va l vc room sa set sc ta too tc w2 (unhide HP2) (unhide HC2) (unhide HS2) (unhide HSC) (unhide HT2))
  rw [← hod] at HCX3
  have HCX4 := hide (fun x (hx : Below w2.heap.size w2 x) => implPlanFind_any va l vc room sa set sc ta too tc x ((unhide HP2).on hx) ((unhide HS2).on hx) ((unhide HT2).on hx))
  rw [← hod] at HCX4
  clear hod
  go_wp2_with fail
  refine (unhide HCX3).mono ?_
  rintro e w3 ⟨⟨v3, rfl, hr3⟩, b3⟩
  obtain ⟨pa, pc, hv3, _, _, hW3⟩ := StepsAt.of_row hr3 (by omega)
  subst hv3
  have HW3 := hide hW3
  have HC4b := hide (unhide HCX4 w3 b3)
  have HP3 := hide ((unhide HP2).on b3)
  have HS3 := hide ((unhide HS2).on b3)
  have HC3 := hide ((unhide HC2).on b3)
  have HT3 := hide ((unhide HT2).on b3)
  have HQ3 := hide ((unhide HQ2).on b3)
  have HB3 := hide ((unhide HB2).trans (b3.mono (unhide HB2).size))
  have hlt3 : w1.heap.size < w3.heap.size := Nat.lt_of_lt_of_le hlt2 b3.size
  rw [← b3.cell (p := ⟨w1.heap.size, _, none⟩) hlt2] at x0 x1
  clear HB2 b3 hlt2 HP2 HS2 HC2 HT2 HQ2
  clear hr3 hW3 HCX3 HCX4
  go_wp2_with fail
  refine (unhide HC4b).mono ?_
  rintro e w4 ⟨⟨v4, rfl, hr4⟩, b4⟩
  obtain ⟨ka, kc, hv4, _, _, hK4⟩ := StepsAt.of_row hr4 (by omega)
  subst hv4
  have HK4 := hide hK4
  have HP4 := hide ((unhide HP3).on b4)
  have HS4 := hide ((unhide HS3).on b4)
  have HC4 := hide ((unhide HC3).on b4)
  have HT4 := hide ((unhide HT3).on b4)
  have HQ4 := hide ((unhide HQ3).on b4)
  have HW4 := hide ((unhide HW3).on b4)
  have HB4 := hide ((unhide HB3).trans (b4.mono (unhide HB3).size))
  have hlt4 : w1.heap.size < w4.heap.size := Nat.lt_of_lt_of_le hlt3 b4.size
  rw [← b4.cell (p := ⟨w1.heap.size, _, none⟩) hlt3] at x0 x1
  clear HB3 b4 hlt3 HP3 HS3 HC3 HT3 HQ3 HW3
  clear hr4 hK4 HC4b
  have HLD := hide (ldSteps_same ka (od.getD []) kc pa pc w4 (unhide HK4) (unhide HW4))
  have HTOP : Hid (∀ P, od = some P → planOkZ l room set too P = true) := fun P hP => planOk_iff.2 (find_some ((unhide HOD).symm.trans hP)).2.2.2.1
  have HLEA : Hid (planOkZ l room set too ss = true → ∃ P, od = some P ∧ P.length ≤ ss.length) := fun h => by
    obtain ⟨P, h1, h2⟩ := find_least (planOk_iff.1 h)
    exact ⟨P, (unhide HOD).trans h1, h2⟩
  have HPK := hide (fun x (hx : Below w4.heap.size w4 x) => implPlanOk_any va l vc room sa set sc ta too tc qa ss qc x ((unhide HP4).on hx) ((unhide HS4).on hx) ((unhide HT4).on hx) ((unhide HQ4).on hx))
  obtain ⟨bb, hbb⟩ : ∃ bb, bb = planOkZ l room set too ss := ⟨_, rfl⟩
  rw [← hbb] at HPK HLEA
  clear hbb HOD
  cases od with
  | none =>
    have HBB := hide (show bb = false by
      cases h : bb with
      | false => rfl
      | true => obtain ⟨P, h1, _⟩ := unhide HLEA h; cases h1)
    rw [unhide HBB] at HPK
    clear HBB HLEA HTOP
    simp only [Option.getD_none, Option.isSome_none, List.length_nil] at HLD HK4 HW4 ⊢
    go_wp2_with fail
    refine (unhide HLD).mono ?_
    rintro e w5 ⟨rfl, b5⟩
    have HPK5 := hide (unhide HPK w5 b5)
    have HP5 := hide ((unhide HP4).on b5)
    have HS5 := hide ((unhide HS4).on b5)
    have HC5 := hide ((unhide HC4).on b5)
    have HT5 := hide ((unhide HT4).on b5)
    have HQ5 := hide ((unhide HQ4).on b5)
    have HW5 := hide ((unhide HW4).on b5)
    have HK5 := hide ((unhide HK4).on b5)
    have HB5 := hide ((unhide HB4).trans (b5.mono (unhide HB4).size))
    have hlt5 : w1.heap.size < w5.heap.size := Nat.lt_of_lt_of_le hlt4 b5.size
    rw [← b5.cell (p := ⟨w1.heap.size, _, none⟩) hlt4] at x0 x1
    clear HB4 b5 hlt4 HP4 HS4 HC4 HT4 HQ4 HW4 HK4
    clear HLD HPK
    go_wp2_with fail
    refine (unhide HPK5).mono ?_
    rintro e w6 ⟨rfl, b6⟩
    have HB6 := hide ((unhide HB5).trans (b6.mono (unhide HB5).size))
    clear b6 HB5 HPK5
    go_wp2_with fail
    go_ret
    exact ⟨rfl, unhide HB6⟩
  | some P =>
    have HLE2 : Hid (bb = true → P.length ≤ ss.length) := fun h => by
      obtain ⟨P', h1, h2⟩ := unhide HLEA h
      simp at h1
      rw [h1]; exact h2
    have HOKP := hide (unhide HTOP P rfl)
    clear HLEA HTOP
    simp only [Option.getD_some, Option.isSome_some] at HLD HK4 HW4 hpl ⊢
    have HPP := hide (fun x (hx : Below w4.heap.size w4 x) => implPlanOk_any va l vc room sa set sc ta too tc ka P kc x ((unhide HP4).on hx) ((unhide HS4).on hx) ((unhide HT4).on hx) ((unhide HK4).on hx))
    rw [unhide HOKP] at HPP
    clear HOKP
    go_wp2_with fail
    refine (unhide HLD).mono ?_
    rintro e w5 ⟨rfl, b5⟩
    have HPK5 := hide (unhide HPK w5 b5)
    have HPP5 := hide (fun x (hx : Below w5.heap.size w5 x) => unhide HPP x (b5.trans (hx.mono b5.size)))
    have HP5 := hide ((unhide HP4).on b5)
    have HS5 := hide ((unhide HS4).on b5)
    have HC5 := hide ((unhide HC4).on b5)
    have HT5 := hide ((unhide HT4).on b5)
    have HQ5 := hide ((unhide HQ4).on b5)
    have HW5 := hide ((unhide HW4).on b5)
    have HK5 := hide ((unhide HK4).on b5)
    have HB5 := hide ((unhide HB4).trans (b5.mono (unhide HB4).size))
    have hlt5 : w1.heap.size < w5.heap.size := Nat.lt_of_lt_of_le hlt4 b5.size
    rw [← b5.cell (p := ⟨w1.heap.size, _, none⟩) hlt4] at x0 x1
    clear HB4 b5 hlt4 HP4 HS4 HC4 HT4 HQ4 HW4 HK4
    clear HLD HPK HPP
    cases bb with
    | false =>
      clear HLE2
      go_wp2_with fail
      refine (unhide HPK5).mono ?_
      rintro e w6 ⟨rfl, b6⟩
      have HPP6 := hide (unhide HPP5 w6 b6)
      have HP6 := hide ((unhide HP5).on b6)
      have HS6 := hide ((unhide HS5).on b6)
      have HC6 := hide ((unhide HC5).on b6)
      have HT6 := hide ((unhide HT5).on b6)
      have HQ6 := hide ((unhide HQ5).on b6)
      have HW6 := hide ((unhide HW5).on b6)
      have HK6 := hide ((unhide HK5).on b6)
      have HB6 := hide ((unhide HB5).trans (b6.mono (unhide HB5).size))
      have hlt6 : w1.heap.size < w6.heap.size := Nat.lt_of_lt_of_le hlt5 b6.size
      rw [← b6.cell (p := ⟨w1.heap.size, _, none⟩) hlt5] at x0 x1
      clear HB5 b6 hlt5 HP5 HS5 HC5 HT5 HQ5 HW5 HK5
      clear HPK5 HPP5
      go_wp2_with fail
      refine (unhide HPP6).mono ?_
      rintro e w7 ⟨rfl, b7⟩
      have HB7 := hide ((unhide HB6).trans (b7.mono (unhide HB6).size))
      clear b7 HB6 HPP6
      go_wp2_with fail
      go_ret
      exact ⟨rfl, unhide HB7⟩
    | true =>
      have hle := unhide HLE2 rfl
      have hlt : ¬ (ss.length : Int) < (P.length : Int) := by omega
      clear HLE2
      go_wp2_with fail
      refine (unhide HPK5).mono ?_
      rintro e w6 ⟨rfl, b6⟩
      have HPP6 := hide (unhide HPP5 w6 b6)
      have HP6 := hide ((unhide HP5).on b6)
      have HS6 := hide ((unhide HS5).on b6)
      have HC6 := hide ((unhide HC5).on b6)
      have HT6 := hide ((unhide HT5).on b6)
      have HQ6 := hide ((unhide HQ5).on b6)
      have HW6 := hide ((unhide HW5).on b6)
      have HK6 := hide ((unhide HK5).on b6)
      have HB6 := hide ((unhide HB5).trans (b6.mono (unhide HB5).size))
      have hlt6 : w1.heap.size < w6.heap.size := Nat.lt_of_lt_of_le hlt5 b6.size
      rw [← b6.cell (p := ⟨w1.heap.size, _, none⟩) hlt5] at x0 x1
      clear HB5 b6 hlt5 HP5 HS5 HC5 HT5 HQ5 HW5 HK5
      clear HPK5 HPP5
      go_wp2_with fail
      refine (unhide HPP6).mono ?_
      rintro e w7 ⟨rfl, b7⟩
      have HB7 := hide ((unhide HB6).trans (b7.mono (unhide HB6).size))
      clear b7 HB6 HPP6
      go_wp2_with fail
      go_ret
      exact ⟨rfl, unhide HB7⟩
end Go.Proofs.Ythkhaemlcmkkjae
