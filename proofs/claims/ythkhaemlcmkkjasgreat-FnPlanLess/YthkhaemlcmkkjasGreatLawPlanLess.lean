/- The walk of the law FnPlanLess: of every code it answers true, and writes nothing that was there. -/
import Derived.Test.YthkhaemlcmkkjasGreatDrawPF
import Derived.Test.YthkhaemlcmkkjasGreatGPl
import Derived.Test.YthkhaemlcmkkjasGreatStepsA
import Derived.Test.YthkhaemlcmkkjasGreatGSf
import Derived.Test.YthkhaemlcmkkjasGreatGRf
import Derived.Test.YthkhaemlcmkkjasGreatPfT
import Derived.Test.YthkhaemlcmkkjasGreatGForm
import Derived.Test.YthkhaemlcmkkjasGreatGSv
import Derived.Test.YthkhaemlcmkkjasGreatFreeP
import Derived.Test.YthkhaemlcmkkjasGreatLdFree
namespace Go.Proofs.YthkhaemlcmkkjasGreat
set_option linter.unusedVariables false
set_option linter.unusedSimpArgs false
open Go.RowKit Go.Deep

set_option maxRecDepth 100000 in
set_option maxHeartbeats 8000000 in
theorem planless_law (a : Option Addr) (n c : Nat) (w : World) (h : CodeAt w.heap.size w a n) (hc : n ≤ c) (hc2 : c ≤ maxLen) :
    Calls Tryz.prog 3 #[.slice a n c] w fun e w' => e = .returned (.bool true) ∧ Below w.heap.size w w' := by
  have hmx := hc2
  unfold maxLen at hmx
  by_cases hbig : 1048576 < n
  · have hb' : (1048576 : Int) < (n : Int) := by omega
    go_enter Tryz.func3, Tryz.ntmps3
    go_wp2_with fail
    go_ret
    exact ⟨rfl, Below.refl _ _⟩
  have hb' : ¬ (1048576 : Int) < (n : Int) := by omega
  go_enter Tryz.func3, Tryz.ntmps3
  go_wp2_with fail
  refine (DrawPlanFind_V a n c w h (by omega) hc hc2).mono ?_
  rintro e w1 ⟨⟨v, room, u, tv, rfl, hV, ⟨set, hrow, hsl⟩, ⟨too, hrow2, hsl2⟩⟩, b1⟩
  obtain ⟨va, vn, vc, rfl, _⟩ := SlBy.slice hV
  obtain ⟨l, rfl, hP⟩ := V2.packs hV
  obtain ⟨sa, sc, hu, hset⟩ := RowI.set hrow (by omega)
  subst hu
  obtain ⟨ta, tc, hu2, hset2⟩ := RowI.set hrow2 (by omega)
  subst hu2
  have HSC : Hid (sa = none → sc = 0) := row_cap0 hrow
  have HTC : Hid (ta = none → tc = 0) := row_cap0 hrow2
  have HC1 := hide (V2.caps hV hP)
  have HP1 := hide hP
  have HS1 := hide hset
  have HT1 := hide hset2
  have HB1 := hide b1
  clear hV hrow hP hset b1 h hrow2 hset2
  go_upto_region 4 with fail
  obtain ⟨w2, hw2⟩ : ∃ w2, w2 = w1.alloc (.cells #[.slice va l.length vc, .int .i64 room] 25) := ⟨_, rfl⟩
  rw [← hw2]
  have b2 : Below w1.heap.size w1 w2 := by rw [hw2]; exact (Below.refl _ _).alloc (Nat.le_refl _) _
  have x0 : w2.cell? ⟨w1.heap.size, 0, none⟩ = some (.slice va l.length vc) := by rw [hw2]; simp
  have x1 : w2.cell? ⟨w1.heap.size, 1, none⟩ = some (.int .i64 room) := by rw [hw2]; simp
  have hlt2 : w1.heap.size < w2.heap.size := by rw [hw2]; simp
  have HP2 := hide ((unhide HP1).on b2)
  have HS2 := hide ((unhide HS1).on b2)
  have HC2 := hide ((unhide HC1).on b2)
  have HT2 := hide ((unhide HT1).on b2)
  have HB2 := hide ((unhide HB1).trans (b2.mono (unhide HB1).size))
  clear hw2 b2 HP1 HS1 HB1 HC1 HT1
  obtain ⟨od, hod⟩ : ∃ od, od = findZ l room set too := ⟨_, rfl⟩
  have hpl : (od.getD []).length ≤ 300 := by rw [hod]; exact find_len
  have HOD := hide hod
  have HC3X := hide (specPlanFind_any va l vc room sa set sc ta too tc w2 (unhide HP2) (unhide HC2) (unhide HS2) (unhide HSC) (unhide HT2))
  rw [← hod] at HC3X
  have HC4X := hide (fun x (hx : Below w2.heap.size w2 x) => implPlanFind_any va l vc room sa set sc ta too tc x ((unhide HP2).on hx) ((unhide HS2).on hx) ((unhide HT2).on hx))
  rw [← hod] at HC4X
  clear hod
  go_wp2_with fail
  refine (unhide HC3X).mono ?_
  rintro e w3 ⟨⟨v3, rfl, hr3⟩, b3⟩
  obtain ⟨pa, pc, hv3, _, _, hW3⟩ := StepsAt.of_row hr3 (by omega)
  subst hv3
  have HW3 := hide hW3
  have HC4b := hide (unhide HC4X w3 b3)
  have HP3 := hide ((unhide HP2).on b3)
  have HS3 := hide ((unhide HS2).on b3)
  have HC3 := hide ((unhide HC2).on b3)
  have HT3 := hide ((unhide HT2).on b3)
  have HB3 := hide ((unhide HB2).trans (b3.mono (unhide HB2).size))
  have hlt3 : w1.heap.size < w3.heap.size := Nat.lt_of_lt_of_le hlt2 b3.size
  rw [← b3.cell (p := ⟨w1.heap.size, _, none⟩) hlt2] at x0 x1
  clear HB2 b3 hlt2 HP2 HS2 HC2 HT2
  clear hr3 hW3 HC3X HC4X
  go_wp2_with fail
  refine (unhide HC4b).mono ?_
  rintro e w4 ⟨⟨v4, rfl, hr4⟩, b4⟩
  obtain ⟨ka, kc, hv4, hkl, hkm, hK4⟩ := StepsAt.of_row hr4 (by omega)
  subst hv4
  have HK4 := hide hK4
  have HKO4 := hide hr4
  have HP4 := hide ((unhide HP3).on b4)
  have HS4 := hide ((unhide HS3).on b4)
  have HC4 := hide ((unhide HC3).on b4)
  have HT4 := hide ((unhide HT3).on b4)
  have HW4 := hide ((unhide HW3).on b4)
  have HB4 := hide ((unhide HB3).trans (b4.mono (unhide HB3).size))
  have hlt4 : w1.heap.size < w4.heap.size := Nat.lt_of_lt_of_le hlt3 b4.size
  rw [← b4.cell (p := ⟨w1.heap.size, _, none⟩) hlt3] at x0 x1
  clear HB3 b4 hlt3 HP3 HS3 HC3 HT3 HW3
  clear hr4 hK4 HC4b
  have HLD := hide (fun x (hx : Below w4.heap.size w4 x) => ldSteps_same ka (od.getD []) kc pa pc x ((unhide HK4).on hx) ((unhide HW4).on hx))
  cases od with
  | none =>
    clear HOD
    simp only [Option.getD_none, Option.isSome_none, List.length_nil] at HLD HK4 HW4 HKO4 hkl ⊢
    go_wp2_with fail
    refine (unhide HLD w4 (Below.refl _ _)).mono ?_
    rintro e w5 ⟨rfl, b5⟩
    have HLD5 := hide (unhide HLD w5 b5)
    have HB5 := hide ((unhide HB4).trans (b5.mono (unhide HB4).size))
    clear b5 HB4 HLD
    go_wp2_with fail
    refine (unhide HLD5).mono ?_
    rintro e w6 ⟨rfl, b6⟩
    have HB6 := hide ((unhide HB5).trans (b6.mono (unhide HB5).size))
    clear b6 HB5 HLD5
    go_wp2_with fail
    go_ret
    exact ⟨by simp, unhide HB6⟩
  | some P =>
    simp only [Option.getD_some, Option.isSome_some] at HLD HK4 HW4 HKO4 hpl hkl ⊢
    obtain ⟨P2, hP2, hle, hok2⟩ := find_free (unhide HOD).symm
    have hle' : (P2.length : Int) ≤ (P.length : Int) := by omega
    have hl1000 : l.length ≤ 1000 := by have := form_l8 (okz_form (find_some (unhide HOD).symm).1); omega
    have HF2 := hide hP2
    have HF3 := hide hok2
    clear hP2 hok2 hle
    go_wp2_with fail
    refine (unhide HLD w4 (Below.refl _ _)).mono ?_
    rintro e w5 ⟨rfl, b5⟩
    have HKO5 := hide (ownsRow_on (unhide HKO4) b5)
    have HP5 := hide ((unhide HP4).on b5)
    have HS5 := hide ((unhide HS4).on b5)
    have HC5 := hide ((unhide HC4).on b5)
    have HT5 := hide ((unhide HT4).on b5)
    have HW5 := hide ((unhide HW4).on b5)
    have HK5 := hide ((unhide HK4).on b5)
    have HB5 := hide ((unhide HB4).trans (b5.mono (unhide HB4).size))
    have hlt5 : w1.heap.size < w5.heap.size := Nat.lt_of_lt_of_le hlt4 b5.size
    rw [← b5.cell (p := ⟨w1.heap.size, _, none⟩) hlt4] at x0 x1
    clear HB4 b5 hlt4 HP4 HS4 HC4 HT4 HW4 HK4
    clear HLD HKO4
    have HLF := hide (fun x (hx : Below w5.heap.size w5 x) => ldFree_any va l vc room x ((unhide HP5).on hx) hl1000)
    clear HOD HKO5
    go_wp2_with fail
    refine (unhide HLF w5 (Below.refl _ _)).mono ?_
    rintro e w6 ⟨⟨ga, gc, rfl, hg6⟩, b6⟩
    have HG6 := hide hg6
    have HLF6 := hide (fun x (hx : Below w6.heap.size w6 x) => unhide HLF x (b6.trans (hx.mono b6.size)))
    have HP6 := hide ((unhide HP5).on b6)
    have HS6 := hide ((unhide HS5).on b6)
    have HC6 := hide ((unhide HC5).on b6)
    have HT6 := hide ((unhide HT5).on b6)
    have HK6 := hide ((unhide HK5).on b6)
    have HW6 := hide ((unhide HW5).on b6)
    have HB6 := hide ((unhide HB5).trans (b6.mono (unhide HB5).size))
    have hlt6 : w1.heap.size < w6.heap.size := Nat.lt_of_lt_of_le hlt5 b6.size
    rw [← b6.cell (p := ⟨w1.heap.size, _, none⟩) hlt5] at x0 x1
    clear HB5 b6 hlt5 HP5 HS5 HC5 HT5 HK5 HW5
    have hln : (l.map freeP).length = l.length := List.length_map _
    have HPF := hide (implPlanFind_any ga (l.map freeP) gc room sa set sc ta too tc w6 (unhide HG6) (unhide HS6) (unhide HT6))
    rw [unhide HF2, hln] at HPF
    clear hg6 HLF HG6
    go_wp2_with fail
    refine (unhide HPF).mono ?_
    rintro e w7 ⟨⟨v7, rfl, hr7⟩, b7⟩
    simp only [Option.getD_some, Option.isSome_some] at hr7 ⊢
    obtain ⟨xa, xc, hxv⟩ : ∃ xa xc, v7 = .slice xa P2.length xc := by
      rcases hr7.2 with ⟨hv, h0⟩ | ⟨g, cap, cur, hv, _⟩
      · exact ⟨none, 0, by rw [hv, h0]⟩
      · exact ⟨_, _, hv⟩
    subst hxv
    have HLF7 := hide (fun x (hx : Below w7.heap.size w7 x) => unhide HLF6 x (b7.trans (hx.mono b7.size)))
    have HP7 := hide ((unhide HP6).on b7)
    have HS7 := hide ((unhide HS6).on b7)
    have HC7 := hide ((unhide HC6).on b7)
    have HT7 := hide ((unhide HT6).on b7)
    have HK7 := hide ((unhide HK6).on b7)
    have HW7 := hide ((unhide HW6).on b7)
    have HB7 := hide ((unhide HB6).trans (b7.mono (unhide HB6).size))
    have hlt7 : w1.heap.size < w7.heap.size := Nat.lt_of_lt_of_le hlt6 b7.size
    rw [← b7.cell (p := ⟨w1.heap.size, _, none⟩) hlt6] at x0 x1
    clear HB6 b7 hlt6 HP6 HS6 HC6 HT6 HK6 HW6
    clear hr7 HPF HLF6
    go_wp2_with fail
    refine (unhide HLF7 w7 (Below.refl _ _)).mono ?_
    rintro e w8 ⟨⟨ha, hc8, rfl, hg8⟩, b8⟩
    have HG8 := hide hg8
    have HP8 := hide ((unhide HP7).on b8)
    have HS8 := hide ((unhide HS7).on b8)
    have HC8 := hide ((unhide HC7).on b8)
    have HT8 := hide ((unhide HT7).on b8)
    have HK8 := hide ((unhide HK7).on b8)
    have HW8 := hide ((unhide HW7).on b8)
    have HB8 := hide ((unhide HB7).trans (b8.mono (unhide HB7).size))
    have hlt8 : w1.heap.size < w8.heap.size := Nat.lt_of_lt_of_le hlt7 b8.size
    rw [← b8.cell (p := ⟨w1.heap.size, _, none⟩) hlt7] at x0 x1
    clear HB7 b8 hlt7 HP7 HS7 HC7 HT7 HK7 HW7
    have HPO := hide (implPlanOk_any ha (l.map freeP) hc8 room sa set sc ta too tc ka P kc w8 (unhide HG8) (unhide HS8) (unhide HT8) (unhide HK8))
    rw [unhide HF3, hln] at HPO
    clear hg8 HLF7 HG8
    go_wp2_with fail
    refine (unhide HPO).mono ?_
    rintro e w9 ⟨rfl, b9⟩
    have HB9 := hide ((unhide HB8).trans (b9.mono (unhide HB8).size))
    clear b9 HB8 HPO
    go_wp2_with fail
    go_ret
    exact ⟨by simp, unhide HB9⟩
end Go.Proofs.YthkhaemlcmkkjasGreat
