/- The walk of the law FnSatLong: at every code it answers true. -/
import Derived.Test.YtgolmagpdbmahaiDrawSf
import Derived.Test.YtgolmagpdbmahaiSatL
namespace Go.Proofs.Ytgolmagpdbmahai
set_option linter.unusedVariables false
set_option linter.unusedSimpArgs false
open Go.RowKit Go.Deep

set_option maxRecDepth 100000 in
set_option maxHeartbeats 8000000 in
theorem satlong_law (a : Option Addr) (n c : Nat) (w : World) (h : CodeAt w.heap.size w a n) (hc : n ≤ c) (hc2 : c ≤ maxLen) :
    Calls Try.prog 3 #[.slice a n c] w fun e w' => e = .returned (.bool true) ∧ Below w.heap.size w w' := by
  have hmx := hc2
  unfold maxLen at hmx
  by_cases hbig : 1048576 < n
  · have hb' : (1048576 : Int) < (n : Int) := by omega
    go_enter Try.func3, Try.ntmps3
    go_wp2_with fail
    go_ret
    exact ⟨rfl, Below.refl _ _⟩
  have hb' : ¬ (1048576 : Int) < (n : Int) := by omega
  go_enter Try.func3, Try.ntmps3
  go_wp2_with fail
  refine (DrawSatFind_V a n c w h (by omega) hc hc2).mono ?_
  rintro e w1 ⟨⟨vars, v, ls, vs, most, rfl, hL, hll, hsh, hmo0, hmo1⟩, b1⟩
  obtain ⟨va, vc, hv, hcls⟩ := hL.cls (by omega) hsh
  subst hv
  have HC1 := hide hcls
  have HSH := hide hsh
  have HB1 := hide b1
  clear hL hcls b1 h hsh
  go_upto_region 4 with fail
  obtain ⟨w2, hw2⟩ : ∃ w2, w2 = w1.alloc (.cells #[.int .i64 vars, .slice va ls.length vc] 25) := ⟨_, rfl⟩
  rw [← hw2]
  have b2 : Below w1.heap.size w1 w2 := by rw [hw2]; exact (Below.refl _ _).alloc (Nat.le_refl _) _
  have x0 : w2.cell? ⟨w1.heap.size, 0, none⟩ = some (.int .i64 vars) := by rw [hw2]; simp
  have x1 : w2.cell? ⟨w1.heap.size, 1, none⟩ = some (.slice va ls.length vc) := by rw [hw2]; simp
  have hlt2 : w1.heap.size < w2.heap.size := by rw [hw2]; simp
  have HC2 := hide ((unhide HC1).on b2)
  have HB2 := hide ((unhide HB1).trans (b2.mono (unhide HB1).size))
  clear hw2 b2 HC1 HB1
  obtain ⟨k, m, p, hr⟩ : ∃ k m p, satZ vars ls most = (k, m, p) := ⟨_, _, _, rfl⟩
  obtain ⟨sm1, sm2, sm3, sm4, sm5, sm6⟩ := sat_small hr
  have HR0 := hide hr
  have HM4 := hide sm4
  have HM5 := hide sm5
  have HM6 := hide sm6
  have HM3 := hide (fun c hc => Nat.le_trans (sm3 c hc) (show 400 ≤ 1048576 by omega))
  have HCX := hide (fun x (hx : Below w2.heap.size w2 x) => specSatFind_any vars va ls vc most x ((unhide HC2).on hx))
  have HCY := hide (fun x (hx : Below w2.heap.size w2 x) => implSatFind_any vars va ls vc most x ((unhide HC2).on hx))
  rw [hr] at HCX HCY
  clear hr sm3 sm4 sm5 sm6
  go_wp2_with fail
  refine (unhide HCX w2 (Below.refl _ _)).mono ?_
  rintro e w3 ⟨⟨mv3, pv3, vs3, rfl, hm3, hp3⟩, b3⟩
  obtain ⟨wa, wc, hmv3, hmb3⟩ := bools_of (m := m) hm3 (by omega)
  subst hmv3
  obtain ⟨ra, rc, hpv3, hpc3, hpl3, hpk3⟩ := lists_of (p := p) hp3 (by omega) (unhide HM3)
  subst hpv3
  have HW3 := hide hmb3
  have HR3 := hide hpl3
  have HS3 := hide hpk3
  clear hm3 hp3 hmb3 hpl3 hpk3
  have HC3 := hide ((unhide HC2).on b3)
  have HCZ := hide (unhide HCY w3 b3)
  have HB3 := hide ((unhide HB2).trans (b3.mono (unhide HB2).size))
  have hlt3 : w1.heap.size < w3.heap.size := Nat.lt_of_lt_of_le hlt2 b3.size
  rw [← b3.cell (p := ⟨w1.heap.size, _, none⟩) hlt2] at x0 x1
  clear HCY HC2 HB2 b3 hlt2
  go_wp2_with fail
  refine (unhide HCZ).mono ?_
  rintro e w4 ⟨⟨mv4, pv4, vs4, rfl, hm4, hp4⟩, b4⟩
  obtain ⟨ga, gc, hmv4, hmb4⟩ := bools_of (m := m) hm4 (by omega)
  subst hmv4
  obtain ⟨pa, pc, hpv4, hpc4, hpl4, hpk4⟩ := lists_of (p := p) hp4 (by omega) (unhide HM3)
  subst hpv4
  have HG4 := hide hmb4
  have HP4 := hide hpl4
  have HQ4 := hide hpk4
  clear hm4 hp4 hmb4 hpl4 hpk4
  have HC4 := hide ((unhide HC3).on b4)
  have HW4 := hide ((unhide HW3).on b4)
  have HR4 := hide ((unhide HR3).on b4)
  have HS4 := hide ((unhide HS3).on b4)
  have HB4 := hide ((unhide HB3).trans (b4.mono (unhide HB3).size))
  have hlt4 : w1.heap.size < w4.heap.size := Nat.lt_of_lt_of_le hlt3 b4.size
  rw [← b4.cell (p := ⟨w1.heap.size, _, none⟩) hlt3] at x0 x1
  clear HC3 HW3 HR3 HS3 HB3 b4 hlt3
  go_wp2_with fail
  refine (ldBools_I ga wa m gc wc w4 (unhide HG4) (unhide HW4)).mono ?_
  rintro e w5 ⟨rfl, b5⟩
  have HC5 := hide ((unhide HC4).on b5)
  have HW5 := hide ((unhide HW4).on b5)
  have HR5 := hide ((unhide HR4).on b5)
  have HS5 := hide ((unhide HS4).on b5)
  have HG5 := hide ((unhide HG4).on b5)
  have HP5 := hide ((unhide HP4).on b5)
  have HQ5 := hide ((unhide HQ4).on b5)
  have HB5 := hide ((unhide HB4).trans (b5.mono (unhide HB4).size))
  have hlt5 : w1.heap.size < w5.heap.size := Nat.lt_of_lt_of_le hlt4 b5.size
  rw [← b5.cell (p := ⟨w1.heap.size, _, none⟩) hlt4] at x0 x1
  clear HC4 HW4 HR4 HS4 HG4 HP4 HQ4 HB4 b5 hlt4
  go_wp2_with fail
  refine (ldRows_same pa p pc ra rc w5 (unhide HP5) (unhide HR5)).mono ?_
  rintro e w6 ⟨rfl, b6⟩
  have HC6 := hide ((unhide HC5).on b6)
  have HW6 := hide ((unhide HW5).on b6)
  have HR6 := hide ((unhide HR5).on b6)
  have HS6 := hide ((unhide HS5).on b6)
  have HG6 := hide ((unhide HG5).on b6)
  have HP6 := hide ((unhide HP5).on b6)
  have HQ6 := hide ((unhide HQ5).on b6)
  have HB6 := hide ((unhide HB5).trans (b6.mono (unhide HB5).size))
  have hlt6 : w1.heap.size < w6.heap.size := Nat.lt_of_lt_of_le hlt5 b6.size
  rw [← b6.cell (p := ⟨w1.heap.size, _, none⟩) hlt5] at x0 x1
  clear HC5 HW5 HR5 HS5 HG5 HP5 HQ5 HB5 b6 hlt5
  by_cases hk9 : k = 9
  · subst hk9
    go_wp2_with fail
    refine (ldBools_I ga wa m gc wc w6 (unhide HG6) (unhide HW6)).mono ?_
    rintro e w7 ⟨rfl, b7⟩
    have HP7 := hide ((unhide HP6).on b7)
    have HR7 := hide ((unhide HR6).on b7)
    have HB7 := hide ((unhide HB6).trans (b7.mono (unhide HB6).size))
    have hlt7 : w1.heap.size < w7.heap.size := Nat.lt_of_lt_of_le hlt6 b7.size
    rw [← b7.cell (p := ⟨w1.heap.size, _, none⟩) hlt6] at x0 x1
    clear HP6 HR6 HB6 b7 hlt6
    go_wp2_with fail
    refine (ldRows_same pa p pc ra rc w7 (unhide HP7) (unhide HR7)).mono ?_
    rintro e w8 ⟨rfl, b8⟩
    have HP8 := hide ((unhide HP7).on b8)
    have HB8 := hide ((unhide HB7).trans (b8.mono (unhide HB7).size))
    have hlt8 : w1.heap.size < w8.heap.size := Nat.lt_of_lt_of_le hlt7 b8.size
    rw [← b8.cell (p := ⟨w1.heap.size, _, none⟩) hlt7] at x0 x1
    clear HP7 HB7 b8 hlt7
    go_wp2_with fail
    go_ret
    exact ⟨rfl, unhide HB8⟩
  · by_cases hk3 : k = 3
    · subst hk3
      go_wp2_with fail
      refine (ldBools_I ga wa m gc wc w6 (unhide HG6) (unhide HW6)).mono ?_
      rintro e w7 ⟨rfl, b7⟩
      have HP7 := hide ((unhide HP6).on b7)
      have HR7 := hide ((unhide HR6).on b7)
      have HB7 := hide ((unhide HB6).trans (b7.mono (unhide HB6).size))
      have hlt7 : w1.heap.size < w7.heap.size := Nat.lt_of_lt_of_le hlt6 b7.size
      rw [← b7.cell (p := ⟨w1.heap.size, _, none⟩) hlt6] at x0 x1
      clear HP6 HR6 HB6 b7 hlt6
      go_wp2_with fail
      refine (ldRows_same pa p pc ra rc w7 (unhide HP7) (unhide HR7)).mono ?_
      rintro e w8 ⟨rfl, b8⟩
      have HP8 := hide ((unhide HP7).on b8)
      have HB8 := hide ((unhide HB7).trans (b8.mono (unhide HB7).size))
      have hlt8 : w1.heap.size < w8.heap.size := Nat.lt_of_lt_of_le hlt7 b8.size
      rw [← b8.cell (p := ⟨w1.heap.size, _, none⟩) hlt7] at x0 x1
      clear HP7 HB7 b8 hlt7
      go_wp2_with fail
      go_ret
      exact ⟨rfl, unhide HB8⟩
    · have k9b : (k == 9) = false := by rw [beq_eq_false_iff_ne]; exact hk9
      have k3b : (k == 3) = false := by rw [beq_eq_false_iff_ne]; exact hk3
      have hmz : most ≤ 3000 := by
        have h1 := unhide HR0
        cases hb : (cnfB vars ls && inB most 0 3000) with
        | false =>
          rw [satZ_bad hb] at h1
          simp only [Prod.mk.injEq] at h1
          exact absurd h1.1.symm hk9
        | true =>
          rw [Bool.and_eq_true] at hb
          have h2 := hb.2
          simp [inB] at h2
          exact h2.2
      have HCL := hide (implSatFind_any vars va ls vc 3000 w6 (unhide HC6))
      rw [sat_long (unhide HR0) hk3 hk9 hmz (by omega)] at HCL
      go_wp2_with fail
      refine (unhide HCL).mono ?_
      rintro e w7 ⟨⟨mv7, pv7, vs7, rfl, hm7, hp7⟩, b7⟩
      obtain ⟨ta, tc, hmv7, hmb7⟩ := bools_of (m := m) hm7 (by omega)
      subst hmv7
      obtain ⟨ya, yc, hpv7, hpc7, hpl7, _⟩ := lists_of (p := p) hp7 (by omega) (unhide HM3)
      subst hpv7
      have HT7 := hide hmb7
      have HY7 := hide hpl7
      clear hm7 hp7 hmb7 hpl7 HCL
      have HG7 := hide ((unhide HG6).on b7)
      have HP7 := hide ((unhide HP6).on b7)
      have HB7 := hide ((unhide HB6).trans (b7.mono (unhide HB6).size))
      have hlt7 : w1.heap.size < w7.heap.size := Nat.lt_of_lt_of_le hlt6 b7.size
      rw [← b7.cell (p := ⟨w1.heap.size, _, none⟩) hlt6] at x0 x1
      clear HG6 HP6 HB6 b7 hlt6
      go_wp2_with fail
      refine (ldBools_I ta ga m tc gc w7 (unhide HT7) (unhide HG7)).mono ?_
      rintro e w8 ⟨rfl, b8⟩
      have HP8 := hide ((unhide HP7).on b8)
      have HY8 := hide ((unhide HY7).on b8)
      have HB8 := hide ((unhide HB7).trans (b8.mono (unhide HB7).size))
      have hlt8 : w1.heap.size < w8.heap.size := Nat.lt_of_lt_of_le hlt7 b8.size
      rw [← b8.cell (p := ⟨w1.heap.size, _, none⟩) hlt7] at x0 x1
      clear HP7 HY7 HB7 b8 hlt7
      go_wp2_with fail
      refine (ldRows_same ya p yc pa pc w8 (unhide HY8) (unhide HP8)).mono ?_
      rintro e w9 ⟨rfl, b9⟩
      have HP9 := hide ((unhide HP8).on b9)
      have HB9 := hide ((unhide HB8).trans (b9.mono (unhide HB8).size))
      have hlt9 : w1.heap.size < w9.heap.size := Nat.lt_of_lt_of_le hlt8 b9.size
      rw [← b9.cell (p := ⟨w1.heap.size, _, none⟩) hlt8] at x0 x1
      clear HP8 HB8 b9 hlt8
      go_wp2_with fail
      go_ret
      exact ⟨rfl, unhide HB9⟩
end Go.Proofs.Ytgolmagpdbmahai
