/- The walk of the law FnSatFirst: at every code it answers true. -/
import Derived.Test.YthkhaemlcmkkjahDrawCt
import Derived.Test.YthkhaemlcmkkjahSatL
import Derived.Test.YthkhaemlcmkkjahSatR
import Derived.Test.YthkhaemlcmkkjahSatC
import Derived.Test.YthkhaemlcmkkjahSatE
import Derived.Test.YthkhaemlcmkkjahLdAhead
import Derived.Test.YthkhaemlcmkkjahGCn
namespace Go.Proofs.Ythkhaemlcmkkjah
set_option linter.unusedVariables false
set_option linter.unusedSimpArgs false
open Go.RowKit Go.Deep

set_option maxRecDepth 100000 in
set_option maxHeartbeats 2000000 in
theorem satfirst_law (a : Option Addr) (n c : Nat) (w : World) (h : CodeAt w.heap.size w a n) (hc : n ≤ c) (hc2 : c ≤ maxLen) :
    Calls Try.prog 4 #[.slice a n c] w fun e w' => e = .returned (.bool true) ∧ Below w.heap.size w w' := by
  have hmx := hc2
  unfold maxLen at hmx
  by_cases hbig : 1048576 < n
  · have hb' : (1048576 : Int) < (n : Int) := by omega
    go_enter Try.func4, Try.ntmps4
    go_wp2_with fail
    go_ret
    exact ⟨rfl, Below.refl _ _⟩
  have hb' : ¬ (1048576 : Int) < (n : Int) := by omega
  go_enter Try.func4, Try.ntmps4
  go_wp2_with fail
  refine (DrawCnfTrue_V a n c w h (by omega) hc hc2).mono ?_
  rintro e w1 ⟨⟨vars, va, vc, ls, da, dm, dc, rfl, ⟨hcls, hcap, hvn, hll⟩, hdm, hdl⟩, b1⟩
  have HC1 := hide hcls
  have HD1 := hide hdm
  have HB1 := hide b1
  clear hcls hdm b1 h
  go_upto_region 4 with fail
  obtain ⟨w2, hw2⟩ : ∃ w2, w2 = w1.alloc (.cells #[.int .i64 vars, .slice va ls.length vc] 25) := ⟨_, rfl⟩
  rw [← hw2]
  have b2 : Below w1.heap.size w1 w2 := by rw [hw2]; exact (Below.refl _ _).alloc (Nat.le_refl _) _
  have x0 : w2.cell? ⟨w1.heap.size, 0, none⟩ = some (.int .i64 vars) := by rw [hw2]; simp
  have x1 : w2.cell? ⟨w1.heap.size, 1, none⟩ = some (.slice va ls.length vc) := by rw [hw2]; simp
  have hlt2 : w1.heap.size < w2.heap.size := by rw [hw2]; simp
  have HC2 := hide ((unhide HC1).on b2)
  have HD2 := hide ((unhide HD1).on b2)
  have HB2 := hide ((unhide HB1).trans (b2.mono (unhide HB1).size))
  obtain ⟨z, hz⟩ : ∃ z, cnfTrueB vars ls dm = z := ⟨_, rfl⟩
  have HZ := hide hz
  clear hw2 b2 HC1 HB1 HD1 hz
  obtain ⟨k, m, p, hr⟩ : ∃ k m p, satZ vars ls 3000 = (k, m, p) := ⟨_, _, _, rfl⟩
  obtain ⟨sm1, sm2, sm3, sm4, sm5, sm6⟩ := sat_small hr
  have HR0 := hide hr
  have HM4 := hide sm4
  have HM5 := hide sm5
  have HM6 := hide sm6
  have HM3 := hide (fun c hc => Nat.le_trans (sm3 c hc) (show 400 ≤ 1048576 by omega))
  have HCX := hide (fun x (hx : Below w2.heap.size w2 x) => specSatFind_any vars va ls vc 3000 x ((unhide HC2).on hx))
  have HCY := hide (fun x (hx : Below w2.heap.size w2 x) => implSatFind_any vars va ls vc 3000 x ((unhide HC2).on hx))
  rw [hr] at HCX HCY
  clear hr sm3 sm4 sm5 sm6
  go_wp2_with fail
  refine (unhide HCY w2 (Below.refl _ _)).mono ?_
  rintro e w3 ⟨⟨mv3, pv3, vs3, rfl, hm3, hp3⟩, b3⟩
  obtain ⟨ga, gc, hmv3, hmb3⟩ := bools_of (m := m) hm3 (by omega)
  subst hmv3
  obtain ⟨pa, pc, hpv3, hpc3, hpl3, hpk3⟩ := lists_of (p := p) hp3 (by omega) (unhide HM3)
  subst hpv3
  have HG3 := hide hmb3
  have HP3 := hide hpl3
  have HQ3 := hide hpk3
  clear hm3 hp3 hmb3 hpl3 hpk3
  have HC3 := hide ((unhide HC2).on b3)
  have HCZ := hide (unhide HCX w3 b3)
  have HD3 := hide ((unhide HD2).on b3)
  have HB3 := hide ((unhide HB2).trans (b3.mono (unhide HB2).size))
  have hlt3 : w1.heap.size < w3.heap.size := Nat.lt_of_lt_of_le hlt2 b3.size
  rw [← b3.cell (p := ⟨w1.heap.size, _, none⟩) hlt2] at x0 x1
  clear HCX HC2 HD2 HB2 b3 hlt2
  go_wp2_with fail
  refine (unhide HCZ).mono ?_
  rintro e w4 ⟨⟨mv4, pv4, vs4, rfl, hm4, hp4⟩, b4⟩
  obtain ⟨wa, wc, hmv4, hmb4⟩ := bools_of (m := m) hm4 (by omega)
  subst hmv4
  obtain ⟨ra, rc, hpv4, hpc4, hpl4, hpk4⟩ := lists_of (p := p) hp4 (by omega) (unhide HM3)
  subst hpv4
  have HW4 := hide hmb4
  have HR4 := hide hpl4
  have HS4 := hide hpk4
  clear hm4 hp4 hmb4 hpl4 hpk4
  have HC4 := hide ((unhide HC3).on b4)
  have HD4 := hide ((unhide HD3).on b4)
  have HG4 := hide ((unhide HG3).on b4)
  have HB4 := hide ((unhide HB3).trans (b4.mono (unhide HB3).size))
  have hlt4 : w1.heap.size < w4.heap.size := Nat.lt_of_lt_of_le hlt3 b4.size
  rw [← b4.cell (p := ⟨w1.heap.size, _, none⟩) hlt3] at x0 x1
  clear HC3 HD3 HG3 HB3 b4 hlt3
  go_wp2_with fail
  refine (ldBools_I ga wa m gc wc w4 (unhide HG4) (unhide HW4)).mono ?_
  rintro e w5 ⟨rfl, b5⟩
  have HC5 := hide ((unhide HC4).on b5)
  have HD5 := hide ((unhide HD4).on b5)
  have HG5 := hide ((unhide HG4).on b5)
  have HW5 := hide ((unhide HW4).on b5)
  have HB5 := hide ((unhide HB4).trans (b5.mono (unhide HB4).size))
  have hlt5 : w1.heap.size < w5.heap.size := Nat.lt_of_lt_of_le hlt4 b5.size
  rw [← b5.cell (p := ⟨w1.heap.size, _, none⟩) hlt4] at x0 x1
  clear HC4 HD4 HG4 HW4 HB4 b5 hlt4
  have HT := hide (implCnfTrue_any vars va ls vc da dm dc w5 (unhide HC5) (unhide HD5))
  rw [unhide HZ] at HT
  cases z with
  | false =>
    go_wp2_with fail
    refine (unhide HT).mono ?_
    rintro e w6 ⟨rfl, b6⟩
    have HG6 := hide ((unhide HG5).on b6)
    have HW6 := hide ((unhide HW5).on b6)
    have HB6 := hide ((unhide HB5).trans (b6.mono (unhide HB5).size))
    have hlt6 : w1.heap.size < w6.heap.size := Nat.lt_of_lt_of_le hlt5 b6.size
    rw [← b6.cell (p := ⟨w1.heap.size, _, none⟩) hlt5] at x0 x1
    clear HG5 HW5 HB5 b6 hlt5
    go_wp2_with fail
    refine (ldBools_I ga wa m gc wc w6 (unhide HG6) (unhide HW6)).mono ?_
    rintro e w7 ⟨rfl, b7⟩
    have HB7 := hide ((unhide HB6).trans (b7.mono (unhide HB6).size))
    have hlt7 : w1.heap.size < w7.heap.size := Nat.lt_of_lt_of_le hlt6 b7.size
    rw [← b7.cell (p := ⟨w1.heap.size, _, none⟩) hlt6] at x0 x1
    clear  HB6 b7 hlt6
    go_wp2_with fail
    go_ret
    exact ⟨rfl, unhide HB7⟩
  | true =>
    have hkk : k = 1 ∨ k = 3 := by
      rcases unhide HM6 with h1 | h1 | h1 | h1
      · exact .inl h1
      · exfalso
        have h2 := unhide HR0
        rw [h1] at h2
        have h3 := proof_sound (sat_no h2) dm
        rw [unhide HZ] at h3
        cases h3
      · exact .inr h1
      · exfalso
        have h2 := unhide HR0
        have hin : (cnfB vars ls && inB 3000 0 3000) = true := by
          rw [(true_parts (unhide HZ)).1]
          simp [inB]
        rw [h1, satZ_find hin] at h2
        have h3 := find_code (cs := ls) (vars := vars.toNat) (most := (3000 : Int).toNat) 401 [] 0
        simp only [FindR.fin, Prod.mk.injEq] at h2
        omega
    rcases hkk with rfl | rfl
    · have HAH := hide (aheadF_not (sat_first (unhide HR0) (unhide HZ)))
      go_wp2_with fail
      refine (unhide HT).mono ?_
      rintro e w6 ⟨rfl, b6⟩
      have HD6 := hide ((unhide HD5).on b6)
      have HG6 := hide ((unhide HG5).on b6)
      have HB6 := hide ((unhide HB5).trans (b6.mono (unhide HB5).size))
      have hlt6 : w1.heap.size < w6.heap.size := Nat.lt_of_lt_of_le hlt5 b6.size
      rw [← b6.cell (p := ⟨w1.heap.size, _, none⟩) hlt5] at x0 x1
      clear HD5 HG5 HB5 b6 hlt5
      go_wp2_with fail
      refine (ldAhead_any da ga dm m dc gc w6 (unhide HD6) (unhide HG6)).mono ?_
      rintro e w7 ⟨rfl, b7⟩
      rw [unhide HAH]
      have HB7 := hide ((unhide HB6).trans (b7.mono (unhide HB6).size))
      have hlt7 : w1.heap.size < w7.heap.size := Nat.lt_of_lt_of_le hlt6 b7.size
      clear  HB6 b7 hlt6
      go_wp2_with fail
      go_ret
      exact ⟨rfl, unhide HB7⟩
    · go_wp2_with fail
      refine (unhide HT).mono ?_
      rintro e w6 ⟨rfl, b6⟩
      have HB6 := hide ((unhide HB5).trans (b6.mono (unhide HB5).size))
      have hlt6 : w1.heap.size < w6.heap.size := Nat.lt_of_lt_of_le hlt5 b6.size
      rw [← b6.cell (p := ⟨w1.heap.size, _, none⟩) hlt5] at x0 x1
      clear  HB5 b6 hlt5
      go_wp2_with fail
      go_ret
      exact ⟨rfl, unhide HB6⟩
end Go.Proofs.Ythkhaemlcmkkjah
