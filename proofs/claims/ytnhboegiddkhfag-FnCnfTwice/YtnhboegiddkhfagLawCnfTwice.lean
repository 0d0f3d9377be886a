/- The walk of the law FnCnfTwice: of every code it answers true, and writes nothing that was there. -/
import Derived.Test.YtnhboegiddkhfagGDcn
import Derived.Test.YtnhboegiddkhfagGFo
import Derived.Test.YtnhboegiddkhfagGSu
import Derived.Test.YtnhboegiddkhfagGUp
namespace Go.Proofs.Ytnhboegiddkhfag
set_option linter.unusedVariables false
set_option linter.unusedSimpArgs false
open Go.RowKit Go.Deep

set_option maxRecDepth 100000 in
set_option maxHeartbeats 8000000 in
theorem cnftwice_law (a : Option Addr) (n c : Nat) (w : World) (h : CodeAt w.heap.size w a n) (hc : n ≤ c) (hc2 : c ≤ maxLen) :
    Calls Try.prog 3 #[.slice a n c] w fun e w' => e = .returned (.bool true) ∧ Below w.heap.size w w' := by
  have hmx := hc2
  unfold maxLen at hmx
  by_cases hbig : 1048576 < n
  · have hb' : (1048576 : Int) < (n : Int) := by omega
    go_enter Try.func3, Try.ntmps3
    go_wp2_with fail
    go_ret
    exact ⟨rfl, Below.refl _ _⟩
  have hb' : ¬ (1048576 : Int) < (n : Int) := by omega
  go_enter Try.func3, Try.ntmps3
  go_wp2_with fail
  refine (DrawCnfUnits_V a n c w h (by omega) hc hc2).mono ?_
  rintro e w1 ⟨⟨vars, v, ls, vs, u, set, rfl, hL, hll, hsh, hrow, hsl⟩, b1⟩
  obtain ⟨va, vc, hv, hcls⟩ := hL.cls (by omega) hsh
  subst hv
  obtain ⟨sa, sc, hu, hset⟩ := RowI.set hrow (by omega)
  subst hu
  have HC1 := hide hcls
  have HS1 := hide hset
  have HB1 := hide b1
  clear hL hcls hrow hset b1 h
  go_upto_region 4 with fail
  obtain ⟨w2, hw2⟩ : ∃ w2, w2 = w1.alloc (.cells #[.int .i64 vars, .slice va ls.length vc] 25) := ⟨_, rfl⟩
  rw [← hw2]
  have b2 : Below w1.heap.size w1 w2 := by rw [hw2]; exact (Below.refl _ _).alloc (Nat.le_refl _) _
  have x0 : w2.cell? ⟨w1.heap.size, 0, none⟩ = some (.int .i64 vars) := by rw [hw2]; simp
  have x1 : w2.cell? ⟨w1.heap.size, 1, none⟩ = some (.slice va ls.length vc) := by rw [hw2]; simp
  have hlt2 : w1.heap.size < w2.heap.size := by rw [hw2]; simp
  have HC2 := hide ((unhide HC1).on b2)
  have HS2 := hide ((unhide HS1).on b2)
  have HB2 := hide ((unhide HB1).trans (b2.mono (unhide HB1).size))
  clear hw2 b2 HC1 HS1 HB1
  obtain ⟨rl, rb, hr⟩ : ∃ rl rb, unitsZ vars ls set = (rl, rb) := ⟨_, _, rfl⟩
  have HR := hide hr
  have hrl : rl.length ≤ 400 := units_len hr
  have HCX3 := hide (specCnfUnits_any vars va ls vc sa set sc w2 (unhide HC2) (unhide HS2))
  have HCX4 := hide (fun x (hx : Below w2.heap.size w2 x) => implCnfUnits_any vars va ls vc sa set sc x ((unhide HC2).on hx) ((unhide HS2).on hx))
  rw [hr] at HCX3 HCX4
  clear hr
  go_wp2_with fail
  refine (unhide HCX3).mono ?_
  rintro e w3 ⟨⟨v3, rfl, hr3⟩, b3⟩
  obtain ⟨wa, wc, hv3, hW3⟩ := RowI.set hr3 (by show rl.length ≤ 1048576; omega)
  subst hv3
  have HW3 := hide hW3
  have HC4b := hide (unhide HCX4 w3 b3)
  have HC3 := hide ((unhide HC2).on b3)
  have HS3 := hide ((unhide HS2).on b3)
  have HB3 := hide ((unhide HB2).trans (b3.mono (unhide HB2).size))
  have hlt3 : w1.heap.size < w3.heap.size := Nat.lt_of_lt_of_le hlt2 b3.size
  rw [← b3.cell (p := ⟨w1.heap.size, _, none⟩) hlt2] at x0 x1
  clear HC2 HS2 HB2 b3 hlt2 HCX3 HCX4 hr3 hW3
  go_wp2_with fail
  refine (unhide HC4b).mono ?_
  rintro e w4 ⟨⟨v4, rfl, hr4⟩, b4⟩
  obtain ⟨ga, gc, hv4, hG4⟩ := RowI.set hr4 (by show rl.length ≤ 1048576; omega)
  subst hv4
  have HG4 := hide hG4
  have HW4 := hide ((unhide HW3).on b4)
  have HC4 := hide ((unhide HC3).on b4)
  have HS4 := hide ((unhide HS3).on b4)
  have HB4 := hide ((unhide HB3).trans (b4.mono (unhide HB3).size))
  have hlt4 : w1.heap.size < w4.heap.size := Nat.lt_of_lt_of_le hlt3 b4.size
  rw [← b4.cell (p := ⟨w1.heap.size, _, none⟩) hlt3] at x0 x1
  clear HC3 HS3 HB3 b4 hlt3 HW3 HC4b hr4 hG4
  cases rb with
  | true =>
    go_wp2_with fail
    refine (ldInts_I ga wa rl gc wc w4 (unhide HG4) (unhide HW4)).mono ?_
    rintro e w5 ⟨rfl, b5⟩
    have HW5 := hide ((unhide HW4).on b5)
    have HG5 := hide ((unhide HG4).on b5)
    have HC5 := hide ((unhide HC4).on b5)
    have HS5 := hide ((unhide HS4).on b5)
    have HB5 := hide ((unhide HB4).trans (b5.mono (unhide HB4).size))
    have hlt5 : w1.heap.size < w5.heap.size := Nat.lt_of_lt_of_le hlt4 b5.size
    rw [← b5.cell (p := ⟨w1.heap.size, _, none⟩) hlt4] at x0 x1
    clear HW4 HG4 HC4 HS4 HB4 b5 hlt4
    go_wp2_with fail
    refine (ldInts_I ga wa rl gc wc w5 (unhide HG5) (unhide HW5)).mono ?_
    rintro e w6 ⟨rfl, b6⟩
    have HW6 := hide ((unhide HW5).on b6)
    have HG6 := hide ((unhide HG5).on b6)
    have HC6 := hide ((unhide HC5).on b6)
    have HS6 := hide ((unhide HS5).on b6)
    have HB6 := hide ((unhide HB5).trans (b6.mono (unhide HB5).size))
    have hlt6 : w1.heap.size < w6.heap.size := Nat.lt_of_lt_of_le hlt5 b6.size
    rw [← b6.cell (p := ⟨w1.heap.size, _, none⟩) hlt5] at x0 x1
    clear HW5 HG5 HC5 HS5 HB5 b6 hlt5
    go_wp2_with fail
    go_ret
    exact ⟨rfl, unhide HB6⟩
  | false =>
    by_cases h0 : rl.length = 0
    · have e0 := List.length_eq_zero_iff.1 h0
      subst e0
      clear h0 HR
      go_wp2_with fail
      refine (ldInts_I ga wa [] gc wc w4 (unhide HG4) (unhide HW4)).mono ?_
      rintro e w5 ⟨rfl, b5⟩
      have HW5 := hide ((unhide HW4).on b5)
      have HG5 := hide ((unhide HG4).on b5)
      have HC5 := hide ((unhide HC4).on b5)
      have HS5 := hide ((unhide HS4).on b5)
      have HB5 := hide ((unhide HB4).trans (b5.mono (unhide HB4).size))
      have hlt5 : w1.heap.size < w5.heap.size := Nat.lt_of_lt_of_le hlt4 b5.size
      rw [← b5.cell (p := ⟨w1.heap.size, _, none⟩) hlt4] at x0 x1
      clear HW4 HG4 HC4 HS4 HB4 b5 hlt4
      go_wp2_with fail
      refine (ldInts_I ga wa [] gc wc w5 (unhide HG5) (unhide HW5)).mono ?_
      rintro e w6 ⟨rfl, b6⟩
      have HW6 := hide ((unhide HW5).on b6)
      have HG6 := hide ((unhide HG5).on b6)
      have HC6 := hide ((unhide HC5).on b6)
      have HS6 := hide ((unhide HS5).on b6)
      have HB6 := hide ((unhide HB5).trans (b6.mono (unhide HB5).size))
      have hlt6 : w1.heap.size < w6.heap.size := Nat.lt_of_lt_of_le hlt5 b6.size
      rw [← b6.cell (p := ⟨w1.heap.size, _, none⟩) hlt5] at x0 x1
      clear HW5 HG5 HC5 HS5 HB5 b6 hlt5
      go_wp2_with fail
      go_ret
      exact ⟨rfl, unhide HB6⟩
    · have h0b : ((rl.length : Int) == 0) = false := by rw [beq_eq_false_iff_ne]; omega
      go_wp2_with fail
      refine (ldInts_I ga wa rl gc wc w4 (unhide HG4) (unhide HW4)).mono ?_
      rintro e w5 ⟨rfl, b5⟩
      have HW5 := hide ((unhide HW4).on b5)
      have HG5 := hide ((unhide HG4).on b5)
      have HC5 := hide ((unhide HC4).on b5)
      have HS5 := hide ((unhide HS4).on b5)
      have HB5 := hide ((unhide HB4).trans (b5.mono (unhide HB4).size))
      have hlt5 : w1.heap.size < w5.heap.size := Nat.lt_of_lt_of_le hlt4 b5.size
      rw [← b5.cell (p := ⟨w1.heap.size, _, none⟩) hlt4] at x0 x1
      clear HW4 HG4 HC4 HS4 HB4 b5 hlt4
      have HCX6 := hide (implCnfUnits_any vars va ls vc ga rl gc w5 (unhide HC5) (unhide HG5))
      rw [units_twice (unhide HR) h0] at HCX6
      go_wp2_with fail
      refine (unhide HCX6).mono ?_
      rintro e w6 ⟨⟨v6, rfl, hr6⟩, b6⟩
      obtain ⟨ta, tc, hv6, hT6⟩ := RowI.set hr6 (by show rl.length ≤ 1048576; omega)
      subst hv6
      have HT6 := hide hT6
      clear HCX6 hr6 hT6
      have HW6 := hide ((unhide HW5).on b6)
      have HG6 := hide ((unhide HG5).on b6)
      have HC6 := hide ((unhide HC5).on b6)
      have HS6 := hide ((unhide HS5).on b6)
      have HB6 := hide ((unhide HB5).trans (b6.mono (unhide HB5).size))
      have hlt6 : w1.heap.size < w6.heap.size := Nat.lt_of_lt_of_le hlt5 b6.size
      rw [← b6.cell (p := ⟨w1.heap.size, _, none⟩) hlt5] at x0 x1
      clear HW5 HG5 HC5 HS5 HB5 b6 hlt5
      go_wp2_with fail
      refine (ldInts_I ta ga rl tc gc w6 (unhide HT6) (unhide HG6)).mono ?_
      rintro e w7 ⟨rfl, b7⟩
      have HG7 := hide ((unhide HG6).on b7)
      have HT7 := hide ((unhide HT6).on b7)
      have HB7 := hide ((unhide HB6).trans (b7.mono (unhide HB6).size))
      have hlt7 : w1.heap.size < w7.heap.size := Nat.lt_of_lt_of_le hlt6 b7.size
      rw [← b7.cell (p := ⟨w1.heap.size, _, none⟩) hlt6] at x0 x1
      clear HG6 HT6 HB6 b7 hlt6
      go_wp2_with fail
      go_ret
      exact ⟨rfl, unhide HB7⟩
end Go.Proofs.Ytnhboegiddkhfag
