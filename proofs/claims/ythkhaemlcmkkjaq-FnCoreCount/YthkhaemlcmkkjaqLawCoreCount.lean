/- The walk of the law FnCoreCount: at every code it answers true. -/
import Derived.Test.YthkhaemlcmkkjaqDrawCo
import Derived.Test.YthkhaemlcmkkjaqSatC
import Derived.Test.YthkhaemlcmkkjaqSatR
import Derived.Test.YthkhaemlcmkkjaqCoE
namespace Go.Proofs.Ythkhaemlcmkkjaq
set_option linter.unusedVariables false
set_option linter.unusedSimpArgs false
open Go.RowKit Go.Deep
theorem count_neg {vars : Int} {cs : List (List Int)} (h : smallB vars cs = false) : countZ vars cs = -1 := by
  unfold countZ
  rw [if_neg (by rw [h]; decide)]
theorem count_pos {vars : Int} {cs : List (List Int)} (h : smallB vars cs = true) : countZ vars cs = ((modelsN vars.toNat cs).length : Int) := by
  unfold countZ
  rw [if_pos h]
theorem count_code {v : Nat} {cs : List (List Int)} {k : Int} {m : List Bool} {p : List (List Int)} (hok : cnfB (v : Int) cs = true) (h10 : v ≤ 10) (h : satZ (v : Int) cs 3000 = (k, m, p)) : (k = 1 ∧ 0 < (modelsN v cs).length) ∨ (k = 2 ∧ (modelsN v cs).length = 0) := by
  rcases sat_full hok (by omega) (by omega) (Int.le_refl _) (most := 3000) with h1 | h1
  · rw [h] at h1
    simp only at h1
    subst h1
    obtain ⟨b, hb⟩ := models_some (sat_yes h).1
    rw [Int.toNat_natCast] at hb
    exact .inl ⟨rfl, List.length_pos_of_mem hb⟩
  · rw [h] at h1
    simp only at h1
    subst h1
    refine .inr ⟨rfl, ?_⟩
    rw [List.length_eq_zero_iff, List.eq_nil_iff_forall_not_mem]
    intro b hb
    have ht := models_true (vars := (v : Int)) (b := b) hok (by rw [Int.toNat_natCast]; exact hb)
    rw [proof_sound (sat_no h)] at ht
    cases ht

set_option maxRecDepth 100000 in
set_option maxHeartbeats 2000000 in
theorem corecount_law (a : Option Addr) (n c : Nat) (w : World) (h : CodeAt w.heap.size w a n) (hc : n ≤ c) (hc2 : c ≤ maxLen) :
    Calls Try.prog 3 #[.slice a n c] w fun e w' => e = .returned (.bool true) ∧ Below w.heap.size w w' := by
  have hmx := hc2
  unfold maxLen at hmx
  by_cases hbig : 1048576 < n
  · have hb' : (1048576 : Int) < (n : Int) := by omega
    go_enter Try.func3, Try.ntmps3
    go_wp2_with fail
    go_ret
    exact ⟨rfl, Below.refl _ _⟩
  have hb' : ¬ (1048576 : Int) < (n : Int) := by omega
  go_enter Try.func3, Try.ntmps3
  go_wp2_with fail
  refine (DrawCoreCount_V a n c w h (by omega) hc hc2).mono ?_
  rintro e w1 ⟨⟨vars, va, vc, ls, rfl, hcls, hcap, hvn, hll⟩, b1⟩
  have HC1 := hide hcls
  have HB1 := hide b1
  clear hcls b1 h
  go_upto_region 4 with fail
  obtain ⟨w2, hw2⟩ : ∃ w2, w2 = w1.alloc (.cells #[.int .i64 vars, .slice va ls.length vc] 25) := ⟨_, rfl⟩
  rw [← hw2]
  have b2 : Below w1.heap.size w1 w2 := by rw [hw2]; exact (Below.refl _ _).alloc (Nat.le_refl _) _
  have x0 : w2.cell? ⟨w1.heap.size, 0, none⟩ = some (.int .i64 vars) := by rw [hw2]; simp
  have x1 : w2.cell? ⟨w1.heap.size, 1, none⟩ = some (.slice va ls.length vc) := by rw [hw2]; simp
  have hlt2 : w1.heap.size < w2.heap.size := by rw [hw2]; simp
  have HC2 := hide ((unhide HC1).on b2)
  have HB2 := hide ((unhide HB1).trans (b2.mono (unhide HB1).size))
  obtain ⟨z, hz⟩ : ∃ z, countZ vars ls = z := ⟨_, rfl⟩
  have HI := hide (fun x (hx : ClsAt x va ls) => implCoreCount_any vars va ls vc x hx)
  have HS := hide (fun x (hx : ClsAt x va ls) => specCoreCount_any vars va ls vc x hx)
  rw [hz] at HI HS
  have HZ := hide hz
  clear hw2 b2 HC1 HB1 hz
  go_wp2_with fail
  refine (unhide HI w2 (unhide HC2)).mono ?_
  rintro e w3 ⟨rfl, b3⟩
  have HC3 := hide ((unhide HC2).on b3)
  have HB3 := hide ((unhide HB2).trans (b3.mono (unhide HB2).size))
  have hlt3 : w1.heap.size < w3.heap.size := Nat.lt_of_lt_of_le hlt2 b3.size
  rw [← b3.cell (p := ⟨w1.heap.size, _, none⟩) hlt2] at x0 x1
  clear HC2 HB2 b3 hlt2
  cases hs : smallB vars ls with
  | false =>
    have hzn := count_neg hs
    rw [unhide HZ] at hzn
    subst hzn
    clear hs
    go_wp2_with fail
    refine (unhide HS w3 (unhide HC3)).mono ?_
    rintro e w4 ⟨rfl, b4⟩
    have HC4 := hide ((unhide HC3).on b4)
    have HB4 := hide ((unhide HB3).trans (b4.mono (unhide HB3).size))
    have hlt4 : w1.heap.size < w4.heap.size := Nat.lt_of_lt_of_le hlt3 b4.size
    rw [← b4.cell (p := ⟨w1.heap.size, _, none⟩) hlt3] at x0 x1
    clear HC3 HB3 b4 hlt3
    go_wp2_with fail
    refine (unhide HS w4 (unhide HC4)).mono ?_
    rintro e w5 ⟨rfl, b5⟩
    have HB5 := hide ((unhide HB4).trans (b5.mono (unhide HB4).size))
    have hlt5 : w1.heap.size < w5.heap.size := Nat.lt_of_lt_of_le hlt4 b5.size
    rw [← b5.cell (p := ⟨w1.heap.size, _, none⟩) hlt4] at x0 x1
    clear  HB4 b5 hlt4
    go_wp2_with fail
    go_ret
    exact ⟨rfl, unhide HB5⟩
  | true =>
    have hzp := count_pos hs
    rw [unhide HZ] at hzp
    obtain ⟨hok, hv10, _⟩ := small_parts hs
    have hv0 := (cnf_rng hok).1
    obtain ⟨v, rfl⟩ : ∃ v : Nat, vars = (v : Int) := ⟨vars.toNat, by omega⟩
    rw [Int.toNat_natCast] at hzp
    have hml : (modelsN v ls).length ≤ 2 ^ v := models_len v ls (2 ^ v)
    obtain ⟨k, m, p, hr⟩ : ∃ k m p, satZ (v : Int) ls 3000 = (k, m, p) := ⟨_, _, _, rfl⟩
    have hcc := count_code hok (by omega) hr
    obtain ⟨hshl, hpw⟩ := shl_wrap (v := v) (by omega)
    have HR0 := hide hr
    have HSF := hide (fun x (hx : ClsAt x va ls) => implSatFind_any (v : Int) va ls vc 3000 x hx)
    rw [hr] at HSF
    obtain ⟨cn, hcn⟩ : ∃ cn, cn = (modelsN v ls).length := ⟨_, rfl⟩
    rw [← hcn] at hzp hml hcc
    subst hzp
    have j0 : ¬ (cn : Int) < 0 := by omega
    clear hs hok hr hcn HZ HR0
    generalize 2 ^ v = N at hml hshl hpw
    have j3 : (cn : Int) ≤ (N : Int) := by omega
    go_wp2_with fail
    refine (unhide HS w3 (unhide HC3)).mono ?_
    rintro e w4 ⟨rfl, b4⟩
    have HC4 := hide ((unhide HC3).on b4)
    have HB4 := hide ((unhide HB3).trans (b4.mono (unhide HB3).size))
    have hlt4 : w1.heap.size < w4.heap.size := Nat.lt_of_lt_of_le hlt3 b4.size
    rw [← b4.cell (p := ⟨w1.heap.size, _, none⟩) hlt3] at x0 x1
    clear HC3 HB3 b4 hlt3
    have HSF4 := hide (unhide HSF w4 (unhide HC4))
    go_wp2_with fail
    refine (unhide HSF4).mono ?_
    rintro e w5 ⟨⟨mv, pv, vs5, rfl, _, _⟩, b5⟩
    clear HSF HSF4 HI HS
    have HB5 := hide ((unhide HB4).trans (b5.mono (unhide HB4).size))
    have hlt5 : w1.heap.size < w5.heap.size := Nat.lt_of_lt_of_le hlt4 b5.size
    rw [← b5.cell (p := ⟨w1.heap.size, _, none⟩) hlt4] at x0 x1
    clear  HB4 b5 hlt4
    rcases hcc with ⟨rfl, hc0⟩ | ⟨rfl, hc0⟩
    · have j1 : (0 : Int) < (cn : Int) := by omega
      go_wp2_with fail
      go_ret
      exact ⟨rfl, unhide HB5⟩
    · subst hc0
      go_wp2_with fail
      go_ret
      exact ⟨rfl, unhide HB5⟩
end Go.Proofs.Ythkhaemlcmkkjaq
