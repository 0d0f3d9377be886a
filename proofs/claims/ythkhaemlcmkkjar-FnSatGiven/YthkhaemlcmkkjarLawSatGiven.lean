/- The walk of the law FnSatGiven: at every two codes it answers true. -/
import Derived.Test.YthkhaemlcmkkjarDrawSf
import Derived.Test.YthkhaemlcmkkjarSatL
import Derived.Test.YthkhaemlcmkkjarGFu
import Derived.Test.YthkhaemlcmkkjarGFo
import Derived.Test.YthkhaemlcmkkjarGUp
import Derived.Test.YthkhaemlcmkkjarSatC
import Derived.Test.YthkhaemlcmkkjarSatV
import Derived.Test.YthkhaemlcmkkjarLdMore
import Derived.Test.YthkhaemlcmkkjarGCn
namespace Go.Proofs.Ythkhaemlcmkkjar
set_option linter.unusedVariables false
set_option linter.unusedSimpArgs false
open Go.RowKit Go.Deep

set_option maxRecDepth 100000 in
set_option maxHeartbeats 8000000 in
theorem satgiven_law (a : Option Addr) (n c : Nat) (a2 : Option Addr) (n2 c2 : Nat) (w : World) (h : CodeAt w.heap.size w a n) (hc : n ≤ c) (hc2 : c ≤ maxLen) (hd : n2 ≤ c2) (hd2 : c2 ≤ maxLen) :
    Calls Try.prog 5 #[.slice a n c, .slice a2 n2 c2] w fun e w' => e = .returned (.bool true) ∧ Below w.heap.size w w' := by
  have hmx := hc2
  unfold maxLen at hmx
  have hmd := hd2
  unfold maxLen at hmd
  by_cases hbig : 1048576 < n
  · have hb' : (1048576 : Int) < (n : Int) := by omega
    go_enter Try.func5, Try.ntmps5
    go_wp2_with fail
    go_ret
    exact ⟨rfl, Below.refl _ _⟩
  have hb' : ¬ (1048576 : Int) < (n : Int) := by omega
  by_cases hbig2 : 1048576 < n2
  · have hb2' : (1048576 : Int) < (n2 : Int) := by omega
    go_enter Try.func5, Try.ntmps5
    go_wp2_with fail
    go_ret
    exact ⟨rfl, Below.refl _ _⟩
  have hb2' : ¬ (1048576 : Int) < (n2 : Int) := by omega
  go_enter Try.func5, Try.ntmps5
  go_wp2_with fail
  refine (DrawSatFind_V a n c w h (by omega) hc hc2).mono ?_
  rintro e w1 ⟨⟨vars, v, ls, vs, most, rfl, hL, hll, hsh, hmo0, hmo1⟩, b1⟩
  obtain ⟨va, vc, hv, hcls⟩ := hL.cls (by omega) hsh
  subst hv
  have hvac : va = none → vc = 0 := fun e => by
    rcases hL.own.2 with ⟨h, _⟩ | ⟨g, cap, cur, h, _⟩
    · simp only [Value.slice.injEq] at h; exact h.2.2
    · simp only [Value.slice.injEq] at h; rw [h.1] at e; cases e
  have HC1 := hide hcls
  have HSH := hide hsh
  have HB1 := hide b1
  clear hL hcls b1 h hsh
  go_upto_region 4 with fail
  obtain ⟨w2, hw2⟩ : ∃ w2, w2 = w1.alloc (.cells #[.int .i64 vars, .slice va ls.length vc] 41) := ⟨_, rfl⟩
  rw [← hw2]
  have b2 : Below w1.heap.size w1 w2 := by rw [hw2]; exact (Below.refl _ _).alloc (Nat.le_refl _) _
  have x0 : w2.cell? ⟨w1.heap.size, 0, none⟩ = some (.int .i64 vars) := by rw [hw2]; simp
  have x1 : w2.cell? ⟨w1.heap.size, 1, none⟩ = some (.slice va ls.length vc) := by rw [hw2]; simp
  have hlt2 : w1.heap.size < w2.heap.size := by rw [hw2]; simp
  have HC2 := hide ((unhide HC1).on b2)
  have HB2 := hide ((unhide HB1).trans (b2.mono (unhide HB1).size))
  clear hw2 b2 HC1 HB1
  obtain ⟨k, m, p, hr⟩ : ∃ k m p, satZ vars ls most = (k, m, p) := ⟨_, _, _, rfl⟩
  obtain ⟨sm1, sm2, sm3, sm4, sm5, sm6⟩ := sat_small hr
  have HR0 := hide hr
  have HM4 := hide sm4
  have HM5 := hide sm5
  have HM6 := hide sm6
  have HM3 := hide (fun c hc => Nat.le_trans (sm3 c hc) (show 400 ≤ 1048576 by omega))
  have HCX := hide (fun x (hx : Below w2.heap.size w2 x) => specSatFind_any vars va ls vc most x ((unhide HC2).on hx))
  have HCY := hide (fun x (hx : Below w2.heap.size w2 x) => implSatFind_any vars va ls vc most x ((unhide HC2).on hx))
  rw [hr] at HCX HCY
  clear hr sm3 sm4 sm5 sm6
  go_wp2_with fail
  refine (unhide HCX w2 (Below.refl _ _)).mono ?_
  rintro e w3 ⟨⟨mv3, pv3, vs3, rfl, hm3, hp3⟩, b3⟩
  obtain ⟨wa, wc, hmv3, hmb3⟩ := bools_of (m := m) hm3 (by omega)
  subst hmv3
  obtain ⟨ra, rc, hpv3, hpc3, hpl3, hpk3⟩ := lists_of (p := p) hp3 (by omega) (unhide HM3)
  subst hpv3
  have HW3 := hide hmb3
  have HR3 := hide hpl3
  have HS3 := hide hpk3
  clear hm3 hp3 hmb3 hpl3 hpk3
  have HC3 := hide ((unhide HC2).on b3)
  have HCZ := hide (unhide HCY w3 b3)
  have HB3 := hide ((unhide HB2).trans (b3.mono (unhide HB2).size))
  have hlt3 : w1.heap.size < w3.heap.size := Nat.lt_of_lt_of_le hlt2 b3.size
  rw [← b3.cell (p := ⟨w1.heap.size, _, none⟩) hlt2] at x0 x1
  clear HCY HC2 HB2 b3 hlt2
  go_wp2_with fail
  refine (unhide HCZ).mono ?_
  rintro e w4 ⟨⟨mv4, pv4, vs4, rfl, hm4, hp4⟩, b4⟩
  obtain ⟨ga, gc, hmv4, hmb4⟩ := bools_of (m := m) hm4 (by omega)
  subst hmv4
  obtain ⟨pa, pc, hpv4, hpc4, hpl4, hpk4⟩ := lists_of (p := p) hp4 (by omega) (unhide HM3)
  subst hpv4
  have HG4 := hide hmb4
  have HP4 := hide hpl4
  have HQ4 := hide hpk4
  clear hm4 hp4 hmb4 hpl4 hpk4
  have HC4 := hide ((unhide HC3).on b4)
  have HW4 := hide ((unhide HW3).on b4)
  have HR4 := hide ((unhide HR3).on b4)
  have HS4 := hide ((unhide HS3).on b4)
  have HB4 := hide ((unhide HB3).trans (b4.mono (unhide HB3).size))
  have hlt4 : w1.heap.size < w4.heap.size := Nat.lt_of_lt_of_le hlt3 b4.size
  rw [← b4.cell (p := ⟨w1.heap.size, _, none⟩) hlt3] at x0 x1
  clear HC3 HW3 HR3 HS3 HB3 b4 hlt3
  go_wp2_with fail
  refine (ldBools_I ga wa m gc wc w4 (unhide HG4) (unhide HW4)).mono ?_
  rintro e w5 ⟨rfl, b5⟩
  have HC5 := hide ((unhide HC4).on b5)
  have HG5 := hide ((unhide HG4).on b5)
  have HW5 := hide ((unhide HW4).on b5)
  have HB5 := hide ((unhide HB4).trans (b5.mono (unhide HB4).size))
  have hlt5 : w1.heap.size < w5.heap.size := Nat.lt_of_lt_of_le hlt4 b5.size
  rw [← b5.cell (p := ⟨w1.heap.size, _, none⟩) hlt4] at x0 x1
  clear HC4 HG4 HW4 HB4 b5 hlt4
  by_cases hk1 : k = 1
  · subst hk1
    by_cases hm0 : m = []
    · subst hm0
      go_wp2_with fail
      refine (ldBools_I ga wa [] gc wc w5 (unhide HG5) (unhide HW5)).mono ?_
      rintro e w6 ⟨rfl, b6⟩
      have HC6 := hide ((unhide HC5).on b6)
      have HB6 := hide ((unhide HB5).trans (b6.mono (unhide HB5).size))
      have hlt6 : w1.heap.size < w6.heap.size := Nat.lt_of_lt_of_le hlt5 b6.size
      rw [← b6.cell (p := ⟨w1.heap.size, _, none⟩) hlt5] at x0 x1
      clear HC5 HB5 b6 hlt5
      go_wp2_with fail
      go_ret
      exact ⟨rfl, unhide HB6⟩
    have hm2 : ¬ m.length = 0 := fun e => hm0 (List.length_eq_zero_iff.1 e)
    have hm1 : ¬ (m.length : Int) = 0 := by omega
    have hyes := (sat_yes (unhide HR0)).1
    obtain ⟨hok, hlen, _⟩ := true_parts hyes
    have hv4 := (cnf_vars hok).2
    clear hyes hok
    obtain ⟨r, hr⟩ : ∃ r, r = n2 % m.length := ⟨_, rfl⟩
    have hrl : r < m.length := by rw [hr]; exact Nat.mod_lt _ (by omega)
    have hmod : Int.tmod (n2 : Int) (m.length : Int) = (r : Int) := by rw [Int.tmod_eq_emod_of_nonneg (by omega), hr]; norm_cast
    have hwm : IntKind.i64.wrap (r : Int) = (r : Int) := by rw [IntKind.wrap_i64]; omega
    have hr0 : (0 : Int) ≤ (r : Int) := by omega
    have hr1 : (r : Int) < (m.length : Int) := by omega
    obtain ⟨y, hy⟩ : ∃ y : Int, y = (r : Int) + 1 := ⟨_, rfl⟩
    have hwr : IntKind.i64.wrap ((r : Int) + 1) = y := by rw [IntKind.wrap_i64, hy]; omega
    rcases (unhide HG5).2 with h0 | ⟨gb, go, hge, hgl, hgc⟩
    · exact absurd h0 hm0
    have c0 := hgc r hrl
    subst hge
    obtain ⟨bv, hbv⟩ : ∃ bv, m.getD r false = bv := ⟨_, rfl⟩
    rw [hbv] at c0
    have hsp : soB m y = bv := by
      have := soB_pos m (v := r + 1) (by omega)
      rw [Nat.add_sub_cancel, hbv] at this
      rw [hy, ← this]
      norm_cast
    cases bv with
    | true =>
      obtain ⟨z, hz⟩ : ∃ z : Int, z = y := ⟨_, rfl⟩
      rw [← hz] at hwr
      obtain ⟨p', hgv⟩ := sat_given (x := z) (unhide HR0) (by omega) (by omega) (by omega) (by omega) (by rw [hz]; exact hsp)
      have HGV := hide hgv
      clear hgv hgc hr hbv hy hz hsp hlen
      have bA := (Below.refl w5.heap.size w5).alloc (Nat.le_refl _) (.cells #[.int .i64 z] 3)
      have hs : SetAt (w5.alloc (.cells #[.int .i64 z] 3)) (some ⟨w5.heap.size, 0, none⟩) [z] := by
        refine ⟨by simp, Or.inr ⟨w5.heap.size, 0, rfl, by simp, fun i hi => ?_⟩⟩
        have : i = 0 := by simp at hi; omega
        subst this
        simp
      have HLM := hide (ldMore_any vars va ls vc hvac (some ⟨w5.heap.size, 0, none⟩) [z] 1 _ ((unhide HC5).on bA) hs (by omega))
      have HBA := hide ((unhide HB5).trans (bA.mono (unhide HB5).size))
      have HGA := hide ((unhide HG5).on bA)
      clear hs bA
      simp only [List.length_singleton] at HLM
      go_wp2_with fail
      refine (unhide HLM).mono ?_
      rintro e w6 ⟨⟨a', c', rfl, hcl⟩, b6⟩
      have HF := hide (implSatFind_any vars (some a') (ls ++ [[z]]) c' most w6 hcl)
      rw [unhide HGV, show (ls ++ [[z]]).length = ls.length + 1 by simp] at HF
      have HB6 := hide ((unhide HBA).trans (b6.mono (unhide HBA).size))
      have HG6 := hide ((unhide HGA).on b6)
      clear hcl HLM HBA HGA b6
      go_wp2_with fail
      refine (unhide HF).mono ?_
      rintro e w7 ⟨⟨mv7, pv7, vs7, rfl, hm7, hp7⟩, b7⟩
      obtain ⟨xa, xc, hmv7, hmb7⟩ := bools_of (m := m) hm7 (by omega)
      subst hmv7
      have HX7 := hide hmb7
      have HB7 := hide ((unhide HB6).trans (b7.mono (unhide HB6).size))
      have HG7 := hide ((unhide HG6).on b7)
      clear HF hm7 hp7 hmb7 b7 HB6 HG6
      go_wp2_with fail
      refine (ldBools_I xa _ m xc gc w7 (unhide HX7) (unhide HG7)).mono ?_
      rintro e w8 ⟨rfl, b8⟩
      have HB8 := hide ((unhide HB7).trans (b8.mono (unhide HB7).size))
      clear b8
      go_wp2_with fail
      go_ret
      exact ⟨rfl, unhide HB8⟩
    | false =>
      have hnz : soB m (-y) = true := by rw [so_neg (by omega), hsp]; rfl
      obtain ⟨z, hz⟩ : ∃ z : Int, z = -y := ⟨_, rfl⟩
      have hwn : IntKind.i64.wrap (-y) = z := by rw [IntKind.wrap_i64]; omega
      obtain ⟨p', hgv⟩ := sat_given (x := z) (unhide HR0) (by omega) (by omega) (by omega) (by omega) (by rw [hz]; exact hnz)
      have HGV := hide hgv
      clear hgv hgc hr hbv hy hz hsp hlen hnz
      have bA := (Below.refl w5.heap.size w5).alloc (Nat.le_refl _) (.cells #[.int .i64 z] 3)
      have hs : SetAt (w5.alloc (.cells #[.int .i64 z] 3)) (some ⟨w5.heap.size, 0, none⟩) [z] := by
        refine ⟨by simp, Or.inr ⟨w5.heap.size, 0, rfl, by simp, fun i hi => ?_⟩⟩
        have : i = 0 := by simp at hi; omega
        subst this
        simp
      have HLM := hide (ldMore_any vars va ls vc hvac (some ⟨w5.heap.size, 0, none⟩) [z] 1 _ ((unhide HC5).on bA) hs (by omega))
      have HBA := hide ((unhide HB5).trans (bA.mono (unhide HB5).size))
      have HGA := hide ((unhide HG5).on bA)
      clear hs bA
      simp only [List.length_singleton] at HLM
      go_wp2_with fail
      refine (unhide HLM).mono ?_
      rintro e w6 ⟨⟨a', c', rfl, hcl⟩, b6⟩
      have HF := hide (implSatFind_any vars (some a') (ls ++ [[z]]) c' most w6 hcl)
      rw [unhide HGV, show (ls ++ [[z]]).length = ls.length + 1 by simp] at HF
      have HB6 := hide ((unhide HBA).trans (b6.mono (unhide HBA).size))
      have HG6 := hide ((unhide HGA).on b6)
      clear hcl HLM HBA HGA b6
      go_wp2_with fail
      refine (unhide HF).mono ?_
      rintro e w7 ⟨⟨mv7, pv7, vs7, rfl, hm7, hp7⟩, b7⟩
      obtain ⟨xa, xc, hmv7, hmb7⟩ := bools_of (m := m) hm7 (by omega)
      subst hmv7
      have HX7 := hide hmb7
      have HB7 := hide ((unhide HB6).trans (b7.mono (unhide HB6).size))
      have HG7 := hide ((unhide HG6).on b7)
      clear HF hm7 hp7 hmb7 b7 HB6 HG6
      go_wp2_with fail
      refine (ldBools_I xa _ m xc gc w7 (unhide HX7) (unhide HG7)).mono ?_
      rintro e w8 ⟨rfl, b8⟩
      have HB8 := hide ((unhide HB7).trans (b8.mono (unhide HB7).size))
      clear b8
      go_wp2_with fail
      go_ret
      exact ⟨rfl, unhide HB8⟩
  · have hk2 : (k == 1) = false := by rw [beq_eq_false_iff_ne]; exact hk1
    have hk3 : (k != 1) = true := by rw [bne_iff_ne]; exact hk1
    go_wp2_with fail
    refine (ldBools_I ga wa m gc wc w5 (unhide HG5) (unhide HW5)).mono ?_
    rintro e w6 ⟨rfl, b6⟩
    have HC6 := hide ((unhide HC5).on b6)
    have HB6 := hide ((unhide HB5).trans (b6.mono (unhide HB5).size))
    have hlt6 : w1.heap.size < w6.heap.size := Nat.lt_of_lt_of_le hlt5 b6.size
    rw [← b6.cell (p := ⟨w1.heap.size, _, none⟩) hlt5] at x0 x1
    clear HC5 HB5 b6 hlt5
    go_wp2_with fail
    go_ret
    exact ⟨rfl, unhide HB6⟩
end Go.Proofs.Ythkhaemlcmkkjar
