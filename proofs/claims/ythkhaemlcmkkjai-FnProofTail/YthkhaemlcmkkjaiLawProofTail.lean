/- The walk of the law FnProofTail: at every code it answers true. -/
import Derived.Test.YthkhaemlcmkkjaiPfL
import Derived.Deep.QuietTactic
import Derived.BigQuiet
namespace Go.Proofs.Ythkhaemlcmkkjai
set_option linter.unusedVariables false
set_option linter.unusedSimpArgs false
open Go.RowKit Go.Deep

set_option maxRecDepth 100000 in
set_option maxHeartbeats 2000000 in
theorem prooftail_law (a : Option Addr) (n c : Nat) (w : World) (h : CodeAt w.heap.size w a n) (hc : n ≤ c) (hc2 : c ≤ maxLen) :
    Calls Try.prog 7 #[.slice a n c] w fun e w' => e = .returned (.bool true) ∧ Below w.heap.size w w' := by
  have hmx := hc2
  unfold maxLen at hmx
  by_cases hbig : 1048576 < n
  · have hb' : (1048576 : Int) < (n : Int) := by omega
    go_enter Try.func7, Try.ntmps7
    go_wp2_with fail
    go_ret
    exact ⟨rfl, Below.refl _ _⟩
  have hb' : ¬ (1048576 : Int) < (n : Int) := by omega
  go_enter Try.func7, Try.ntmps7
  go_wp2_with fail
  refine (DrawSatProof_V a n c w h (by omega) hc hc2).mono ?_
  rintro e w1 ⟨⟨vars, va, vc, ls, pa, ps, pc, rfl, ⟨hcls, hvn, hvc1, hvc2, hll⟩, hps, hpc1, hpc2, hpn, hpl⟩, b1⟩
  have hvm := hvc2
  unfold maxLen at hvm
  have hpm := hpc2
  unfold maxLen at hpm
  have HC1 := hide hcls
  have HP1 := hide hps
  have HB1 := hide b1
  clear hcls hps b1 h
  go_upto_region 4 with fail
  obtain ⟨w2, hw2⟩ : ∃ w2, w2 = w1.alloc (.cells #[.int .i64 vars, .slice va ls.length vc] 25) := ⟨_, rfl⟩
  rw [← hw2]
  have b2 : Below w1.heap.size w1 w2 := by rw [hw2]; exact (Below.refl _ _).alloc (Nat.le_refl _) _
  have x0 : w2.cell? ⟨w1.heap.size, 0, none⟩ = some (.int .i64 vars) := by rw [hw2]; simp
  have x1 : w2.cell? ⟨w1.heap.size, 1, none⟩ = some (.slice va ls.length vc) := by rw [hw2]; simp
  have hlt2 : w1.heap.size < w2.heap.size := by rw [hw2]; simp
  have HC2 := hide ((unhide HC1).on b2)
  have HP2 := hide ((unhide HP1).on b2)
  have HB2 := hide ((unhide HB1).trans (b2.mono (unhide HB1).size))
  clear hw2 b2 HC1 HP1 HB1
  have HI := hide (fun x (hx : Below w2.heap.size w2 x) => implSatProof_any vars va ls vc pa ps pc hpc1 x ((unhide HC2).on hx) ((unhide HP2).on hx))
  have HS := hide (fun x (hx : Below w2.heap.size w2 x) => specSatProof_any vars va ls vc hvn pa ps pc x ((unhide HC2).on hx) ((unhide HP2).on hx))
  obtain ⟨z, hz⟩ : ∃ z, proofZ vars ls ps = z := ⟨_, rfl⟩
  rw [hz] at HI HS
  have HZ := hide hz
  have H22 := hide (Below.refl w2.heap.size w2)
  clear hz
  go_wp2_with fail
  refine (unhide HI w2 (unhide H22)).mono ?_
  rintro e w3 ⟨rfl, b3⟩
  have H23 := hide ((unhide H22).trans (b3.mono (unhide H22).size))
  clear H22
  have HC3 := hide ((unhide HC2).on b3)
  have HP3 := hide ((unhide HP2).on b3)
  have HB3 := hide ((unhide HB2).trans (b3.mono (unhide HB2).size))
  have hlt3 : w1.heap.size < w3.heap.size := Nat.lt_of_lt_of_le hlt2 b3.size
  rw [← b3.cell (p := ⟨w1.heap.size, _, none⟩) hlt2] at x0 x1
  clear HC2 HP2 HB2 b3 hlt2
  go_wp2_with fail
  refine (unhide HS w3 (unhide H23)).mono ?_
  rintro e w4 ⟨rfl, b4⟩
  have H24 := hide ((unhide H23).trans (b4.mono (unhide H23).size))
  clear H23
  have HC4 := hide ((unhide HC3).on b4)
  have HP4 := hide ((unhide HP3).on b4)
  have HB4 := hide ((unhide HB3).trans (b4.mono (unhide HB3).size))
  have hlt4 : w1.heap.size < w4.heap.size := Nat.lt_of_lt_of_le hlt3 b4.size
  rw [← b4.cell (p := ⟨w1.heap.size, _, none⟩) hlt3] at x0 x1
  clear HC3 HP3 HB3 b4 hlt3
  cases z with
  | false =>
    go_wp2_with fail
    refine (unhide HS w4 (unhide H24)).mono ?_
    rintro e w5 ⟨rfl, b5⟩
    have H25 := hide ((unhide H24).trans (b5.mono (unhide H24).size))
    clear H24
    have HC5 := hide ((unhide HC4).on b5)
    have HP5 := hide ((unhide HP4).on b5)
    have HB5 := hide ((unhide HB4).trans (b5.mono (unhide HB4).size))
    have hlt5 : w1.heap.size < w5.heap.size := Nat.lt_of_lt_of_le hlt4 b5.size
    rw [← b5.cell (p := ⟨w1.heap.size, _, none⟩) hlt4] at x0 x1
    clear HC4 HP4 HB4 b5 hlt4
    go_wp2_with fail
    go_ret
    exact ⟨rfl, unhide HB5⟩
  | true =>
    obtain ⟨hp0, hlast⟩ := proof_last (unhide HZ)
    have htail := proof_tail (unhide HZ)
    obtain ⟨k, hk⟩ : ∃ k, ps.length = k + 1 := ⟨ps.length - 1, by omega⟩
    rw [show ps.length - 1 = k by omega] at hlast htail
    rw [show ps.length - 2 = k - 1 by omega] at htail
    obtain ⟨pb, po, la, lc, rfl, c2, _⟩ := (unhide HP4).cellAt (i := k) (by omega)
    rw [hlast] at c2
    have hpb : pb < w4.heap.size := block_lt_of_cell c2
    have htl : (ps.take k).length = k := by simp; omega
    have HT := hide (fun x (hx : Below w4.heap.size w4 x) => implSatProof_any vars va ls vc (some ⟨pb, po, none⟩) (ps.take k) pc (by omega) x ((unhide HC4).on hx) (((unhide HP4).front k).on hx))
    rw [htail, htl] at HT
    have hw1 : IntKind.i64.wrap ((ps.length : Int) - 1) = (k : Int) := by rw [IntKind.wrap_i64]; omega
    have j0 : (0 : Int) ≤ (k : Int) := by omega
    have j1 : (k : Int) < (ps.length : Int) := by omega
    have j2 : (k : Int) ≤ (ps.length : Int) := by omega
    have j3 : (k : Int) ≤ (pc : Int) := by omega
    have j4 : pc ≠ 0 := by omega
    by_cases hn : 1 < ps.length
    · obtain ⟨j, hj⟩ : ∃ j, k = j + 1 := ⟨k - 1, by omega⟩
      rw [show k - 1 = j by omega, decide_eq_true hn, Bool.true_and] at HT
      have hw2 : IntKind.i64.wrap ((ps.length : Int) - 2) = (j : Int) := by rw [IntKind.wrap_i64]; omega
      obtain ⟨pb', po', ja, jc, e, c3, _⟩ := (unhide HP4).cellAt (i := j) (by omega)
      simp only [Option.some.injEq, Addr.mk.injEq, and_true] at e
      obtain ⟨rfl, rfl⟩ := e
      generalize (ps.getD j []).length = jl at c3 HT
      have k0 : (0 : Int) ≤ (j : Int) := by omega
      have k1 : (j : Int) < (ps.length : Int) := by omega
      have k2 : (1 : Int) < (ps.length : Int) := by omega
      obtain ⟨q, hq⟩ : ∃ q, q = decide (jl = 0) := ⟨_, rfl⟩
      have hq2 : decide ((jl : Int) = 0) = q := by rw [hq]; exact decide_eq_decide.2 (by omega)
      have hq3 : ((jl : Int) == 0) = q := by rw [← hq2]; rfl
      rw [← hq] at HT
      clear hq hj hk htl hlast HP4 HI HS HZ H24
      go_upto_region 8 with fail
      refine wp_region_mix (k := 100) 27 [] [.slice (some ⟨pb, po, none⟩) ps.length pc, .int .i64 (ps.length : Int), .int .i64 (k : Int), .pointer (some ⟨pb, po + k, none⟩), .slice la 0 lc, .int .i64 0, .bool true, .bool true, .agg #[.int .i64 vars, .slice va ls.length vc], .slice (some ⟨pb, po, none⟩) ps.length pc, .int .i64 (ps.length : Int), .int .i64 (k : Int), .slice (some ⟨pb, po, none⟩) k pc, .bool q, .int .i64 (ps.length : Int), .bool true, .bool true, .slice (some ⟨pb, po, none⟩) ps.length pc, .int .i64 (ps.length : Int), .int .i64 (j : Int), .pointer (some ⟨pb, po + j, none⟩), .slice ja jl jc, .int .i64 (jl : Int), .bool q, .bool q, .bool true, .bool true] (CG w4) (by kernel_rfl) (by kernel_rfl) (by kernel_rfl) (by kernel_rfl) (by kernel_rfl) (by kernel_rfl) ⟨(Below.refl _ _).drew⟩ ?_ ?_ ?_
      · intro full hfull i oo hi' hns ho x fl us hC hb
        simp [putAll, slotOf, Act.put] at hfull
        subst hfull
        have bx := hC.below
        have y0 := (bx.cell (p := ⟨w1.heap.size, 0, none⟩) hlt4).trans x0
        have y1 := (bx.cell (p := ⟨w1.heap.size, 1, none⟩) hlt4).trans x1
        have y2 := (bx.cell (p := ⟨pb, po + k, none⟩) hpb).trans c2
        have y3 := (bx.cell (p := ⟨pb, po + j, none⟩) hpb).trans c3
        have hC0 := hC.on (b' := fl) (us' := us) (Below.refl _ _)
        match i with
        | 0 => simp at ho; subst ho; simp [gwp, Region.wanted, yielded]; go_simp; first | done | exact hC0 | exact ⟨rfl, hC0⟩ | (simp; exact hC0) | (refine ⟨by simp <;> omega, hC0⟩)
        | 1 => simp at ho; subst ho; simp [gwp, Region.wanted, yielded]; go_simp; first | done | exact hC0 | exact ⟨rfl, hC0⟩ | (simp; exact hC0) | (refine ⟨by simp <;> omega, hC0⟩)
        | 2 => simp at ho; subst ho; simp [gwp, Region.wanted, yielded]; go_simp; first | done | exact hC0 | exact ⟨rfl, hC0⟩ | (simp; exact hC0) | (refine ⟨by simp <;> omega, hC0⟩)
        | 3 => simp at ho; subst ho; simp [gwp, Region.wanted, yielded]; go_simp; first | done | exact hC0 | exact ⟨rfl, hC0⟩ | (simp; exact hC0) | (refine ⟨by simp <;> omega, hC0⟩)
        | 4 => simp at ho; subst ho; simp [gwp, Region.wanted, yielded]; go_simp; first | done | exact hC0 | exact ⟨rfl, hC0⟩ | (simp; exact hC0) | (refine ⟨by simp <;> omega, hC0⟩)
        | 5 => simp at ho; subst ho; simp [gwp, Region.wanted, yielded]; go_simp; first | done | exact hC0 | exact ⟨rfl, hC0⟩ | (simp; exact hC0) | (refine ⟨by simp <;> omega, hC0⟩)
        | 6 => simp at ho; subst ho; simp [gwp, Region.wanted, yielded]; go_simp; first | done | exact hC0 | exact ⟨rfl, hC0⟩ | (simp; exact hC0) | (refine ⟨by simp <;> omega, hC0⟩)
        | 7 => simp at ho; subst ho; simp [gwp, Region.wanted, yielded]; go_simp; first | done | exact hC0 | exact ⟨rfl, hC0⟩ | (simp; exact hC0) | (refine ⟨by simp <;> omega, hC0⟩)
        | 8 => simp at ho; subst ho; simp [gwp, Region.wanted, yielded]; go_simp; first | done | exact hC0 | exact ⟨rfl, hC0⟩ | (simp; exact hC0) | (refine ⟨by simp <;> omega, hC0⟩)
        | 9 => simp at ho; subst ho; simp [gwp, Region.wanted, yielded]; go_simp; first | done | exact hC0 | exact ⟨rfl, hC0⟩ | (simp; exact hC0) | (refine ⟨by simp <;> omega, hC0⟩)
        | 10 => simp at ho; subst ho; simp [gwp, Region.wanted, yielded]; go_simp; first | done | exact hC0 | exact ⟨rfl, hC0⟩ | (simp; exact hC0) | (refine ⟨by simp <;> omega, hC0⟩)
        | 11 => simp at ho; subst ho; simp [gwp, Region.wanted, yielded]; go_simp; first | done | exact hC0 | exact ⟨rfl, hC0⟩ | (simp; exact hC0) | (refine ⟨by simp <;> omega, hC0⟩)
        | 12 => simp at ho; subst ho; simp [gwp, Region.wanted, yielded]; go_simp; first | done | exact hC0 | exact ⟨rfl, hC0⟩ | (simp; exact hC0) | (refine ⟨by simp <;> omega, hC0⟩)
        | 13 =>
          simp at ho; subst ho; simp [gwp, Region.wanted, yielded]; go_simp
          refine (unhide HT x bx).mono ?_
          rintro e wy ⟨rfl, by1⟩
          go_simp
          first | done | exact hC.on by1 | exact ⟨rfl, hC.on by1⟩ | (simp; exact hC.on by1)
        | 14 => simp at ho; subst ho; simp [gwp, Region.wanted, yielded]; go_simp; first | done | exact hC0 | exact ⟨rfl, hC0⟩ | (simp; exact hC0) | (refine ⟨by simp <;> omega, hC0⟩)
        | 15 => simp at ho; subst ho; simp [gwp, Region.wanted, yielded]; go_simp; first | done | exact hC0 | exact ⟨rfl, hC0⟩ | (simp; exact hC0) | (refine ⟨by simp <;> omega, hC0⟩)
        | 16 => simp at ho; subst ho; simp [gwp, Region.wanted, yielded]; go_simp; first | done | exact hC0 | exact ⟨rfl, hC0⟩ | (simp; exact hC0) | (refine ⟨by simp <;> omega, hC0⟩)
        | 17 => simp at ho; subst ho; simp [gwp, Region.wanted, yielded]; go_simp; first | done | exact hC0 | exact ⟨rfl, hC0⟩ | (simp; exact hC0) | (refine ⟨by simp <;> omega, hC0⟩)
        | 18 => simp at ho; subst ho; simp [gwp, Region.wanted, yielded]; go_simp; first | done | exact hC0 | exact ⟨rfl, hC0⟩ | (simp; exact hC0) | (refine ⟨by simp <;> omega, hC0⟩)
        | 19 => simp at ho; subst ho; simp [gwp, Region.wanted, yielded]; go_simp; first | done | exact hC0 | exact ⟨rfl, hC0⟩ | (simp; exact hC0) | (refine ⟨by simp <;> omega, hC0⟩)
        | 20 => simp at ho; subst ho; simp [gwp, Region.wanted, yielded]; go_simp; first | done | exact hC0 | exact ⟨rfl, hC0⟩ | (simp; exact hC0) | (refine ⟨by simp <;> omega, hC0⟩)
        | 21 => simp at ho; subst ho; simp [gwp, Region.wanted, yielded]; go_simp; first | done | exact hC0 | exact ⟨rfl, hC0⟩ | (simp; exact hC0) | (refine ⟨by simp <;> omega, hC0⟩)
        | 22 => simp at ho; subst ho; simp [gwp, Region.wanted, yielded]; go_simp; first | done | exact hC0 | exact ⟨rfl, hC0⟩ | (simp; exact hC0) | (refine ⟨by simp <;> omega, hC0⟩)
        | 23 => simp at ho; subst ho; simp [gwp, Region.wanted, yielded]; go_simp; first | done | exact hC0 | exact ⟨rfl, hC0⟩ | (simp; exact hC0) | (refine ⟨by simp <;> omega, hC0⟩)
        | 24 => simp at ho; subst ho; simp [gwp, Region.wanted, yielded]; go_simp; first | done | exact hC0 | exact ⟨rfl, hC0⟩ | (simp; exact hC0) | (refine ⟨by simp <;> omega, hC0⟩)
        | 25 => simp at ho; subst ho; simp [gwp, Region.wanted, yielded]; go_simp; first | done | exact hC0 | exact ⟨rfl, hC0⟩ | (simp; exact hC0) | (refine ⟨by simp <;> omega, hC0⟩)
        | 26 => simp at ho; subst ho; simp [gwp, Region.wanted, yielded]; go_simp; first | done | exact hC0 | exact ⟨rfl, hC0⟩ | (simp; exact hC0) | (refine ⟨by simp <;> omega, hC0⟩)
        | i + 27 => omega
      · intro full hfull us j hj
        simp at hj
      intro full hfull us w5 hus hC
      simp [putAll, slotOf, Act.put] at hfull
      subst hfull
      match us, hus with
      | [], _ =>
      have b5 := hC.below
      clear hC
      have HB5 := hide ((unhide HB4).trans (b5.mono (unhide HB4).size))
      simp [putP, slotOf, Act.put]
      go_wp2_with fail
      go_ret
      exact ⟨rfl, unhide HB5⟩
    · have k2 : ¬ (1 : Int) < (ps.length : Int) := by omega
      rw [decide_eq_false hn, Bool.false_and] at HT
      clear hk htl hlast HP4 HI HS HZ H24
      go_upto_region 8 with fail
      refine wp_region_mix (k := 100) 27 [] [.slice (some ⟨pb, po, none⟩) ps.length pc, .int .i64 (ps.length : Int), .int .i64 (k : Int), .pointer (some ⟨pb, po + k, none⟩), .slice la 0 lc, .int .i64 0, .bool true, .bool true, .agg #[.int .i64 vars, .slice va ls.length vc], .slice (some ⟨pb, po, none⟩) ps.length pc, .int .i64 (ps.length : Int), .int .i64 (k : Int), .slice (some ⟨pb, po, none⟩) k pc, .bool false, .int .i64 (ps.length : Int), .bool false, .bool false, undef, undef, undef, undef, undef, undef, undef, .bool false, .bool true, .bool true] (CG w4) (by kernel_rfl) (by kernel_rfl) (by kernel_rfl) (by kernel_rfl) (by kernel_rfl) (by kernel_rfl) ⟨(Below.refl _ _).drew⟩ ?_ ?_ ?_
      · intro full hfull i oo hi' hns ho x fl us hC hb
        simp [putAll, slotOf, Act.put] at hfull
        subst hfull
        have bx := hC.below
        have y0 := (bx.cell (p := ⟨w1.heap.size, 0, none⟩) hlt4).trans x0
        have y1 := (bx.cell (p := ⟨w1.heap.size, 1, none⟩) hlt4).trans x1
        have y2 := (bx.cell (p := ⟨pb, po + k, none⟩) hpb).trans c2
        have hC0 := hC.on (b' := fl) (us' := us) (Below.refl _ _)
        match i with
        | 0 => simp at ho; subst ho; simp [gwp, Region.wanted, yielded]; go_simp; first | done | exact hC0 | exact ⟨rfl, hC0⟩ | (simp; exact hC0) | (refine ⟨by simp <;> omega, hC0⟩)
        | 1 => simp at ho; subst ho; simp [gwp, Region.wanted, yielded]; go_simp; first | done | exact hC0 | exact ⟨rfl, hC0⟩ | (simp; exact hC0) | (refine ⟨by simp <;> omega, hC0⟩)
        | 2 => simp at ho; subst ho; simp [gwp, Region.wanted, yielded]; go_simp; first | done | exact hC0 | exact ⟨rfl, hC0⟩ | (simp; exact hC0) | (refine ⟨by simp <;> omega, hC0⟩)
        | 3 => simp at ho; subst ho; simp [gwp, Region.wanted, yielded]; go_simp; first | done | exact hC0 | exact ⟨rfl, hC0⟩ | (simp; exact hC0) | (refine ⟨by simp <;> omega, hC0⟩)
        | 4 => simp at ho; subst ho; simp [gwp, Region.wanted, yielded]; go_simp; first | done | exact hC0 | exact ⟨rfl, hC0⟩ | (simp; exact hC0) | (refine ⟨by simp <;> omega, hC0⟩)
        | 5 => simp at ho; subst ho; simp [gwp, Region.wanted, yielded]; go_simp; first | done | exact hC0 | exact ⟨rfl, hC0⟩ | (simp; exact hC0) | (refine ⟨by simp <;> omega, hC0⟩)
        | 6 => simp at ho; subst ho; simp [gwp, Region.wanted, yielded]; go_simp; first | done | exact hC0 | exact ⟨rfl, hC0⟩ | (simp; exact hC0) | (refine ⟨by simp <;> omega, hC0⟩)
        | 7 => simp at ho; subst ho; simp [gwp, Region.wanted, yielded]; go_simp; first | done | exact hC0 | exact ⟨rfl, hC0⟩ | (simp; exact hC0) | (refine ⟨by simp <;> omega, hC0⟩)
        | 8 => simp at ho; subst ho; simp [gwp, Region.wanted, yielded]; go_simp; first | done | exact hC0 | exact ⟨rfl, hC0⟩ | (simp; exact hC0) | (refine ⟨by simp <;> omega, hC0⟩)
        | 9 => simp at ho; subst ho; simp [gwp, Region.wanted, yielded]; go_simp; first | done | exact hC0 | exact ⟨rfl, hC0⟩ | (simp; exact hC0) | (refine ⟨by simp <;> omega, hC0⟩)
        | 10 => simp at ho; subst ho; simp [gwp, Region.wanted, yielded]; go_simp; first | done | exact hC0 | exact ⟨rfl, hC0⟩ | (simp; exact hC0) | (refine ⟨by simp <;> omega, hC0⟩)
        | 11 => simp at ho; subst ho; simp [gwp, Region.wanted, yielded]; go_simp; first | done | exact hC0 | exact ⟨rfl, hC0⟩ | (simp; exact hC0) | (refine ⟨by simp <;> omega, hC0⟩)
        | 12 => simp at ho; subst ho; simp [gwp, Region.wanted, yielded]; go_simp; first | done | exact hC0 | exact ⟨rfl, hC0⟩ | (simp; exact hC0) | (refine ⟨by simp <;> omega, hC0⟩)
        | 13 =>
          simp at ho; subst ho; simp [gwp, Region.wanted, yielded]; go_simp
          refine (unhide HT x bx).mono ?_
          rintro e wy ⟨rfl, by1⟩
          go_simp
          first | done | exact hC.on by1 | exact ⟨rfl, hC.on by1⟩ | (simp; exact hC.on by1)
        | 14 => simp at ho; subst ho; simp [gwp, Region.wanted, yielded]; go_simp; first | done | exact hC0 | exact ⟨rfl, hC0⟩ | (simp; exact hC0) | (refine ⟨by simp <;> omega, hC0⟩)
        | 15 => simp at ho; subst ho; simp [gwp, Region.wanted, yielded]; go_simp; first | done | exact hC0 | exact ⟨rfl, hC0⟩ | (simp; exact hC0) | (refine ⟨by simp <;> omega, hC0⟩)
        | 16 => simp at ho; subst ho; simp [gwp, Region.wanted, yielded]; go_simp; first | done | exact hC0 | exact ⟨rfl, hC0⟩ | (simp; exact hC0) | (refine ⟨by simp <;> omega, hC0⟩)
        | 17 => simp at ho; subst ho; simp [gwp, Region.wanted, yielded]; go_simp; first | done | exact hC0 | exact ⟨rfl, hC0⟩ | (simp; exact hC0) | (refine ⟨by simp <;> omega, hC0⟩)
        | 18 => simp at ho; subst ho; simp [gwp, Region.wanted, yielded]; go_simp; first | done | exact hC0 | exact ⟨rfl, hC0⟩ | (simp; exact hC0) | (refine ⟨by simp <;> omega, hC0⟩)
        | 19 => simp at ho; subst ho; simp [gwp, Region.wanted, yielded]; go_simp; first | done | exact hC0 | exact ⟨rfl, hC0⟩ | (simp; exact hC0) | (refine ⟨by simp <;> omega, hC0⟩)
        | 20 => simp at ho; subst ho; simp [gwp, Region.wanted, yielded]; go_simp; first | done | exact hC0 | exact ⟨rfl, hC0⟩ | (simp; exact hC0) | (refine ⟨by simp <;> omega, hC0⟩)
        | 21 => simp at ho; subst ho; simp [gwp, Region.wanted, yielded]; go_simp; first | done | exact hC0 | exact ⟨rfl, hC0⟩ | (simp; exact hC0) | (refine ⟨by simp <;> omega, hC0⟩)
        | 22 => simp at ho; subst ho; simp [gwp, Region.wanted, yielded]; go_simp; first | done | exact hC0 | exact ⟨rfl, hC0⟩ | (simp; exact hC0) | (refine ⟨by simp <;> omega, hC0⟩)
        | 23 => simp at ho; subst ho; simp [gwp, Region.wanted, yielded]; go_simp; first | done | exact hC0 | exact ⟨rfl, hC0⟩ | (simp; exact hC0) | (refine ⟨by simp <;> omega, hC0⟩)
        | 24 => simp at ho; subst ho; simp [gwp, Region.wanted, yielded]; go_simp; first | done | exact hC0 | exact ⟨rfl, hC0⟩ | (simp; exact hC0) | (refine ⟨by simp <;> omega, hC0⟩)
        | 25 => simp at ho; subst ho; simp [gwp, Region.wanted, yielded]; go_simp; first | done | exact hC0 | exact ⟨rfl, hC0⟩ | (simp; exact hC0) | (refine ⟨by simp <;> omega, hC0⟩)
        | 26 => simp at ho; subst ho; simp [gwp, Region.wanted, yielded]; go_simp; first | done | exact hC0 | exact ⟨rfl, hC0⟩ | (simp; exact hC0) | (refine ⟨by simp <;> omega, hC0⟩)
        | i + 27 => omega
      · intro full hfull us j hj
        simp at hj
      intro full hfull us w5 hus hC
      simp [putAll, slotOf, Act.put] at hfull
      subst hfull
      match us, hus with
      | [], _ =>
      have b5 := hC.below
      clear hC
      have HB5 := hide ((unhide HB4).trans (b5.mono (unhide HB4).size))
      simp [putP, slotOf, Act.put]
      go_wp2_with fail
      go_ret
      exact ⟨rfl, unhide HB5⟩
end Go.Proofs.Ythkhaemlcmkkjai
