/- The walk of the law FnProofNull: at every code it answers true. -/
import Derived.Test.YthkhaemlcmkkjajPfL
import Derived.Test.YthkhaemlcmkkjajGFo
import Derived.Test.YthkhaemlcmkkjajGUp
import Derived.Deep.QuietTactic
import Derived.BigQuiet
namespace Go.Proofs.Ythkhaemlcmkkjaj
set_option linter.unusedVariables false
set_option linter.unusedSimpArgs false
open Go.RowKit Go.Deep

set_option maxRecDepth 100000 in
set_option maxHeartbeats 2000000 in
theorem proofnull_law (a : Option Addr) (n c : Nat) (w : World) (h : CodeAt w.heap.size w a n) (hc : n ≤ c) (hc2 : c ≤ maxLen) :
    Calls Try.prog 3 #[.slice a n c] w fun e w' => e = .returned (.bool true) ∧ Below w.heap.size w w' := by
  have hmx := hc2
  unfold maxLen at hmx
  by_cases hbig : 1048576 < n
  · have hb' : (1048576 : Int) < (n : Int) := by omega
    go_enter Try.func3, Try.ntmps3
    go_wp2_with fail
    go_ret
    exact ⟨rfl, Below.refl _ _⟩
  have hb' : ¬ (1048576 : Int) < (n : Int) := by omega
  go_enter Try.func3, Try.ntmps3
  go_wp2_with fail
  refine (DrawSatProof_V a n c w h (by omega) hc hc2).mono ?_
  rintro e w1 ⟨⟨vars, va, vc, ls, pa, ps, pc, rfl, ⟨hcls, hvn, hvc1, hvc2, hll⟩, hps, hpc1, hpc2, hpn, hpl⟩, b1⟩
  have hvm := hvc2
  unfold maxLen at hvm
  have hpm := hpc2
  unfold maxLen at hpm
  have HC1 := hide hcls
  have HP1 := hide hps
  have HB1 := hide b1
  clear hcls hps b1 h
  go_upto_region 4 with fail
  obtain ⟨w2, hw2⟩ : ∃ w2, w2 = w1.alloc (.cells #[.int .i64 vars, .slice va ls.length vc] 25) := ⟨_, rfl⟩
  rw [← hw2]
  have b2 : Below w1.heap.size w1 w2 := by rw [hw2]; exact (Below.refl _ _).alloc (Nat.le_refl _) _
  have x0 : w2.cell? ⟨w1.heap.size, 0, none⟩ = some (.int .i64 vars) := by rw [hw2]; simp
  have x1 : w2.cell? ⟨w1.heap.size, 1, none⟩ = some (.slice va ls.length vc) := by rw [hw2]; simp
  have hlt2 : w1.heap.size < w2.heap.size := by rw [hw2]; simp
  have HC2 := hide ((unhide HC1).on b2)
  have HP2 := hide ((unhide HP1).on b2)
  have HB2 := hide ((unhide HB1).trans (b2.mono (unhide HB1).size))
  clear hw2 b2 HC1 HP1 HB1
  have HI := hide (fun x (hx : Below w2.heap.size w2 x) => implSatProof_any vars va ls vc pa ps pc hpc1 x ((unhide HC2).on hx) ((unhide HP2).on hx))
  have HS := hide (fun x (hx : Below w2.heap.size w2 x) => specSatProof_any vars va ls vc hvn pa ps pc x ((unhide HC2).on hx) ((unhide HP2).on hx))
  obtain ⟨z, hz⟩ : ∃ z, proofZ vars ls ps = z := ⟨_, rfl⟩
  rw [hz] at HI HS
  have HZ := hide hz
  have H22 := hide (Below.refl w2.heap.size w2)
  clear hz
  have HK := hide (fun x (hx : Below w2.heap.size w2 x) => specCnfOk_any vars va ls vc x ((unhide HC2).on hx))
  obtain ⟨ok, hok⟩ : ∃ ok, cnfB vars ls = ok := ⟨_, rfl⟩
  rw [hok] at HK
  have HOK := hide hok
  clear hok
  cases ok with
  | false =>
    refine wp_region_mix (k := 100) 11 [] [.agg #[.int .i64 vars, .slice va ls.length vc], .slice pa ps.length pc, .bool z, .agg #[.int .i64 vars, .slice va ls.length vc], .slice pa ps.length pc, .bool z, .bool false, .bool false, .agg #[.int .i64 vars, .slice va ls.length vc], .bool false, .bool true] (CG w2) (by kernel_rfl) (by kernel_rfl) (by kernel_rfl) (by kernel_rfl) (by kernel_rfl) (by kernel_rfl) ⟨(Below.refl _ _).drew⟩ ?_ ?_ ?_
    · intro full hfull i oo hi' hns ho x fl us hC hb
      simp [putAll, slotOf, Act.put] at hfull
      subst hfull
      have bx := hC.below
      have y0 := (bx.cell (p := ⟨w1.heap.size, 0, none⟩) hlt2).trans x0
      have y1 := (bx.cell (p := ⟨w1.heap.size, 1, none⟩) hlt2).trans x1
      have hC0 := hC.on (b' := fl) (us' := us) (Below.refl _ _)
      match i with
      | 0 => simp at ho; subst ho; simp [gwp, Region.wanted, yielded]; go_simp; first | done | exact hC0 | exact ⟨rfl, hC0⟩ | (simp; exact hC0) | (refine ⟨by simp <;> omega, hC0⟩)
      | 1 => simp at ho; subst ho; simp [gwp, Region.wanted, yielded]; go_simp; first | done | exact hC0 | exact ⟨rfl, hC0⟩ | (simp; exact hC0) | (refine ⟨by simp <;> omega, hC0⟩)
      | 2 =>
        simp at ho; subst ho; simp [gwp, Region.wanted, yielded]; go_simp
        refine (unhide HI x ((unhide H22).trans (bx.mono (unhide H22).size))).mono ?_
        rintro e wy ⟨rfl, by1⟩
        go_simp
        first | done | exact hC.on by1 | exact ⟨rfl, hC.on by1⟩ | (simp; exact hC.on by1)
      | 3 => simp at ho; subst ho; simp [gwp, Region.wanted, yielded]; go_simp; first | done | exact hC0 | exact ⟨rfl, hC0⟩ | (simp; exact hC0) | (refine ⟨by simp <;> omega, hC0⟩)
      | 4 => simp at ho; subst ho; simp [gwp, Region.wanted, yielded]; go_simp; first | done | exact hC0 | exact ⟨rfl, hC0⟩ | (simp; exact hC0) | (refine ⟨by simp <;> omega, hC0⟩)
      | 5 =>
        simp at ho; subst ho; simp [gwp, Region.wanted, yielded]; go_simp
        refine (unhide HS x ((unhide H22).trans (bx.mono (unhide H22).size))).mono ?_
        rintro e wy ⟨rfl, by1⟩
        go_simp
        first | done | exact hC.on by1 | exact ⟨rfl, hC.on by1⟩ | (simp; exact hC.on by1)
      | 6 => simp at ho; subst ho; simp [gwp, Region.wanted, yielded]; go_simp; first | done | exact hC0 | exact ⟨rfl, hC0⟩ | (simp; exact hC0) | (refine ⟨by simp <;> omega, hC0⟩)
      | 7 => simp at ho; subst ho; simp [gwp, Region.wanted, yielded]; go_simp; first | done | exact hC0 | exact ⟨rfl, hC0⟩ | (simp; exact hC0) | (refine ⟨by simp <;> omega, hC0⟩)
      | 8 => simp at ho; subst ho; simp [gwp, Region.wanted, yielded]; go_simp; first | done | exact hC0 | exact ⟨rfl, hC0⟩ | (simp; exact hC0) | (refine ⟨by simp <;> omega, hC0⟩)
      | 9 =>
        simp at ho; subst ho; simp [gwp, Region.wanted, yielded]; go_simp
        refine (unhide HK x ((unhide H22).trans (bx.mono (unhide H22).size))).mono ?_
        rintro e wy ⟨rfl, by1⟩
        go_simp
        first | done | exact hC.on by1 | exact ⟨rfl, hC.on by1⟩ | (simp; exact hC.on by1)
      | 10 => simp at ho; subst ho; simp [gwp, Region.wanted, yielded]; go_simp; first | done | exact hC0 | exact ⟨rfl, hC0⟩ | (simp; exact hC0) | (refine ⟨by simp <;> omega, hC0⟩)
      | i + 11 => omega
    · intro full hfull us j hj
      simp at hj
    intro full hfull us w3 hus hC
    simp [putAll, slotOf, Act.put] at hfull
    subst hfull
    match us, hus with
    | [], _ =>
    have b3 := hC.below
    clear hC
    have H23 := hide ((unhide H22).trans (b3.mono (unhide H22).size))
    clear H22
    have HC3 := hide ((unhide HC2).on b3)
    have HP3 := hide ((unhide HP2).on b3)
    have HB3 := hide ((unhide HB2).trans (b3.mono (unhide HB2).size))
    have hlt3 : w1.heap.size < w3.heap.size := Nat.lt_of_lt_of_le hlt2 b3.size
    rw [← b3.cell (p := ⟨w1.heap.size, _, none⟩) hlt2] at x0 x1
    clear HC2 HP2 HB2 b3 hlt2
    simp [putP, slotOf, Act.put]
    go_upto_region 5 with fail
    refine wp_region_mix (k := 100) 7 [] [.agg #[.int .i64 vars, .slice va ls.length vc], .slice pa ps.length pc, .bool z, .agg #[.int .i64 vars, .slice va ls.length vc], .slice pa ps.length pc, .bool z, .bool true] (CG w3) (by kernel_rfl) (by kernel_rfl) (by kernel_rfl) (by kernel_rfl) (by kernel_rfl) (by kernel_rfl) ⟨(Below.refl _ _).drew⟩ ?_ ?_ ?_
    · intro full hfull i oo hi' hns ho x fl us hC hb
      simp [putAll, slotOf, Act.put] at hfull
      subst hfull
      have bx := hC.below
      have y0 := (bx.cell (p := ⟨w1.heap.size, 0, none⟩) hlt3).trans x0
      have y1 := (bx.cell (p := ⟨w1.heap.size, 1, none⟩) hlt3).trans x1
      have hC0 := hC.on (b' := fl) (us' := us) (Below.refl _ _)
      match i with
      | 0 => simp at ho; subst ho; simp [gwp, Region.wanted, yielded]; go_simp; first | done | exact hC0 | exact ⟨rfl, hC0⟩ | (simp; exact hC0) | (refine ⟨by simp <;> omega, hC0⟩)
      | 1 => simp at ho; subst ho; simp [gwp, Region.wanted, yielded]; go_simp; first | done | exact hC0 | exact ⟨rfl, hC0⟩ | (simp; exact hC0) | (refine ⟨by simp <;> omega, hC0⟩)
      | 2 =>
        simp at ho; subst ho; simp [gwp, Region.wanted, yielded]; go_simp
        refine (unhide HI x ((unhide H23).trans (bx.mono (unhide H23).size))).mono ?_
        rintro e wy ⟨rfl, by1⟩
        go_simp
        first | done | exact hC.on by1 | exact ⟨rfl, hC.on by1⟩ | (simp; exact hC.on by1)
      | 3 => simp at ho; subst ho; simp [gwp, Region.wanted, yielded]; go_simp; first | done | exact hC0 | exact ⟨rfl, hC0⟩ | (simp; exact hC0) | (refine ⟨by simp <;> omega, hC0⟩)
      | 4 => simp at ho; subst ho; simp [gwp, Region.wanted, yielded]; go_simp; first | done | exact hC0 | exact ⟨rfl, hC0⟩ | (simp; exact hC0) | (refine ⟨by simp <;> omega, hC0⟩)
      | 5 =>
        simp at ho; subst ho; simp [gwp, Region.wanted, yielded]; go_simp
        refine (unhide HS x ((unhide H23).trans (bx.mono (unhide H23).size))).mono ?_
        rintro e wy ⟨rfl, by1⟩
        go_simp
        first | done | exact hC.on by1 | exact ⟨rfl, hC.on by1⟩ | (simp; exact hC.on by1)
      | 6 => simp at ho; subst ho; simp [gwp, Region.wanted, yielded]; go_simp; first | done | exact hC0 | exact ⟨rfl, hC0⟩ | (simp; exact hC0) | (refine ⟨by simp <;> omega, hC0⟩)
      | i + 7 => omega
    · intro full hfull us j hj
      simp at hj
    intro full hfull us w4 hus hC
    simp [putAll, slotOf, Act.put] at hfull
    subst hfull
    match us, hus with
    | [], _ =>
    have b4 := hC.below
    clear hC
    have HB4 := hide ((unhide HB3).trans (b4.mono (unhide HB3).size))
    simp [putP, slotOf, Act.put]
    go_wp2_with fail
    go_ret
    exact ⟨rfl, unhide HB4⟩
  | true =>
    refine wp_region_mix (k := 100) 11 [] [.agg #[.int .i64 vars, .slice va ls.length vc], .slice pa ps.length pc, .bool z, .agg #[.int .i64 vars, .slice va ls.length vc], .slice pa ps.length pc, .bool z, .bool false, .bool false, .agg #[.int .i64 vars, .slice va ls.length vc], .bool true, .bool false] (CG w2) (by kernel_rfl) (by kernel_rfl) (by kernel_rfl) (by kernel_rfl) (by kernel_rfl) (by kernel_rfl) ⟨(Below.refl _ _).drew⟩ ?_ ?_ ?_
    · intro full hfull i oo hi' hns ho x fl us hC hb
      simp [putAll, slotOf, Act.put] at hfull
      subst hfull
      have bx := hC.below
      have y0 := (bx.cell (p := ⟨w1.heap.size, 0, none⟩) hlt2).trans x0
      have y1 := (bx.cell (p := ⟨w1.heap.size, 1, none⟩) hlt2).trans x1
      have hC0 := hC.on (b' := fl) (us' := us) (Below.refl _ _)
      match i with
      | 0 => simp at ho; subst ho; simp [gwp, Region.wanted, yielded]; go_simp; first | done | exact hC0 | exact ⟨rfl, hC0⟩ | (simp; exact hC0) | (refine ⟨by simp <;> omega, hC0⟩)
      | 1 => simp at ho; subst ho; simp [gwp, Region.wanted, yielded]; go_simp; first | done | exact hC0 | exact ⟨rfl, hC0⟩ | (simp; exact hC0) | (refine ⟨by simp <;> omega, hC0⟩)
      | 2 =>
        simp at ho; subst ho; simp [gwp, Region.wanted, yielded]; go_simp
        refine (unhide HI x ((unhide H22).trans (bx.mono (unhide H22).size))).mono ?_
        rintro e wy ⟨rfl, by1⟩
        go_simp
        first | done | exact hC.on by1 | exact ⟨rfl, hC.on by1⟩ | (simp; exact hC.on by1)
      | 3 => simp at ho; subst ho; simp [gwp, Region.wanted, yielded]; go_simp; first | done | exact hC0 | exact ⟨rfl, hC0⟩ | (simp; exact hC0) | (refine ⟨by simp <;> omega, hC0⟩)
      | 4 => simp at ho; subst ho; simp [gwp, Region.wanted, yielded]; go_simp; first | done | exact hC0 | exact ⟨rfl, hC0⟩ | (simp; exact hC0) | (refine ⟨by simp <;> omega, hC0⟩)
      | 5 =>
        simp at ho; subst ho; simp [gwp, Region.wanted, yielded]; go_simp
        refine (unhide HS x ((unhide H22).trans (bx.mono (unhide H22).size))).mono ?_
        rintro e wy ⟨rfl, by1⟩
        go_simp
        first | done | exact hC.on by1 | exact ⟨rfl, hC.on by1⟩ | (simp; exact hC.on by1)
      | 6 => simp at ho; subst ho; simp [gwp, Region.wanted, yielded]; go_simp; first | done | exact hC0 | exact ⟨rfl, hC0⟩ | (simp; exact hC0) | (refine ⟨by simp <;> omega, hC0⟩)
      | 7 => simp at ho; subst ho; simp [gwp, Region.wanted, yielded]; go_simp; first | done | exact hC0 | exact ⟨rfl, hC0⟩ | (simp; exact hC0) | (refine ⟨by simp <;> omega, hC0⟩)
      | 8 => simp at ho; subst ho; simp [gwp, Region.wanted, yielded]; go_simp; first | done | exact hC0 | exact ⟨rfl, hC0⟩ | (simp; exact hC0) | (refine ⟨by simp <;> omega, hC0⟩)
      | 9 =>
        simp at ho; subst ho; simp [gwp, Region.wanted, yielded]; go_simp
        refine (unhide HK x ((unhide H22).trans (bx.mono (unhide H22).size))).mono ?_
        rintro e wy ⟨rfl, by1⟩
        go_simp
        first | done | exact hC.on by1 | exact ⟨rfl, hC.on by1⟩ | (simp; exact hC.on by1)
      | 10 => simp at ho; subst ho; simp [gwp, Region.wanted, yielded]; go_simp; first | done | exact hC0 | exact ⟨rfl, hC0⟩ | (simp; exact hC0) | (refine ⟨by simp <;> omega, hC0⟩)
      | i + 11 => omega
    · intro full hfull us j hj
      simp at hj
    intro full hfull us w3 hus hC
    simp [putAll, slotOf, Act.put] at hfull
    subst hfull
    match us, hus with
    | [], _ =>
    have b3 := hC.below
    clear hC
    have H23 := hide ((unhide H22).trans (b3.mono (unhide H22).size))
    clear H22
    have HC3 := hide ((unhide HC2).on b3)
    have HP3 := hide ((unhide HP2).on b3)
    have HB3 := hide ((unhide HB2).trans (b3.mono (unhide HB2).size))
    have hlt3 : w1.heap.size < w3.heap.size := Nat.lt_of_lt_of_le hlt2 b3.size
    rw [← b3.cell (p := ⟨w1.heap.size, _, none⟩) hlt2] at x0 x1
    clear HC2 HP2 HB2 b3 hlt2
    simp [putP, slotOf, Act.put]
    obtain ⟨hn1, hn2⟩ := proof_null (unhide HOK)
    have hu2 : (unitsZ vars ls []).2 = confB ls [] := by
      unfold unitsZ
      rw [unhide HOK, show litsB vars [] = true by simp [litsB], Bool.and_self, if_pos rfl]
      by_cases hc : confB ls [] = true
      · rw [if_pos hc, hc]
      · rw [if_neg hc]
        have : confB ls [] = false := by simpa using hc
        rw [this]
    have HU := hide (implCnfUnits_any vars va ls vc none [] 0 w3 (unhide HC3) ⟨by simp, .inl rfl⟩)
    have HU2 := hide hu2
    have HN1 := hide (fun x g (hx : ClsAt x va ls) (hg : ClsAt x (some ⟨g, 0, none⟩) [[]]) => implSatProof_any vars va ls vc (some ⟨g, 0, none⟩) [[]] 1 (by simp) x hx hg)
    have HN2 := hide (fun x (hx : ClsAt x va ls) => implSatProof_any vars va ls vc none [] 0 (by simp) x hx ⟨by simp, .inl rfl⟩)
    rw [hn1] at HN1
    rw [hn2] at HN2
    clear hn1 hn2 hu2 HI HS HK HZ HOK HP3 H23
    obtain ⟨cz, hcz⟩ : ∃ cz, cz = confB ls [] := ⟨_, rfl⟩
    rw [← hcz] at HN1 HU2
    clear hcz
    go_wp2_with fail
    refine (unhide HU).mono ?_
    rintro e w4 ⟨⟨uv, rfl, _⟩, b4⟩
    rw [unhide HU2]
    clear HU HU2
    have HC4 := hide ((unhide HC3).on b4)
    have HB4 := hide ((unhide HB3).trans (b4.mono (unhide HB3).size))
    have hlt4 : w1.heap.size < w4.heap.size := Nat.lt_of_lt_of_le hlt3 b4.size
    rw [← b4.cell (p := ⟨w1.heap.size, _, none⟩) hlt3] at x0 x1
    clear HC3 HB3 b4 hlt3
    have ba := (Below.refl w4.heap.size w4).alloc (Nat.le_refl _) (.cells #[] 3)
    have bb := ba.alloc (by simp) (.cells #[.slice (some ⟨w4.heap.size, 0, none⟩) 0 0] 30)
    have hn := blk_alloc_new (w4.alloc (.cells #[] 3)) (.cells #[.slice (some ⟨w4.heap.size, 0, none⟩) 0 0] 30)
    simp only [nblk_alloc] at hn
    have hg : ClsAt ((w4.alloc (.cells #[] 3)).alloc (.cells #[.slice (some ⟨w4.heap.size, 0, none⟩) 0 0] 30)) (some ⟨w4.heap.size + 1, 0, none⟩) [[]] := by
      refine ⟨by simp, .inr ⟨w4.heap.size + 1, 0, rfl, by simp, fun i hi => ?_⟩⟩
      have : i = 0 := by simp at hi; omega
      subst this
      exact ⟨some ⟨w4.heap.size, 0, none⟩, 0, by
        show World.cell? _ ⟨w4.heap.size + 1, 0, none⟩ = _
        rw [cell_of_row _ (w4.heap.size + 1) 0 _ _ _ hn]
        rfl, by simp, .inl rfl⟩
    have HQ := hide (unhide HN1 _ _ ((unhide HC4).on bb) hg)
    have HBB := hide bb
    clear HN1 hg hn ba bb
    go_wp2_with fail
    refine (unhide HQ).mono ?_
    rintro e w5 ⟨rfl, b5'⟩
    have b5 := (unhide HBB).trans (b5'.mono (unhide HBB).size)
    clear HQ b5' HBB
    have HC5 := hide ((unhide HC4).on b5)
    have HB5 := hide ((unhide HB4).trans (b5.mono (unhide HB4).size))
    have hlt5 : w1.heap.size < w5.heap.size := Nat.lt_of_lt_of_le hlt4 b5.size
    rw [← b5.cell (p := ⟨w1.heap.size, _, none⟩) hlt4] at x0 x1
    clear HC4 HB4 b5 hlt4
    have HQ := hide (unhide HN2 _ (unhide HC5))
    clear HN2
    cases cz with
    | false =>
      go_wp2_with fail
      refine (unhide HQ).mono ?_
      rintro e w6 ⟨rfl, b6⟩
      have HB6 := hide ((unhide HB5).trans (b6.mono (unhide HB5).size))
      have hlt6 : w1.heap.size < w6.heap.size := Nat.lt_of_lt_of_le hlt5 b6.size
      clear  HB5 b6 hlt5
      go_wp2_with fail
      go_ret
      exact ⟨rfl, unhide HB6⟩
    | true =>
      go_wp2_with fail
      refine (unhide HQ).mono ?_
      rintro e w6 ⟨rfl, b6⟩
      have HB6 := hide ((unhide HB5).trans (b6.mono (unhide HB5).size))
      have hlt6 : w1.heap.size < w6.heap.size := Nat.lt_of_lt_of_le hlt5 b6.size
      clear  HB5 b6 hlt5
      go_wp2_with fail
      go_ret
      exact ⟨rfl, unhide HB6⟩
end Go.Proofs.Ythkhaemlcmkkjaj
