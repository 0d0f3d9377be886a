/- The walk of the law FnCostPlan: of every code and every cut it answers true, and writes nothing that was there. -/
import Derived.Test.YthkhaemlcmkkjaoDrawCP
import Derived.Test.YthkhaemlcmkkjaoCostB
import Derived.Test.YthkhaemlcmkkjaoCostT
import Derived.Test.YthkhaemlcmkkjaoSlS
namespace Go.Proofs.Ythkhaemlcmkkjao
set_option linter.unusedVariables false
set_option linter.unusedSimpArgs false
open Go.RowKit Go.Deep

set_option maxRecDepth 100000 in
set_option maxHeartbeats 8000000 in
theorem costplan_law (a : Option Addr) (n c : Nat) (a2 : Option Addr) (n2 c2 : Nat) (w : World) (h : CodeAt w.heap.size w a n) (hc : n ≤ c) (hc2 : c ≤ maxLen) (hd : n2 ≤ c2) (hd2 : c2 ≤ maxLen) :
    Calls Try.prog 5 #[.slice a n c, .slice a2 n2 c2] w fun e w' => e = .returned (.bool true) ∧ Below w.heap.size w w' := by
  have hmx := hc2
  unfold maxLen at hmx
  have hmd := hd2
  unfold maxLen at hmd
  by_cases hbig : 1048576 < n
  · have hb' : (1048576 : Int) < (n : Int) := by omega
    go_enter Try.func5, Try.ntmps5
    go_wp2_with fail
    go_ret
    exact ⟨rfl, Below.refl _ _⟩
  have hb' : ¬ (1048576 : Int) < (n : Int) := by omega
  by_cases hbig2 : 1048576 < n2
  · have hb2' : (1048576 : Int) < (n2 : Int) := by omega
    go_enter Try.func5, Try.ntmps5
    go_wp2_with fail
    go_ret
    exact ⟨rfl, Below.refl _ _⟩
  have hb2' : ¬ (1048576 : Int) < (n2 : Int) := by omega
  go_enter Try.func5, Try.ntmps5
  go_wp2_with fail
  refine (DrawCostPlan_V a n c w h (by omega) hc hc2).mono ?_
  rintro e w1 ⟨⟨v, room, qv, rfl, hV, ss, hst, hss⟩, b1⟩
  obtain ⟨va, vn, vc, rfl, _⟩ := SlBy.slice hV
  obtain ⟨l, rfl, hP⟩ := V2.packs hV
  obtain ⟨qa, qc, hu3, _, _, hSt⟩ := StepsAt.of_row hst (by omega)
  subst hu3
  have HPT := hide (fun k hk => steps_part (k := k) hst hk)
  have HP1 := hide hP
  have HS1 := hide hSt
  have HB1 := hide b1
  clear hV hP b1 h hst hSt
  go_upto_region 4 with fail
  obtain ⟨w2, hw2⟩ : ∃ w2, w2 = w1.alloc (.cells #[.slice va l.length vc, .int .i64 room] 25) := ⟨_, rfl⟩
  rw [← hw2]
  have b2 : Below w1.heap.size w1 w2 := by rw [hw2]; exact (Below.refl _ _).alloc (Nat.le_refl _) _
  have x0 : w2.cell? ⟨w1.heap.size, 0, none⟩ = some (.slice va l.length vc) := by rw [hw2]; simp
  have x1 : w2.cell? ⟨w1.heap.size, 1, none⟩ = some (.int .i64 room) := by rw [hw2]; simp
  have hlt2 : w1.heap.size < w2.heap.size := by rw [hw2]; simp
  have HP2 := hide ((unhide HP1).on b2)
  have HS2 := hide ((unhide HS1).on b2)
  have HB2 := hide ((unhide HB1).trans (b2.mono (unhide HB1).size))
  clear hw2 b2 HP1 HS1 HB1
  have hbd := costPlan_bound l room ss
  go_wp2_with fail
  refine (implCostPlan_any va l vc room qa ss qc w2 (unhide HP2) (unhide HS2)).mono ?_
  rintro e w3 ⟨rfl, b3⟩
  have HP3 := hide ((unhide HP2).on b3)
  have HS3 := hide ((unhide HS2).on b3)
  have HB3 := hide ((unhide HB2).trans (b3.mono (unhide HB2).size))
  have hlt3 : w1.heap.size < w3.heap.size := Nat.lt_of_lt_of_le hlt2 b3.size
  rw [← b3.cell (p := ⟨w1.heap.size, _, none⟩) hlt2] at x0 x1
  clear HB2 b3 hlt2 HP2 HS2
  go_wp2_with fail
  refine (specCostPlan_any va l vc room qa ss qc w3 (unhide HP3) (unhide HS3)).mono ?_
  rintro e w4 ⟨rfl, b4⟩
  have HP4 := hide ((unhide HP3).on b4)
  have HS4 := hide ((unhide HS3).on b4)
  have HB4 := hide ((unhide HB3).trans (b4.mono (unhide HB3).size))
  have hlt4 : w1.heap.size < w4.heap.size := Nat.lt_of_lt_of_le hlt3 b4.size
  rw [← b4.cell (p := ⟨w1.heap.size, _, none⟩) hlt3] at x0 x1
  clear HB3 b4 hlt3 HP3 HS3
  obtain ⟨cz, hcz⟩ : ∃ cz, cz = costPlanZ l room ss := ⟨_, rfl⟩
  have HCZ := hide hcz
  have HS5 := hide (specCostPlan_any va l vc room qa ss qc w4 (unhide HP4) (unhide HS4))
  rw [← hcz] at HS5 hbd ⊢
  clear hcz
  by_cases hneg : cz < 0
  · clear HCZ
    go_wp2_with fail
    refine (unhide HS5).mono ?_
    rintro e w5 ⟨rfl, b5⟩
    have HB5 := hide ((unhide HB4).trans (b5.mono (unhide HB4).size))
    clear b5 HB4
    go_wp2_with fail
    go_ret
    exact ⟨by simp, unhide HB5⟩
  clear HS5
  obtain ⟨cut, hcut⟩ : ∃ cut, cut = n2 % (ss.length + 1) := ⟨_, rfl⟩
  have hcl : cut ≤ ss.length := by rw [hcut]; have := Nat.mod_lt n2 (show 0 < ss.length + 1 by omega); omega
  have hw1 : IntKind.i64.wrap ((ss.length : Int) + 1) = (ss.length : Int) + 1 := by rw [IntKind.wrap_i64]; omega
  have hmod : Int.tmod (n2 : Int) ((ss.length : Int) + 1) = (cut : Int) := by rw [Int.tmod_eq_emod_of_nonneg (by omega), hcut]; norm_cast
  have hnz : (((ss.length : Int) + 1) == 0) = false := by rw [beq_eq_false_iff_ne]; omega
  obtain ⟨hqc, hqm, da, dc, hfr, hdr⟩ := unhide HPT cut hcl
  have hpt := cost_parts (l := l) (room := room) (ss := ss) (by rw [← unhide HCZ]; omega) cut
  rw [← unhide HCZ] at hpt
  have hb1 := costPlan_bound l room (ss.take cut)
  have hb2 := costPlan_bound l room (ss.drop cut)
  have e1 : (ss.take cut).length = cut := by simp; omega
  have e2 : (ss.drop cut).length = ss.length - cut := by simp
  have HCI := hide (fun x (hx : Below w4.heap.size w4 x) => implCostPlan_any va l vc room qa (ss.take cut) qc x ((unhide HP4).on hx) (((unhide HS4).on hx).take cut))
  have HCJ := hide (fun x (hx : Below w4.heap.size w4 x) => implCostPlan_any va l vc room da (ss.drop cut) dc x ((unhide HP4).on hx) (hdr _ ((unhide HS4).on hx)))
  rw [e1] at HCI
  rw [e2] at HCJ
  generalize costPlanZ l room (ss.take cut) = z1 at *
  generalize costPlanZ l room (ss.drop cut) = z2 at *
  have hwz : IntKind.i64.wrap (z1 + z2) = z1 + z2 := by rw [IntKind.wrap_i64]; omega
  have hm0 : (0 : Int) ≤ (cut : Int) := by omega
  have hm1 : (cut : Int) ≤ (qc : Int) := by omega
  have hm2 : (cut : Int) ≤ (ss.length : Int) := by omega
  have hzz : (z1 + z2 == cz) = true := by rw [beq_iff_eq]; omega
  clear hcut e1 e2 HPT hqm hdr HCZ hpt
  go_upto_region 8 with fail
  refine wp_region_mix (k := 100) 13 [] [.agg #[.slice va l.length vc, .int .i64 room], .slice qa ss.length qc, .int .i64 (cut : Int), .slice qa cut qc, .int .i64 z1, .agg #[.slice va l.length vc, .int .i64 room], .slice qa ss.length qc, .int .i64 (cut : Int), .slice da (ss.length - cut) dc, .int .i64 z2, .int .i64 (z1 + z2), .int .i64 cz, .bool true] (CZ w4) (by kernel_rfl) (by kernel_rfl) (by kernel_rfl) (by kernel_rfl) (by kernel_rfl) (by kernel_rfl) ⟨(Below.refl _ _).drew⟩ ?_ ?_ ?_
  · intro full hfull i oo hi hns ho x fl us hC hb
    simp [putAll, slotOf, Act.put] at hfull
    subst hfull
    have bx := hC.below
    rw [← bx.cell (p := ⟨w1.heap.size, _, none⟩) hlt4] at x0 x1
    have hC0 := hC.on (b' := fl) (Below.refl _ _)
    match i with
    | 0 => simp at ho; subst ho; simp [gwp, Region.wanted, yielded]; go_simp; first | done | exact hC0 | exact ⟨rfl, hC0⟩ | (simp; exact hC0) | rfl | (intro h; omega) | (simp; omega)
    | 1 => simp at ho; subst ho; simp [gwp, Region.wanted, yielded]; go_simp; first | done | exact hC0 | exact ⟨rfl, hC0⟩ | (simp; exact hC0) | rfl | (intro h; omega) | (simp; omega)
    | 2 => simp at ho; subst ho; simp [gwp, Region.wanted, yielded]; go_simp; first | done | exact hC0 | exact ⟨rfl, hC0⟩ | (simp; exact hC0) | rfl | (intro h; omega) | (simp; omega)
    | 3 => simp at ho; subst ho; simp [gwp, Region.wanted, yielded]; go_simp; first | done | exact hC0 | exact ⟨rfl, hC0⟩ | (simp; exact hC0) | rfl | (intro h; omega) | (simp; omega)
    | 4 =>
      simp at ho; subst ho; simp [gwp, Region.wanted, yielded]; go_simp
      refine (unhide HCI x bx).mono ?_
      rintro e w' ⟨rfl, hb2⟩
      go_simp
      first | done | exact hC.on hb2 | exact ⟨rfl, hC.on hb2⟩ | (simp; exact hC.on hb2)
    | 5 => simp at ho; subst ho; simp [gwp, Region.wanted, yielded]; go_simp; first | done | exact hC0 | exact ⟨rfl, hC0⟩ | (simp; exact hC0) | rfl | (intro h; omega) | (simp; omega)
    | 6 => simp at ho; subst ho; simp [gwp, Region.wanted, yielded]; go_simp; first | done | exact hC0 | exact ⟨rfl, hC0⟩ | (simp; exact hC0) | rfl | (intro h; omega) | (simp; omega)
    | 7 => simp at ho; subst ho; simp [gwp, Region.wanted, yielded]; go_simp; first | done | exact hC0 | exact ⟨rfl, hC0⟩ | (simp; exact hC0) | rfl | (intro h; omega) | (simp; omega)
    | 8 =>
      rcases hfr with ⟨rfl, rfl, hk0, ⟨rfl, rfl⟩, hn0⟩ | ⟨g, rfl, hqk, rfl, rfl⟩ | ⟨g, rfl, hqk, rfl, rfl⟩
      · simp only [hk0, hn0] at *
        simp at ho; subst ho; simp [gwp, Region.wanted, yielded]; go_simp; first | done | exact hC0 | exact ⟨rfl, hC0⟩ | (simp; exact hC0) | rfl | (intro h; omega) | (simp; omega)
      · have hqk' : qc - cut = 0 := by omega
        simp at ho; subst ho; simp [gwp, Region.wanted, yielded]; go_simp; first | done | exact hC0 | exact ⟨rfl, hC0⟩ | (simp; exact hC0) | rfl | (intro h; omega) | (simp; omega)
      · have hqk' : ¬ qc = cut := hqk
        simp at ho; subst ho; simp [gwp, Region.wanted, yielded]; go_simp; first | done | exact hC0 | exact ⟨rfl, hC0⟩ | (simp; exact hC0) | rfl | (intro h; omega) | (simp; omega)
    | 9 =>
      simp at ho; subst ho; simp [gwp, Region.wanted, yielded]; go_simp
      refine (unhide HCJ x bx).mono ?_
      rintro e w' ⟨rfl, hb2⟩
      go_simp
      first | done | exact hC.on hb2 | exact ⟨rfl, hC.on hb2⟩ | (simp; exact hC.on hb2)
    | 10 => simp at ho; subst ho; simp [gwp, Region.wanted, yielded]; go_simp; first | done | exact hC0 | exact ⟨rfl, hC0⟩ | (simp; exact hC0) | rfl | (intro h; omega) | (simp; omega)
    | 11 => simp at ho; subst ho; simp [gwp, Region.wanted, yielded]; go_simp; first | done | exact hC0 | exact ⟨rfl, hC0⟩ | (simp; exact hC0) | rfl | (intro h; omega) | (simp; omega)
    | 12 => simp at ho; subst ho; simp [gwp, Region.wanted, yielded]; go_simp; first | done | exact hC0 | exact ⟨rfl, hC0⟩ | (simp; exact hC0) | rfl | (intro h; omega) | (simp; omega)
    | i + 13 => omega
  · intro full hfull us j hj
    simp at hj
  · intro full hfull us wz hus hC
    simp [putAll, slotOf, Act.put] at hfull
    subst hfull
    match us, hus with
    | [], _ =>
    have bz := hC.below
    have HB5 := hide ((unhide HB4).trans (bz.mono (unhide HB4).size))
    clear hC bz HB4 HP4 HS4
    simp [putP]
    go_wp2_with fail
    go_ret
    exact ⟨rfl, unhide HB5⟩
end Go.Proofs.Ythkhaemlcmkkjao
