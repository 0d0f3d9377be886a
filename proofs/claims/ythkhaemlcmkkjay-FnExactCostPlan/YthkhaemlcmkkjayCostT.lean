/- The specification's CostPlan. -/
import Derived.Test.YthkhaemlcmkkjayCostS
import Derived.Test.YthkhaemlcmkkjayGSpec
namespace Go.Proofs.Ythkhaemlcmkkjay
set_option linter.unusedVariables false
set_option linter.unusedSimpArgs false
open Go.RowKit Go.Deep

set_option maxRecDepth 100000 in
set_option maxHeartbeats 4000000 in
theorem specCostPlan_any (a : Option Addr) (l : List PackD) (cap : Nat) (room : Int) (ta : Option Addr) (ss : List StepD) (tc : Nat) (w : World) (h : PacksAt (Old w) w a l) (ht : StepsAt w ta ss) :
    Calls Try.prog 22 #[.agg #[.slice a l.length cap, .int .i64 room], .slice ta ss.length tc] w fun e w' => e = .returned (.int .i64 (costPlanZ l room ss)) ∧ Below w.heap.size w w' := by
  obtain ⟨w0, hw0⟩ : ∃ w0, w0 = w.alloc (.cells #[.slice a l.length cap, .int .i64 room] 31) := ⟨_, rfl⟩
  have b0 : Below w.heap.size w w0 := by rw [hw0]; exact (Below.refl _ _).alloc (Nat.le_refl _) _
  have x0 : w0.cell? ⟨w.heap.size, 0, none⟩ = some (.slice a l.length cap) := by rw [hw0]; simp
  have x1 : w0.cell? ⟨w.heap.size, 1, none⟩ = some (.int .i64 room) := by rw [hw0]; simp
  have hlt0 : w.heap.size < w0.heap.size := by rw [hw0]; simp
  have HP := hide (h.on b0)
  have HT := hide (ht.on b0)
  have hsl := ht.1
  have HB0 := hide b0
  clear h ht b0
  go_enter Try.func22, Try.ntmps22
  go_upto_region 1 with fail
  rw [← hw0]
  clear hw0
  go_wp2_with fail
  go_loopw [5, 6] (fun m i wr => ∃ (k : Nat), k ≤ ss.length ∧ i = .int .i64 k ∧ m = .int .i64 (costTo l room ss k) ∧ Hid (costsB l room (ss.take k) = true) ∧ Hid (Below w0.heap.size w0 wr)) (fun _ i _ => ss.length - (intOf i).toNat)
  case atStart => exact ⟨0, Nat.zero_le _, rfl, rfl, rfl, Below.refl _ _⟩
  case round =>
    rename World => wo
    obtain ⟨k, hk, rfl, rfl, HCS, HB⟩ := hrel
    have hzb := (unhide HB).size
    have y0 := x0
    have y1 := x1
    rw [← (unhide HB).cell (p := ⟨w.heap.size, _, none⟩) hlt0] at y0 y1
    have hltk : w.heap.size < wo.heap.size := by omega
    by_cases hlt : k < ss.length
    · have j1 : (k : Int) < (ss.length : Int) := by omega
      have j0 : (0 : Int) ≤ (k : Int) := by omega
      rcases (unhide HT).2 with hnil | ⟨b, o, rfl, hbl, hrk⟩
      · rw [hnil] at hlt; simp at hlt
      obtain ⟨c0, c1, c2⟩ := hrk k hlt
      have HSN := hide (costs_snoc (l := l) (room := room) hlt)
      have HBAD := hide (fun h => costs_bad (l := l) (room := room) hlt h)
      have HTO := hide (show costTo l room ss (k + 1) = costTo l room ss k + costZ l room (ss.getD k dStep) from rfl)
      have hbd := costTo_bound l room ss k
      have hbz2 := costZ_bound l room (ss.getD k dStep)
      generalize ss.getD k dStep = s at c0 c1 c2 HSN HBAD HTO hbz2
      rw [← (unhide HB).cell (p := ⟨b, _, none⟩) hbl] at c0 c1 c2
      have hbw : b < wo.heap.size := by omega
      have HD := hide (fun x (hx : Below wo.heap.size wo x) => specCostOf_any a l cap room s x (((unhide HP).on (unhide HB)).on hx))
      clear hrk
      generalize costZ l room s = cz at HD HSN HBAD HTO hbz2
      generalize costTo l room ss k = ct at HTO hbd ⊢
      have hwr : IntKind.i64.wrap (ct + cz) = ct + cz := by rw [IntKind.wrap_i64]; omega
      go_upto_region 5 with fail
      refine wp_region_mix (k := 100) 6 [] [.agg #[.slice a l.length cap, .int .i64 room], .slice (some ⟨b, o, none⟩) ss.length tc, .int .i64 (k : Int), .pointer (some ⟨b, o + k * 3, none⟩), .agg #[.int .i64 s.kind, .int .i64 s.inn, .int .i64 s.out], .int .i64 cz] (CZ wo) (by kernel_rfl) (by kernel_rfl) (by kernel_rfl) (by kernel_rfl) (by kernel_rfl) (by kernel_rfl) ⟨(Below.refl _ _).drew⟩ ?_ ?_ ?_
      · intro full hfull i oo hi hns ho x fl us hC hb
        simp [putAll, slotOf, Act.put] at hfull
        subst hfull
        have bx := hC.below
        rw [← bx.cell (p := ⟨w.heap.size, _, none⟩) hltk] at y0 y1
        rw [← bx.cell (p := ⟨b, _, none⟩) hbw] at c0 c1 c2
        have hC0 := hC.on (b' := fl) (Below.refl _ _)
        match i with
        | 0 => simp at ho; subst ho; simp [gwp, Region.wanted, yielded]; go_simp; first | done | exact hC0 | exact ⟨rfl, hC0⟩ | (simp; exact hC0)
        | 1 => simp at ho; subst ho; simp [gwp, Region.wanted, yielded]; go_simp; first | done | exact hC0 | exact ⟨rfl, hC0⟩ | (simp; exact hC0)
        | 2 => simp at ho; subst ho; simp [gwp, Region.wanted, yielded]; go_simp; first | done | exact hC0 | exact ⟨rfl, hC0⟩ | (simp; exact hC0)
        | 3 => simp at ho; subst ho; simp [gwp, Region.wanted, yielded]; go_simp; first | done | exact hC0 | exact ⟨rfl, hC0⟩ | (simp; exact hC0)
        | 4 => simp at ho; subst ho; simp [gwp, Region.wanted, yielded]; go_simp; first | done | exact hC0 | exact ⟨rfl, hC0⟩ | (simp; exact hC0)
        | 5 =>
          simp at ho; subst ho; simp [gwp, Region.wanted, yielded]; go_simp
          refine (unhide HD x bx).mono ?_
          rintro e w' ⟨rfl, hb2⟩
          go_simp
          first | done | exact hC.on hb2 | exact ⟨rfl, hC.on hb2⟩ | (simp; exact hC.on hb2)
        | i + 6 => omega
      · intro full hfull us j hj
        simp at hj
      · intro full hfull us wz hus hC
        simp [putAll, slotOf, Act.put] at hfull
        subst hfull
        match us, hus with
        | [], _ =>
        have bz := hC.below
        have HB5 := hide ((unhide HB).trans (bz.mono (unhide HB).size))
        clear hC bz HB HD y0 y1 c0 c1 c2
        simp [putP]
        by_cases hneg : cz < 0
        · have HE2 := hide (unhide HBAD hneg)
          have HB6 := hide ((unhide HB0).trans ((unhide HB5).mono (unhide HB0).size))
          clear HBAD
          go_wp2_with fail
          go_ret
          exact ⟨retI (unhide HE2).symm, unhide HB6⟩
        · have HCS2 : Hid (costsB l room (ss.take (k + 1)) = true) := by
            show costsB l room (ss.take (k + 1)) = true
            rw [unhide HSN, unhide HCS, decide_eq_true (by omega : 0 ≤ cz)]
            rfl
          clear HBAD HSN
          go_wp2_with fail
          go_roundw
          case rel => exact ⟨k + 1, by omega, by go_num, by rw [unhide HTO], HCS2, HB5⟩
          case measure => simp [intOf]; omega
    · have j1 : ¬ (k : Int) < (ss.length : Int) := by omega
      have hke : k = ss.length := by omega
      have HE : Hid (costPlanZ l room ss = if repoB ⟨l, room⟩ && decide (ss.length ≤ 300) then costTo l room ss k else -1) := by
        show _ = _
        unfold costPlanZ
        have := unhide HCS
        rw [hke, List.take_length] at this
        rw [this, Bool.and_true, hke]
      clear hke
      have HRK := hide (specRepoOk_any a l cap room wo ((unhide HP).on (unhide HB)))
      generalize repoB ⟨l, room⟩ = rb at HE HRK
      go_wp2_with fail
      refine (unhide HRK).mono ?_
      rintro e w5 ⟨rfl, b5⟩
      have HB5 := hide ((unhide HB).trans (b5.mono (unhide HB).size))
      have HB6 := hide ((unhide HB0).trans ((unhide HB5).mono (unhide HB0).size))
      clear b5 HRK HB HB5
      cases rb with
      | false =>
        have HE2 := hide (show costPlanZ l room ss = -1 from (unhide HE).trans (by simp))
        clear HE
        go_wp2_with fail
        go_ret
        exact ⟨retI (unhide HE2).symm, unhide HB6⟩
      | true =>
        by_cases hbig : 300 < ss.length
        · have hbz : (300 : Int) < (ss.length : Int) := by omega
          have HE2 := hide (show costPlanZ l room ss = -1 from (unhide HE).trans (by simp; omega))
          clear HE
          go_wp2_with fail
          go_ret
          exact ⟨retI (unhide HE2).symm, unhide HB6⟩
        · have hbz : ¬ (300 : Int) < (ss.length : Int) := by omega
          have HE2 := hide (show costPlanZ l room ss = costTo l room ss k from (unhide HE).trans (by simp; omega))
          clear HE
          go_wp2_with fail
          go_ret
          exact ⟨retI (unhide HE2).symm, unhide HB6⟩
end Go.Proofs.Ythkhaemlcmkkjay
