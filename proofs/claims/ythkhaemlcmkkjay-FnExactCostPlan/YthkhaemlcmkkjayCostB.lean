/- The program's CostPlan. -/
import Derived.Test.YthkhaemlcmkkjayCostA
namespace Go.Proofs.Ythkhaemlcmkkjay
set_option linter.unusedVariables false
set_option linter.unusedSimpArgs false
open Go.RowKit Go.Deep

set_option maxRecDepth 100000 in
set_option maxHeartbeats 4000000 in
theorem implCostPlan_any (a : Option Addr) (l : List PackD) (cap : Nat) (room : Int) (ta : Option Addr) (ss : List StepD) (tc : Nat) (w : World) (h : PacksAt (Old w) w a l) (ht : StepsAt w ta ss) :
    Calls Try.prog 24 #[.agg #[.slice a l.length cap, .int .i64 room], .slice ta ss.length tc] w fun e w' => e = .returned (.int .i64 (costPlanZ l room ss)) ∧ Below w.heap.size w w' := by
  have b1 := (Below.refl w.heap.size w).alloc (Nat.le_refl _) (.cells #[.slice a l.length cap, .int .i64 room] 31)
  have HP := hide (h.on b1)
  have HT := hide ht
  have hsl := ht.1
  clear h ht
  go_enter Try.func24, Try.ntmps24
  go_wp2_with fail
  refine (implRepoOk_any a l cap room _ (unhide HP)).mono ?_
  rintro e w2 ⟨rfl, b2⟩
  have z2 := b2.size
  simp at z2
  have x0 := b2.cell (p := ⟨w.heap.size, 0, none⟩) (by simp)
  have x1 := b2.cell (p := ⟨w.heap.size, 1, none⟩) (by simp)
  simp at x0 x1
  have HB2 := hide (b1.trans (b2.mono (by simp)))
  have HP2 := hide ((unhide HP).on b2)
  clear b2 b1 HP
  cases hrb : repoB ⟨l, room⟩ with
  | false =>
    have HE := hide (show costPlanZ l room ss = -1 by unfold costPlanZ; rw [hrb]; rfl)
    clear hrb
    go_wp2_with fail
    go_ret
    exact ⟨retI (unhide HE).symm, unhide HB2⟩
  | true =>
    by_cases hbig : 300 < ss.length
    · have hbz : (300 : Int) < (ss.length : Int) := by omega
      have HE := hide (show costPlanZ l room ss = -1 by unfold costPlanZ; rw [hrb, decide_eq_false (by omega : ¬ ss.length ≤ 300)]; rfl)
      clear hrb
      go_wp2_with fail
      go_ret
      exact ⟨retI (unhide HE).symm, unhide HB2⟩
    have hbz : ¬ (300 : Int) < (ss.length : Int) := by omega
    have HSO := hide (stockOf_any a l cap room w2 (unhide HP2) (repo_l8 hrb) (ok_small hrb))
    have HRB := hide hrb
    have HE := hide (show costsB l room ss = true → costPlanZ l room ss = costTo l room ss ss.length from fun hc => by unfold costPlanZ; rw [hrb, decide_eq_true (show ss.length ≤ 300 by omega), hc]; rfl)
    clear hrb
    go_wp2_with fail
    refine (unhide HSO).mono ?_
    rintro e w3 ⟨⟨bm, av, rfl, hA, _⟩, b3⟩
    have hP3 := (unhide HP2).on b3
    obtain ⟨⟨xa, xc, rfl⟩, hA2⟩ := hA
    have HST3 := hide (show Stock w3 (.agg #[.slice a l.length cap, .int .i64 room, .map (some bm), .slice xa l.length xc]) l room from ⟨a, cap, bm, _, rfl, hP3, ⟨⟨xa, xc, rfl⟩, hA2⟩⟩)
    obtain ⟨w4, hw4⟩ : ∃ w4, w4 = w3.alloc (.cells #[.slice a l.length cap, .int .i64 room, .map (some bm), .slice xa l.length xc] 68) := ⟨_, rfl⟩
    have b4 : Below w3.heap.size w3 w4 := by rw [hw4]; exact (Below.refl _ _).alloc (Nat.le_refl _) _
    have k0 : w4.cell? ⟨w3.heap.size, 0, none⟩ = some (.slice a l.length cap) := by rw [hw4]; simp
    have k1 : w4.cell? ⟨w3.heap.size, 1, none⟩ = some (.int .i64 room) := by rw [hw4]; simp
    have k2 : w4.cell? ⟨w3.heap.size, 2, none⟩ = some (.map (some bm)) := by rw [hw4]; simp
    have k3 : w4.cell? ⟨w3.heap.size, 3, none⟩ = some (.slice xa l.length xc) := by rw [hw4]; simp
    have hlt4 : w3.heap.size < w4.heap.size := by rw [hw4]; simp
    have HST := hide ((unhide HST3).on b4)
    have HB3 := hide ((unhide HB2).trans (b3.mono (unhide HB2).size))
    have HB4 := hide ((unhide HB3).trans (b4.mono (unhide HB3).size))
    have HT4 := hide ((unhide HT).on (unhide HB4))
    clear b3 b4 hP3 hA2 HSO HB2 HP2 x0 x1 HST3 HB3 HT
    go_upto_region 4 with fail
    rw [← hw4]
    clear hw4
    go_wp2_with fail
    go_loopw [6, 22] (fun m i wr => ∃ (k : Nat), k ≤ ss.length ∧ i = .int .i64 k ∧ m = .int .i64 (costTo l room ss k) ∧ Hid (costsB l room (ss.take k) = true) ∧ Hid (Below w4.heap.size w4 wr)) (fun _ i _ => ss.length - (intOf i).toNat)
    case atStart => exact ⟨0, Nat.zero_le _, rfl, rfl, rfl, Below.refl _ _⟩
    case round =>
      rename World => wo
      obtain ⟨k, hk, rfl, rfl, HCS, HB⟩ := hrel
      have hzb := (unhide HB).size
      by_cases hlt : k < ss.length
      · have j1 : (k : Int) < (ss.length : Int) := by omega
        have j0 : (0 : Int) ≤ (k : Int) := by omega
        rcases (unhide HT4).2 with hnil | ⟨b, o, rfl, hbl, hrk⟩
        · rw [hnil] at hlt; simp at hlt
        obtain ⟨c0, c1, c2⟩ := hrk k hlt
        have HSN := hide (costs_snoc (l := l) (room := room) hlt)
        have HBAD := hide (fun h => costs_bad (l := l) (room := room) hlt h)
        have HTO := hide (show costTo l room ss (k + 1) = costTo l room ss k + costZ l room (ss.getD k dStep) from rfl)
        have hbd := costTo_bound l room ss k
        have hbz2 := costZ_bound l room (ss.getD k dStep)
        generalize ss.getD k dStep = s at c0 c1 c2 HSN HBAD HTO hbz2
        rw [← (unhide HB).cell (p := ⟨b, _, none⟩) hbl] at c0 c1 c2
        have q0 := k0
        have q1 := k1
        have q2 := k2
        have q3 := k3
        rw [← (unhide HB).cell (p := ⟨w3.heap.size, _, none⟩) hlt4] at q0 q1 q2 q3
        have hltw : w3.heap.size < wo.heap.size := by omega
        have HD := hide (fun (ob : Obj) => cost_of l room _ s (unhide HRB) (wo.alloc ob) (((unhide HST).on (unhide HB)).on ((Below.refl _ _).alloc (Nat.le_refl _) _)))
        clear hrk k0 k1 k2 k3
        generalize costZ l room s = cz at HD HSN HBAD HTO hbz2
        generalize costTo l room ss k = ct at HTO hbd ⊢
        have hwr : IntKind.i64.wrap (ct + cz) = ct + cz := by rw [IntKind.wrap_i64]; omega
        go_wp2_with fail
        refine (unhide HD _).mono ?_
        rintro e w5 ⟨rfl, b5⟩
        have b45 : Below wo.heap.size wo w5 := ((Below.refl wo.heap.size wo).alloc (Nat.le_refl _) (.cells #[.int .i64 s.kind, .int .i64 s.inn, .int .i64 s.out] 44)).trans (b5.mono (by simp))
        have HB5 := hide ((unhide HB).trans (b45.mono (unhide HB).size))
        clear b5 b45 HB HD q0 q1 q2 q3 c0 c1 c2
        by_cases hneg : cz < 0
        · have HE2 := hide (unhide HBAD hneg)
          have HB6 := hide ((unhide HB4).trans ((unhide HB5).mono (unhide HB4).size))
          clear HBAD
          go_wp2_with fail
          go_ret
          exact ⟨retI (unhide HE2).symm, unhide HB6⟩
        · have HCS2 : Hid (costsB l room (ss.take (k + 1)) = true) := by
            show costsB l room (ss.take (k + 1)) = true
            rw [unhide HSN, unhide HCS, decide_eq_true (by omega : 0 ≤ cz)]
            rfl
          clear HBAD HSN
          go_wp2_with fail
          go_roundw
          case rel => exact ⟨k + 1, by omega, by go_num, by rw [unhide HTO], HCS2, HB5⟩
          case measure => simp [intOf]; omega
      · have j1 : ¬ (k : Int) < (ss.length : Int) := by omega
        have hke : k = ss.length := by omega
        have HE2 : Hid (costPlanZ l room ss = costTo l room ss k) := by
          show _ = _
          rw [hke]
          refine unhide HE ?_
          have := unhide HCS
          rwa [hke, List.take_length] at this
        have HB6 := hide ((unhide HB4).trans ((unhide HB).mono (unhide HB4).size))
        clear HB hke
        go_wp2_with fail
        go_ret
        exact ⟨retI (unhide HE2).symm, unhide HB6⟩
end Go.Proofs.Ythkhaemlcmkkjay
