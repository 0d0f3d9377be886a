/- The program's StepAll, and steps in memory. -/
import Derived.Test.YthkhaemlcmkkjacGPd
import Derived.Test.YthkhaemlcmkkjacGForm
import Derived.Test.YthkhaemlcmkkjacGMw
namespace Go.Proofs.Ythkhaemlcmkkjac
set_option linter.unusedVariables false
set_option linter.unusedSimpArgs false
open Go.RowKit Go.Deep

set_option maxRecDepth 100000 in
set_option maxHeartbeats 8000000 in
theorem implStepAll_any (a : Option Addr) (l : List PackD) (cap : Nat) (room : Int) (w : World) (h : PacksAt (Old w) w a l) :
    Calls Try.prog 17 #[.agg #[.slice a l.length cap, .int .i64 room]] w fun e w' => (∃ v, e = .returned v ∧ w'.ownsRow w.heap.size 43 3 v (stepsL l room).length (stepVs (stepsL l room))) ∧ Below w.heap.size w w' := by
  obtain ⟨i0, hi, hz0, hz1, hz2⟩ := info_parts Try.infoStep
  have b1 := (Below.refl w.heap.size w).alloc (Nat.le_refl _) (.cells #[.slice a l.length cap, .int .i64 room] 25)
  have HP := hide (h.on b1)
  clear h
  go_enter Try.func17, Try.ntmps17
  go_wp2_with fail
  refine (implRepoOk_any a l cap room _ (unhide HP)).mono ?_
  rintro e w0 ⟨rfl, hb0⟩
  have hz := hb0.size
  simp at hz
  have HB0 := hide (b1.trans (hb0.mono (by simp)))
  have x0 := hb0.cell (p := ⟨w.heap.size, 0, none⟩) (by simp)
  have x1 := hb0.cell (p := ⟨w.heap.size, 1, none⟩) (by simp)
  simp at x0 x1
  have HP0 := hide ((unhide HP).on hb0)
  clear HP hb0 b1
  cases hrb : repoB ⟨l, room⟩ with
  | false =>
    have HE := hide (show stepsL l room = [] by unfold stepsL; rw [hrb]; rfl)
    clear hrb
    go_wp2_with fail
    go_ret
    exact ⟨⟨_, rfl, by rw [unhide HE]; exact World.ownsRow_nil _ _ _ _⟩, unhide HB0⟩
  | true =>
    have hl8 : l.length ≤ 8 := by
      simp only [repoB, Bool.and_eq_true, decide_eq_true_eq] at hrb
      exact hrb.1.1.1
    have HE := hide (show stepsL l room = (movesL l).map MvD.step by unfold stepsL; rw [hrb, if_pos rfl])
    have HST := hide (stockOf_any a l cap room w0 (unhide HP0) hl8 (ok_small hrb))
    clear hrb
    go_wp2_with fail
    refine (unhide HST).mono ?_
    rintro e w2 ⟨⟨bm, av, rfl, hA, _⟩, b2⟩
    have HB2 := hide ((unhide HB0).trans (b2.mono (unhide HB0).size))
    have HMV := hide (moves_any l room _ hl8 w2 ⟨a, cap, bm, av, rfl, (unhide HP0).on b2, hA⟩)
    have z2 := b2.size
    clear HST hA b2 HB0 HP0 x0 x1
    go_wp2_with fail
    refine (unhide HMV).mono ?_
    rintro e w3 ⟨⟨mv, rfl, hmv⟩, b3⟩
    have HB3 := hide ((unhide HB2).trans (b3.mono (unhide HB2).size))
    have HM3 := hide hmv
    have hml := moves_le l
    have hz3 := (unhide HB3).size
    have hz23 := b3.size
    obtain ⟨qa, qc, hq⟩ : ∃ qa qc, mv = .slice qa (movesL l).length qc := by
      rcases hmv.2 with ⟨hv, h0⟩ | ⟨g, cap, cur, hv, _⟩
      · exact ⟨none, 0, by rw [hv, h0]⟩
      · exact ⟨_, _, hv⟩
    subst hq
    have hmb : ∀ g, (Value.slice qa (movesL l).length qc).ownBlock = some g → w2.heap.size ≤ g := fun g hg => (World.ownsRow.lt hmv g hg).1
    clear HMV hmv b3 HB2
    generalize movesL l = ms at HM3 HE hml hmb
    go_wp2_with fail
    go_loopw [3, 13] (fun v i wr => ∃ k : Nat, k ≤ ms.length ∧ i = .int .i64 k ∧ Hid (wr.ownsRow w.heap.size 43 3 v (ms.take k).length (stepVs ((ms.take k).map MvD.step))) ∧ Hid (wr.ownsRow w.heap.size 75 1 (.slice qa ms.length qc) ms.length (mvVs ms)) ∧ Hid (Below w.heap.size w wr)) (fun _ i _ => ms.length - (intOf i).toNat)
    case atStart => exact ⟨0, Nat.zero_le _, rfl, World.ownsRow_nil _ _ _ _, row_down (unhide HM3) (by omega), HB3⟩
    case round =>
      rename World => wo
      obtain ⟨k, hk, rfl, HO, HM, HB⟩ := hrel
      have hzb := (unhide HB).size
      by_cases hlt : k < ms.length
      · have j1 : (k : Int) < (ms.length : Int) := by omega
        have j0 : (0 : Int) ≤ (k : Int) := by omega
        obtain ⟨g, gc, hgv, hgl, pc0⟩ := mv_cell (unhide HM) hlt
        simp at hgv
        obtain ⟨rfl, rfl⟩ := hgv
        have htk : ms.take (k + 1) = ms.take k ++ [ms.getD k (.put 0)] := by
          rw [List.take_succ_eq_append_getElem hlt]
          simp [List.getD, hlt]
        generalize ms.getD k (.put 0) = m at pc0 htk
        have hlen : (ms.take k).length ≤ 1000 := by simp; omega
        generalize ms.take k = N at HO htk hlen
        have HE2 := hide htk
        clear htk
        go_wp2_with fail
        refine (stepOf_any m wo).mono ?_
        rintro e w4 ⟨rfl, b4⟩
        have HB4 := hide ((unhide HB).trans (b4.mono (unhide HB).size))
        have HM4 := hide (ownsRow_on (unhide HM) b4)
        have hown := ownsRow_on (unhide HO) b4
        have hz4 := (unhide HB4).size
        clear b4 HB HM HO pc0
        unfold stepV
        go_wp2_with (first
          | (at_builtin; refine wpList_append_own _ rfl _ _ 39 rfl w.heap.size 43 i0 (.agg #[.int .i64 0, .int .i64 0, .int .i64 0]) 3 24 Try.underlying39 hi hz0 hz1 hz2 rfl (by decide) _ _ _ rfl (hown.alloc _) ⟨w4.heap.size, 0, none⟩ 1 1 (stepVs [m.step]) rfl rfl ?cc1 ?cc2 ?cc3 ?cc4 ?cc5 ?_))
        case cc1 =>
          intro j u hj
          match j, hj with
          | 0, hj => simp [stepVs] at hj; subst hj; simp [Addr.add]
          | 1, hj => simp [stepVs] at hj; subst hj; simp [Addr.add]
          | 2, hj => simp [stepVs] at hj; subst hj; simp [Addr.add]
        case cc2 => intro u hu; simp [stepVs] at hu; rcases hu with rfl | rfl | rfl <;> rfl
        case cc3 => unfold maxLen; omega
        case cc4 => omega
        case cc5 => simp; omega
        intro v' w5 hown' hgrow _
        have hb1 := ((unhide HB4).alloc (by omega) (.cells #[.int .i64 m.step.kind, .int .i64 m.step.inn, .int .i64 m.step.out] 43)).grown hgrow (by simp; omega) (fun j hj => (World.ownsRow.lt hown j hj).1)
        have HM5 := hide (row_types (World.ownsRow.alloc (unhide HM4) _) (World.ownsRow.alloc hown _) (by decide) hgrow)
        have HO5 : Hid (w5.ownsRow w.heap.size 43 3 v' (ms.take (k + 1)).length (stepVs ((ms.take (k + 1)).map MvD.step))) := by
          show World.ownsRow _ _ _ _ _ _ _
          rw [unhide HE2, steps_snoc]
          simpa using hown'
        have HB5 := hide hb1
        clear hown hown' hgrow hb1 HM4
        go_wp2_with fail
        go_roundw
        case rel => exact ⟨k + 1, by omega, by go_num, HO5, HM5, HB5⟩
        case measure => simp [intOf]; omega
      · have j1 : ¬ (k : Int) < (ms.length : Int) := by omega
        have hke : ms.take k = ms := List.take_of_length_le (by omega)
        rw [hke] at HO
        go_wp2_with fail
        go_ret
        exact ⟨⟨_, rfl, by rw [unhide HE]; simpa using unhide HO⟩, unhide HB⟩
end Go.Proofs.Ythkhaemlcmkkjac
