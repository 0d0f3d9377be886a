/- Steps that are marked. -/
import Derived.Test.YthkhaemlcmkkjaxGreatStepsM
namespace Go.Proofs.YthkhaemlcmkkjaxGreat
set_option linter.unusedVariables false
set_option linter.unusedSimpArgs false
open Go.RowKit Go.Deep

theorem SR.at {B : Nat} {w : World} {v : Value} {ss : List StepD} (h : SR B w v ss) (hl : ss.length ≤ 1048576) : ∃ a cap, v = .slice a ss.length cap ∧ StepsAt w a ss := by
  obtain ⟨a, cap, h1, _, _, h2⟩ := StepsAt.of_row h hl
  exact ⟨a, cap, h1, h2⟩

set_option maxHeartbeats 4000000 in
theorem markStepS_k (k0 : Int) (B : Nat) (v : Value) (ss : List StepD) (w : World) (h : SR B w v ss) (hs : ss.length ≤ 1048576) (hk0 : 0 ≤ k0) (hk1 : k0 ≤ 4000000000000000000) :
    Calls Tryz.prog 23 #[v, .int .i64 k0] w fun e w' => e = .returned (.int .i64 (k0 + 3 * ss.length)) ∧ w.grownBy w' v.ownBlock ∧ SR B w' v (upsS k0 ss.length) := by
  unfold SR
  rw [upsS_len]
  obtain ⟨h1, h2⟩ := h
  rcases h2 with ⟨rfl, h0⟩ | ⟨g, cap, cur, rfl, hB, hc, hcap, hmax, hsz, hx⟩
  · have : ss = [] := List.length_eq_zero_iff.1 h0
    subst this
    go_enter Tryz.func23, Tryz.ntmps23
    go_wp2
    refine wp_loop_rounds 1 ?_
    rw [rounds_succ]
    go_wp2
    go_ret
    exact ⟨by simp, ⟨rfl, rfl, rfl, Nat.le_refl _, fun _ _ _ => rfl⟩, World.ownsRow_nil _ _ _ _⟩
  · clear hx h1
    generalize ss.length = n at *
    go_enter Tryz.func23, Tryz.ntmps23
    go_wp2
    go_loopw [1, 5] (fun z i wr => ∃ (k : Nat) (C : Array Value), k ≤ n ∧ i = .int .i64 k ∧ z = .int .i64 (k0 + 3 * k) ∧ Hid (w.grownBy wr (some g)) ∧ wr.heap[g]? = some (.cells C 36 (0, 0)) ∧ C.size = cap * 3 ∧ Hid (∀ i, i < k * 3 → C[i]? = some (.int .i64 (k0 + i)))) (fun _ i _ => n - (intOf i).toNat)
    case atStart => exact ⟨0, cur, Nat.zero_le _, rfl, by simp, ⟨rfl, rfl, rfl, Nat.le_refl _, fun _ _ _ => rfl⟩, hc, hsz, fun i hi => by omega⟩
    case round =>
      rename World => wo
      obtain ⟨k, C, hk, rfl, rfl, hw, hC, hCs, hl⟩ := hrel
      by_cases hlt : k < n
      · have x0 : wo.cell? ⟨g, k * 3, none⟩ = some (C[k * 3]'(by omega)) := by simp [World.cell?, hC, show k * 3 < C.size by omega]
        have x1 : wo.cell? ⟨g, k * 3 + 1, none⟩ = some (C[k * 3 + 1]'(by omega)) := by simp [World.cell?, hC, show k * 3 + 1 < C.size by omega]
        have x2 : wo.cell? ⟨g, k * 3 + 2, none⟩ = some (C[k * 3 + 2]'(by omega)) := by simp [World.cell?, hC, show k * 3 + 2 < C.size by omega]
        have f0 : wo.frozen? ⟨g, k * 3, none⟩ = false := by simp [World.frozen?, hC]
        have f1 : wo.frozen? ⟨g, k * 3 + 1, none⟩ = false := by simp [World.frozen?, hC]
        have f2 : wo.frozen? ⟨g, k * 3 + 2, none⟩ = false := by simp [World.frozen?, hC]
        have HC := hide hC
        have hw1 : IntKind.i64.wrap (k0 + 3 * (k : Int) + 1) = k0 + 3 * (k : Int) + 1 := by rw [IntKind.wrap_i64]; omega
        have hw2 : IntKind.i64.wrap (k0 + 3 * (k : Int) + 1 + 1) = k0 + 3 * (k : Int) + 2 := by rw [IntKind.wrap_i64]; omega
        have hw3 : IntKind.i64.wrap (k0 + 3 * (k : Int) + 2 + 1) = k0 + 3 * ((k + 1 : Nat) : Int) := by rw [IntKind.wrap_i64]; omega
        have j1 : (k : Int) < (n : Int) := by omega
        have j0 : (0 : Int) ≤ (k : Int) := by omega
        have HW := hide hw
        clear hC
        go_wp2_with fail
        go_roundw
        case rel =>
          refine ⟨k + 1, ((C.setIfInBounds (k * 3) (.int .i64 (k0 + 3 * k))).setIfInBounds (k * 3 + 1) (.int .i64 (k0 + 3 * k + 1))).setIfInBounds (k * 3 + 2) (.int .i64 (k0 + 3 * k + 2)), by omega, by go_num, by first | rfl | (simp; omega), ?_, ?_, by simpa using hCs, ?_⟩
          · exact ⟨hw.out.os, hw.out.tape, hw.out.output, by simp only [nblk_setCell]; exact hw.out.size, fun b hb hne => (blk_setCell_other _ _ _ _ (by intro e; exact hne (by rw [e]))).trans ((blk_setCell_other _ _ _ _ (by intro e; exact hne (by rw [e]))).trans ((blk_setCell_other _ _ _ _ (by intro e; exact hne (by rw [e]))).trans (hw.out.block b hb hne)))⟩
          · exact blk_set (blk_set (blk_set (unhide HC) (k * 3) _) (k * 3 + 1) _) (k * 3 + 2) _
          · intro i hi
            rw [Array.getElem?_setIfInBounds]
            by_cases e2 : k * 3 + 2 = i
            · subst e2
              rw [if_pos rfl, if_pos (by simp; omega)]
              congr 2
              omega
            · rw [if_neg e2, Array.getElem?_setIfInBounds]
              by_cases e1 : k * 3 + 1 = i
              · subst e1
                rw [if_pos rfl, if_pos (by simp; omega)]
                congr 2
                omega
              · rw [if_neg e1, Array.getElem?_setIfInBounds]
                by_cases e0 : k * 3 = i
                · subst e0
                  rw [if_pos rfl, if_pos (by omega)]
                  congr 2
                  omega
                · rw [if_neg e0]; exact hl.out i (by omega)
        case measure => simp [intOf]; omega
      · have j1 : ¬ (k : Int) < (n : Int) := by omega
        go_wp2_with fail
        go_ret
        refine ⟨?_, hw.out, ?_⟩
        · rw [show (n : Int) = (k : Int) by omega]
          rfl
        · refine ⟨by rw [stepVs_len, upsS_len], Or.inr ⟨g, cap, C, rfl, hB, hC, hcap, hmax, hCs, ?_⟩⟩
          apply List.ext_getElem?
          intro i
          rw [List.getElem?_take]
          by_cases hi : i < n * 3
          · rw [if_pos hi, upsS_vs k0 n hi]
            have := hl.out i (by omega)
            simpa using this
          · rw [if_neg hi, List.getElem?_eq_none (by rw [stepVs_len, upsS_len]; omega)]
end Go.Proofs.YthkhaemlcmkkjaxGreat
