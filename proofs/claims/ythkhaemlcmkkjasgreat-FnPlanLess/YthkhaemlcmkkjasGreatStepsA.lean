/- Steps in memory, and the laws' look whether two lists of them are the same. -/
import Derived.Test.YthkhaemlcmkkjasGreatGPd
import Derived.Deep.QuietTactic
namespace Go.Proofs.YthkhaemlcmkkjasGreat
set_option linter.unusedVariables false
set_option linter.unusedSimpArgs false
open Go.RowKit Go.Deep

set_option maxRecDepth 100000 in
set_option maxHeartbeats 2000000 in
theorem ldSteps_same (a : Option Addr) (ss : List StepD) (c : Nat) (a2 : Option Addr) (c2 : Nat) (w : World) (h : StepsAt w a ss) (h2 : StepsAt w a2 ss) :
    Calls Tryz.prog 7 #[.slice a ss.length c, .slice a2 ss.length c2] w fun e w' => e = .returned (.bool true) ∧ Below w.heap.size w w' := by
  obtain ⟨hl, h⟩ := h
  obtain ⟨_, h2⟩ := h2
  go_enter Tryz.func7, Tryz.ntmps7
  go_wp2_with fail
  go_loopw [5] (fun i wr => ∃ k : Nat, k ≤ ss.length ∧ i = .int .i64 k ∧ Drawn w wr) (fun i _ => ss.length - (intOf i).toNat)
  case atStart => exact ⟨0, Nat.zero_le _, rfl, Drawn.refl _⟩
  case round =>
    rename World => wo
    obtain ⟨k, hk, rfl, hw⟩ := hrel
    by_cases hlt : k < ss.length
    · have j1 : (k : Int) < (ss.length : Int) := by omega
      have j0 : (0 : Int) ≤ (k : Int) := by omega
      rcases h with hnil | ⟨b, o, rfl, hbl, hrk⟩
      · rw [hnil] at hlt; simp at hlt
      rcases h2 with hnil | ⟨b2, o2, rfl, hbl2, hrk2⟩
      · rw [hnil] at hlt; simp at hlt
      obtain ⟨c0, c1, c2⟩ := hrk k hlt
      obtain ⟨d0, d1, d2⟩ := hrk2 k hlt
      generalize ss.getD k dStep = s at c0 c1 c2 d0 d1 d2
      rw [← hw.cell] at c0 c1 c2 d0 d1 d2
      clear hrk hrk2
      go_wp2_with fail
      go_quiet (fail)
      go_wp2_with fail
      go_roundw
      case rel => exact ⟨k + 1, by omega, by go_num, hw.more _⟩
      case measure => simp [intOf]; omega
    · have j1 : ¬ (k : Int) < (ss.length : Int) := by omega
      go_wp2_with fail
      go_ret
      exact ⟨rfl, hw.below _⟩
end Go.Proofs.YthkhaemlcmkkjasGreat
