/- Whether clauses hold of what is so: the specification's answer; the law's copies of what is so. -/
import Derived.Test.YtgolmagpdbmahatGCn
import Derived.Test.YtgolmagpdbmahatToI
namespace Go.Proofs.Ytgolmagpdbmahat
set_option linter.unusedVariables false
set_option linter.unusedSimpArgs false
open Go.RowKit Go.Deep Go.Sort

set_option maxHeartbeats 1000000 in
theorem eqBoolS_same (a a' : Option Addr) (l : List Bool) (cap cap' : Nat) (w : World) (h : BoolsAt w a l) (h' : BoolsAt w a' l) :
    Calls Try.prog 13 #[.slice a l.length cap, .slice a' l.length cap'] w fun e w' => e = .returned (.bool true) ∧ Below w.heap.size w w' := by
  obtain ⟨hm, h⟩ := h
  obtain ⟨_, h'⟩ := h'
  go_enter Try.func13, Try.ntmps13
  go_wp2_with fail
  go_loopw [5] (fun i wr => ∃ k : Nat, k ≤ l.length ∧ i = .int .i64 k ∧ Drawn w wr) (fun i _ => l.length - (intOf i).toNat)
  case atStart => exact ⟨0, Nat.zero_le _, rfl, Drawn.refl _⟩
  case round =>
    rename World => wo
    obtain ⟨k, hk, rfl, hw⟩ := hrel
    by_cases hlt : k < l.length
    · have j1 : (k : Int) < (l.length : Int) := by omega
      rcases h with h | ⟨b, o, rfl, hSb, h⟩
      · subst h; simp at hlt
      rcases h' with h' | ⟨b', o', rfl, hSb', h'⟩
      · subst h'; simp at hlt
      have c0 := h k hlt
      have c1 := h' k hlt
      rw [← hw.cell] at c0 c1
      generalize l.getD k false = z at c0 c1
      clear h h'
      go_wp2_with fail
      go_quiet (fail)
      go_wp2_with fail
      go_roundw
      case rel => exact ⟨k + 1, by omega, by go_num, hw.more _⟩
      case measure => simp [intOf]; omega
    · have j1 : ¬ (k : Int) < (l.length : Int) := by omega
      go_wp2_with fail
      go_ret
      exact ⟨rfl, hw.below _⟩
end Go.Proofs.Ytgolmagpdbmahat
