/- The law's copies of numbers, and its comparison of numbers that are the same. -/
import Derived.Test.YthkhaemlcmkkjaxGreatGStA
namespace Go.Proofs.YthkhaemlcmkkjaxGreat
set_option linter.unusedVariables false
set_option linter.unusedSimpArgs false
open Go.RowKit Go.Deep

theorem Tryz.cellsIntM : (Tryz.prog.info? 3).map (fun i => (i.zero, i.size, i.bytes)) = some (some (.int .i64 0), 1, 8) := by kernel_rfl

set_option maxHeartbeats 1000000 in
theorem toIntS_any (a : Option Addr) (l : List Int) (cap : Nat) (w : World) (h : SetAt w a l) :
    Calls Tryz.prog 10 #[.slice a l.length cap] w fun e w' => ∃ g : Nat, e = .returned (.slice (some ⟨g, 0, none⟩) l.length l.length) ∧ Below w.heap.size w w' ∧ SetAt w' (some ⟨g, 0, none⟩) l ∧ w.heap.size ≤ g ∧ Row w' g 3 l.length := by
  obtain ⟨hm, h⟩ := h
  have hmk := make_eq (P := Tryz.prog) 25 3 _ 1 8 Tryz.underlying25 Tryz.cellsIntM l.length (by omega) (by omega)
  go_enter Tryz.func10, Tryz.ntmps10
  go_wp2
  go_loopw [4] (fun i wr => ∃ k : Nat, k ≤ l.length ∧ i = .int .i64 k ∧ Below w.heap.size w wr ∧ Row wr w.heap.size 3 l.length ∧ Hid (∀ i, i < k → wr.cell? ⟨w.heap.size, i, none⟩ = some (.int .i64 (l.getD i 0)))) (fun i _ => l.length - (intOf i).toNat)
  case atStart => exact ⟨0, Nat.zero_le _, rfl, (Below.refl _ _).alloc (Nat.le_refl _) _, by simpa using row_made w _ (l.length * 1) _, fun i hi => absurd hi (Nat.not_lt_zero _)⟩
  case round =>
    rename World => wo
    obtain ⟨k, hk, rfl, hw, hrow, hl⟩ := hrel
    by_cases hlt : k < l.length
    · rcases h with h | ⟨b, o, rfl, hSb, h⟩
      · subst h; simp at hlt
      · have j1 : (k : Int) < (l.length : Int) := by omega
        have hc := h k hlt
        rw [← hw.cell (p := ⟨b, _, none⟩) hSb] at hc
        obtain ⟨u, hu⟩ := hrow.cell (i := k) hlt
        have hf := hrow.frozen k
        have HW := hide hw
        have HR := hide hrow
        generalize hz : l.getD k 0 = z at hc
        have HZ := hide hz
        clear h hw hrow hz
        go_wp2_with fail
        go_roundw
        case rel =>
          refine ⟨k + 1, by omega, by go_num, (unhide HW).setCell (Nat.le_refl _) _, (unhide HR).set _ _ _, fun i hi => ?_⟩
          by_cases e : i = k
          · subst e
            rw [unhide HZ]
            exact World.cell?_setCell_same _ _ _ hu
          · exact (World.cell?_setCell_other _ _ _ _ (by intro h; apply e; simpa using h.symm)).trans (unhide hl i (by omega))
        case measure => simp [intOf]; omega
    · have j1 : ¬ (k : Int) < (l.length : Int) := by omega
      have hke : k = l.length := by omega
      subst hke
      have hlw := hrow.lt
      go_wp2_with fail
      go_ret
      exact ⟨w.heap.size, rfl, hw, ⟨hm, Or.inr ⟨w.heap.size, 0, rfl, hlw, fun i hi => by rw [Nat.zero_add]; exact unhide hl i hi⟩⟩, Nat.le_refl _, hrow⟩

set_option maxHeartbeats 1000000 in
theorem eqIntS_same (a a' : Option Addr) (l : List Int) (cap cap' : Nat) (w : World) (h : SetAt w a l) (h' : SetAt w a' l) :
    Calls Tryz.prog 13 #[.slice a l.length cap, .slice a' l.length cap'] w fun e w' => e = .returned (.bool true) ∧ Below w.heap.size w w' := by
  obtain ⟨hm, h⟩ := h
  obtain ⟨_, h'⟩ := h'
  go_enter Tryz.func13, Tryz.ntmps13
  go_wp2_with fail
  go_loopw [5] (fun i wr => ∃ k : Nat, k ≤ l.length ∧ i = .int .i64 k ∧ Drawn w wr) (fun i _ => l.length - (intOf i).toNat)
  case atStart => exact ⟨0, Nat.zero_le _, rfl, Drawn.refl _⟩
  case round =>
    rename World => wo
    obtain ⟨k, hk, rfl, hw⟩ := hrel
    by_cases hlt : k < l.length
    · have j1 : (k : Int) < (l.length : Int) := by omega
      rcases h with h | ⟨b, o, rfl, hSb, h⟩
      · subst h; simp at hlt
      rcases h' with h' | ⟨b', o', rfl, hSb', h'⟩
      · subst h'; simp at hlt
      have c0 := h k hlt
      have c1 := h' k hlt
      rw [← hw.cell] at c0 c1
      generalize l.getD k 0 = z at c0 c1
      clear h h'
      go_wp2_with fail
      go_quiet (fail)
      go_wp2_with fail
      go_roundw
      case rel => exact ⟨k + 1, by omega, by go_num, hw.more _⟩
      case measure => simp [intOf]; omega
    · have j1 : ¬ (k : Int) < (l.length : Int) := by omega
      go_wp2_with fail
      go_ret
      exact ⟨rfl, hw.below _⟩
end Go.Proofs.YthkhaemlcmkkjaxGreat
