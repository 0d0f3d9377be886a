/- The law's own functions on lists of numbers. -/
import Derived.Test.YtlabpejmmkeacauHitsB
namespace Go.Proofs.Ytlabpejmmkeacau
set_option linter.unusedVariables false
set_option linter.unusedSimpArgs false
open Go.RowKit Go.Deep

/-- Numbers that lie in memory, read alone. -/
def IntsAt (w : World) (v : Value) (l : List Int) : Prop := ∃ a cap, v = .slice a l.length cap ∧ l.length ≤ 1048576 ∧ (l = [] ∨ ∃ b o, a = some ⟨b, o, none⟩ ∧ ∀ i, i < l.length → w.cell? ⟨b, o + i, none⟩ = some (.int .i64 (l.getD i 0)))

set_option maxHeartbeats 1000000 in
theorem eqIntS_any (v v' : Value) (l : List Int) (w : World) (h : IntsAt w v l) (h' : IntsAt w v' l) :
    Calls Try.prog 10 #[v, v'] w fun e w' => e = .returned (.bool true) ∧ Below w.heap.size w w' := by
  obtain ⟨a, cap, rfl, hm, h⟩ := h
  obtain ⟨a', cap', rfl, _, h'⟩ := h'
  go_enter Try.func10, Try.ntmps10
  go_wp2
  go_loopw [5] (fun i wr => ∃ k : Nat, k ≤ l.length ∧ i = .int .i64 k ∧ Drawn w wr) (fun i _ => l.length - (intOf i).toNat)
  case atStart => exact ⟨0, Nat.zero_le _, rfl, Drawn.refl _⟩
  case round =>
    rename World => wo
    obtain ⟨k, hk, rfl, hw⟩ := hrel
    by_cases hlt : k < l.length
    · rcases h with h | ⟨b, o, rfl, h⟩
      · subst h; simp at hlt
      rcases h' with h' | ⟨b', o', rfl, h'⟩
      · subst h'; simp at hlt
      have c0 := h k hlt
      have d0 := h' k hlt
      clear h h'
      generalize l.getD k 0 = q at c0 d0
      rw [← hw.cell] at c0 d0
      have j0 : (0 : Int) ≤ (k : Int) := by omega
      have j1 : (k : Int) < (l.length : Int) := by omega
      go_wp2_with fail
      go_quiet (fail)
      go_wp2_with fail
      go_roundw
      case rel => exact ⟨k + 1, by omega, by go_num, hw.more _⟩
      case measure => simp [intOf]; omega
    · go_wp2_with fail
      go_ret
      exact ⟨rfl, hw.below _⟩

def ups (k : Int) (n : Nat) : List Int := (List.range n).map fun i : Nat => k + i

theorem ups_getD (k : Int) (n i : Nat) (h : i < n) : (ups k n).getD i 0 = k + i := by simp [ups, List.getD, h]
theorem ups_length (k : Int) (n : Nat) : (ups k n).length = n := by simp [ups]

set_option maxHeartbeats 1000000 in
theorem heldIntS_any (v : Value) (n : Nat) (w : World) (h : IntsAt w v (ups 1 n)) :
    Calls Try.prog 14 #[v, .int .i64 1] w fun e w' => e = .returned (.int .i64 (1 + n)) ∧ Below w.heap.size w w' := by
  obtain ⟨a, cap, rfl, hm, h⟩ := h
  rw [ups_length] at h hm ⊢
  go_enter Try.func14, Try.ntmps14
  go_wp2
  go_loopw [1, 5] (fun z i wr => ∃ k : Nat, k ≤ n ∧ i = .int .i64 k ∧ z = .int .i64 (1 + k) ∧ Drawn w wr) (fun _ i _ => n - (intOf i).toNat)
  case atStart => exact ⟨0, Nat.zero_le _, rfl, rfl, Drawn.refl _⟩
  case round =>
    rename World => wo
    obtain ⟨k, hk, rfl, rfl, hw⟩ := hrel
    by_cases hlt : k < n
    · rcases h with h | ⟨b, o, rfl, h⟩
      · have := ups_length 1 n; rw [h] at this; simp at this; omega
      have c0 := h k hlt
      rw [ups_getD 1 n k hlt, ← hw.cell] at c0
      clear h
      have j0 : (0 : Int) ≤ (k : Int) := by omega
      have j1 : (k : Int) < (n : Int) := by omega
      go_wp2_with fail
      exact ⟨⟨k + 1, by omega, by go_num, by rw [show (1 : Int) + k + 1 = 1 + ((k + 1 : Nat) : Int) by omega], hw⟩, by simp [intOf]; omega⟩
    · go_wp2_with fail
      go_ret
      refine ⟨?_, hw.below _⟩
      rw [show (n : Int) = (k : Int) by omega]
      rfl

theorem Ints.at {B : Nat} {w : World} {v : Value} {l : List Int} {n : Nat} (h : w.ownsRow B 3 1 v n (l.map fun i => .int .i64 i)) (hn : l.length = n) (hs : n ≤ 1048576) : IntsAt w v l := by
  obtain ⟨h1, h2⟩ := h
  rcases h2 with ⟨hv, h0⟩ | ⟨g, cap, cur, hv, hB, hc, hcap, _, hsz, hx⟩
  · have : l = [] := List.length_eq_zero_iff.1 (by omega)
    subst this
    exact ⟨none, 0, hv, by simp, Or.inl rfl⟩
  · subst hn
    refine ⟨some ⟨g, 0, none⟩, cap, hv, hs, ?_⟩
    by_cases h0 : l = []
    · exact Or.inl h0
    · refine Or.inr ⟨g, 0, rfl, fun i hi => ?_⟩
      have e : cur.toList[i]? = some (.int .i64 (l.getD i 0)) := by
        have : (cur.toList.take (l.length * 1))[i]? = (l.map fun i => Value.int .i64 i)[i]? := by rw [hx]
        rw [List.getElem?_take, if_pos (by omega)] at this
        rw [this]
        simp [List.getD, hi]
      simp only [World.cell?, hc, Nat.zero_add]
      simpa using e

set_option maxHeartbeats 1000000 in
theorem markIntS_any (B : Nat) (v : Value) (l : List Int) (w : World) (h : w.ownsRow B 3 1 v l.length (l.map fun i => .int .i64 i)) (hs : l.length ≤ 1048576) :
    Calls Try.prog 13 #[v, .int .i64 1] w fun e w' => e = .returned (.int .i64 (1 + l.length)) ∧ w.grownBy w' v.ownBlock ∧ w'.ownsRow B 3 1 v l.length ((ups 1 l.length).map fun i => .int .i64 i) := by
  obtain ⟨h1, h2⟩ := h
  rcases h2 with ⟨rfl, h0⟩ | ⟨g, cap, cur, rfl, hB, hc, hcap, hmax, hsz, hx⟩
  · have : l = [] := List.length_eq_zero_iff.1 h0
    subst this
    go_enter Try.func13, Try.ntmps13
    go_wp2
    refine wp_loop_rounds 1 ?_
    rw [rounds_succ]
    go_wp2
    go_ret
    exact ⟨rfl, ⟨rfl, rfl, rfl, Nat.le_refl _, fun _ _ _ => rfl⟩, World.ownsRow_nil _ _ _ _⟩
  · have HX := hide hx
    clear hx h1
    generalize l.length = n at *
    go_enter Try.func13, Try.ntmps13
    go_wp2
    go_loopw [1, 5] (fun z i wr => ∃ (k : Nat) (C : Array Value), k ≤ n ∧ i = .int .i64 k ∧ z = .int .i64 (1 + k) ∧ Hid (w.grownBy wr (some g)) ∧ wr.heap[g]? = some (.cells C 3 (0, 0)) ∧ C.size = cap * 1 ∧ Hid (∀ i, i < k → C[i]? = some (.int .i64 (1 + i)))) (fun _ i _ => n - (intOf i).toNat)
    case atStart => exact ⟨0, cur, Nat.zero_le _, rfl, rfl, ⟨rfl, rfl, rfl, Nat.le_refl _, fun _ _ _ => rfl⟩, hc, hsz, fun i hi => absurd hi (Nat.not_lt_zero _)⟩
    case round =>
      rename World => wo
      obtain ⟨k, C, hk, rfl, rfl, hw, hC, hCs, hl⟩ := hrel
      by_cases hlt : k < n
      · have x0 : wo.cell? ⟨g, k, none⟩ = some (C[k]'(by omega)) := by simp [World.cell?, hC, show k < C.size by omega]
        have f0 : wo.frozen? ⟨g, k, none⟩ = false := by simp [World.frozen?, hC]
        have HC := hide hC
        clear hC
        go_wp2_with fail
        refine ⟨⟨k + 1, C.setIfInBounds k (.int .i64 (1 + k)), by omega, by go_num, by rw [show (1 : Int) + k + 1 = 1 + ((k + 1 : Nat) : Int) by omega], ?_, blk_set (unhide HC) k _, by simpa using hCs, ?_⟩, by simp [intOf]; omega⟩
        · exact ⟨hw.out.os, hw.out.tape, hw.out.output, by rw [nblk_setCell]; exact hw.out.size, fun b hb hne => (blk_setCell_other _ _ _ _ (by intro e; exact hne (by rw [e]))).trans (hw.out.block b hb hne)⟩
        · intro i hi
          rw [Array.getElem?_setIfInBounds]
          by_cases e : k = i
          · subst e; simp [show k < C.size by omega]
          · rw [if_neg e]; exact hl.out i (by omega)
      · go_wp2_with fail
        go_ret
        refine ⟨?_, hw.out, ?_⟩
        · rw [show (n : Int) = (k : Int) by omega]
          rfl
        · refine ⟨by simp [ups_length], Or.inr ⟨g, cap, C, rfl, hB, hC, hcap, hmax, hCs, ?_⟩⟩
          apply List.ext_getElem?
          intro i
          rw [List.getElem?_take]
          by_cases hi : i < n
          · rw [if_pos (by omega)]
            have := hl.out i (by omega)
            simp [ups, hi]
            simpa using this
          · rw [if_neg (by omega)]
            simp [ups, hi]
end Go.Proofs.Ytlabpejmmkeacau
