/- The law's own functions on rows of numbers. -/
import Derived.Test.YthkhaemlcmkkjaxGreatGStL
namespace Go.Proofs.YthkhaemlcmkkjaxGreat
set_option linter.unusedVariables false
set_option linter.unusedSimpArgs false
open Go.RowKit Go.Deep

def upsK (k : Int) (n : Nat) : List Int := (List.range n).map fun i : Nat => k + i
theorem upsK_getD (k : Int) (n i : Nat) (h : i < n) : (upsK k n).getD i 0 = k + i := by simp [upsK, List.getD, h]
theorem upsK_length (k : Int) (n : Nat) : (upsK k n).length = n := by simp [upsK]
set_option maxHeartbeats 1000000 in
theorem heldIntS_k (k0 : Int) (a : Option Addr) (n cap : Nat) (w : World) (h : SetAt w a (upsK k0 n)) (hk0 : 0 ≤ k0) (hk1 : k0 ≤ 1000000000) :
    Calls Tryz.prog 17 #[.slice a n cap, .int .i64 k0] w fun e w' => e = .returned (.int .i64 (k0 + n)) ∧ Below w.heap.size w w' := by
  obtain ⟨hm, h⟩ := h
  rw [upsK_length] at h hm
  go_enter Tryz.func17, Tryz.ntmps17
  go_wp2
  go_loopw [1, 5] (fun z i wr => ∃ k : Nat, k ≤ n ∧ i = .int .i64 k ∧ z = .int .i64 (k0 + k) ∧ Drawn w wr) (fun _ i _ => n - (intOf i).toNat)
  case atStart => exact ⟨0, Nat.zero_le _, rfl, by simp, Drawn.refl _⟩
  case round =>
    rename World => wo
    obtain ⟨k, hk, rfl, rfl, hw⟩ := hrel
    by_cases hlt : k < n
    · rcases h with h | ⟨b, o, rfl, hb, h⟩
      · have := upsK_length k0 n; rw [h] at this; simp at this; omega
      have c0 := h k hlt
      rw [upsK_getD k0 n k hlt, ← hw.cell] at c0
      clear h
      have j0 : (0 : Int) ≤ (k : Int) := by omega
      have j1 : (k : Int) < (n : Int) := by omega
      have hw1 : IntKind.i64.wrap (k0 + (k : Int) + 1) = k0 + (k : Int) + 1 := by rw [IntKind.wrap_i64]; omega
      go_wp2_with fail
      exact ⟨⟨k + 1, by omega, by go_num, by rw [show k0 + (k : Int) + 1 = k0 + ((k + 1 : Nat) : Int) by omega], hw⟩, by simp [intOf]; omega⟩
    · have j1 : ¬ (k : Int) < (n : Int) := by omega
      go_wp2_with fail
      go_ret
      refine ⟨?_, hw.below _⟩
      rw [show (n : Int) = (k : Int) by omega]
      rfl

set_option maxHeartbeats 1000000 in
theorem markIntS_k (k0 : Int) (B : Nat) (v : Value) (l : List Int) (w : World) (h : RowI B w v l) (hs : l.length ≤ 1048576) (hk0 : 0 ≤ k0) (hk1 : k0 ≤ 4000000000000000000) :
    Calls Tryz.prog 16 #[v, .int .i64 k0] w fun e w' => e = .returned (.int .i64 (k0 + l.length)) ∧ w.grownBy w' v.ownBlock ∧ RowI B w' v (upsK k0 l.length) := by
  unfold RowI
  rw [upsK_length]
  obtain ⟨h1, h2⟩ := h
  rcases h2 with ⟨rfl, h0⟩ | ⟨g, cap, cur, rfl, hB, hc, hcap, hmax, hsz, hx⟩
  · have : l = [] := List.length_eq_zero_iff.1 h0
    subst this
    go_enter Tryz.func16, Tryz.ntmps16
    go_wp2
    refine wp_loop_rounds 1 ?_
    rw [rounds_succ]
    go_wp2
    go_ret
    exact ⟨by simp, ⟨rfl, rfl, rfl, Nat.le_refl _, fun _ _ _ => rfl⟩, World.ownsRow_nil _ _ _ _⟩
  · have HX := hide hx
    clear hx h1
    generalize l.length = n at *
    go_enter Tryz.func16, Tryz.ntmps16
    go_wp2
    go_loopw [1, 5] (fun z i wr => ∃ (k : Nat) (C : Array Value), k ≤ n ∧ i = .int .i64 k ∧ z = .int .i64 (k0 + k) ∧ Hid (w.grownBy wr (some g)) ∧ wr.heap[g]? = some (.cells C 3 (0, 0)) ∧ C.size = cap * 1 ∧ Hid (∀ i, i < k → C[i]? = some (.int .i64 (k0 + i)))) (fun _ i _ => n - (intOf i).toNat)
    case atStart => exact ⟨0, cur, Nat.zero_le _, rfl, by simp, ⟨rfl, rfl, rfl, Nat.le_refl _, fun _ _ _ => rfl⟩, hc, hsz, fun i hi => absurd hi (Nat.not_lt_zero _)⟩
    case round =>
      rename World => wo
      obtain ⟨k, C, hk, rfl, rfl, hw, hC, hCs, hl⟩ := hrel
      by_cases hlt : k < n
      · have x0 : wo.cell? ⟨g, k, none⟩ = some (C[k]'(by omega)) := by simp [World.cell?, hC, show k < C.size by omega]
        have f0 : wo.frozen? ⟨g, k, none⟩ = false := by simp [World.frozen?, hC]
        have HC := hide hC
        have hw1 : IntKind.i64.wrap (k0 + (k : Int) + 1) = k0 + (k : Int) + 1 := by rw [IntKind.wrap_i64]; omega
        have j1 : (k : Int) < (n : Int) := by omega
        clear hC
        go_wp2_with fail
        refine ⟨⟨k + 1, C.setIfInBounds k (.int .i64 (k0 + k)), by omega, by go_num, by rw [show k0 + (k : Int) + 1 = k0 + ((k + 1 : Nat) : Int) by omega], ?_, blk_set (unhide HC) k _, by simpa using hCs, ?_⟩, by simp [intOf]; omega⟩
        · exact ⟨hw.out.os, hw.out.tape, hw.out.output, by rw [nblk_setCell]; exact hw.out.size, fun b hb hne => (blk_setCell_other _ _ _ _ (by intro e; exact hne (by rw [e]))).trans (hw.out.block b hb hne)⟩
        · intro i hi
          rw [Array.getElem?_setIfInBounds]
          by_cases e : k = i
          · subst e; simp [show k < C.size by omega]
          · rw [if_neg e]; exact hl.out i (by omega)
      · have j1 : ¬ (k : Int) < (n : Int) := by omega
        go_wp2_with fail
        go_ret
        refine ⟨?_, hw.out, ?_⟩
        · rw [show (n : Int) = (k : Int) by omega]
          rfl
        · refine ⟨by simp [upsK_length], Or.inr ⟨g, cap, C, rfl, hB, hC, hcap, hmax, hCs, ?_⟩⟩
          apply List.ext_getElem?
          intro i
          rw [List.getElem?_take]
          by_cases hi : i < n
          · rw [if_pos (by omega)]
            have := hl.out i (by omega)
            simp [upsK, hi]
            simpa using this
          · rw [if_neg (by omega)]
            simp [upsK, hi]

end Go.Proofs.YthkhaemlcmkkjaxGreat
