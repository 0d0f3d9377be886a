/- The program's own functions on names and requests. -/
import Derived.Test.YtecipjdbfmldlabSpecB
namespace Go.Proofs.Ytecipjdbfmldlab
set_option linter.unusedVariables false
set_option linter.unusedSimpArgs false
open Go.RowKit

set_option maxHeartbeats 400000 in
theorem within_any (n low high : Int) (w : World) :
    Calls Try.prog 45 #[.int .i64 n, .int .i64 low, .int .i64 high] w fun e w' => e = .returned (.bool (inB n low high)) ∧ w' = w := by
  by_cases h1 : low ≤ n
  · by_cases h2 : n ≤ high
    · go_enter Try.func45, Try.ntmps45
      go_wp2
      go_ret
      exact ⟨by simp [inB, h1, h2], rfl⟩
    · go_enter Try.func45, Try.ntmps45
      go_wp2
      go_ret
      exact ⟨by simp [inB, h1, h2], rfl⟩
  · have e : inB n low high = false := by simp [inB, h1]
    go_enter Try.func45, Try.ntmps45
    go_wp2
    go_ret
    exact ⟨by first | rfl | (rw [e]; rfl), rfl⟩

theorem below_iter (w : World) (s : ByteArray) (pos : Nat) : Below w.heap.size w (w.iter s pos) := (Below.refl _ _).alloc (Nat.le_refl _) _

set_option maxHeartbeats 1000000 in
set_option maxRecDepth 100000 in
theorem nameOk_any (s : ByteArray) (w : World) (hs : s.size ≤ maxLen) :
    Calls Try.prog 69 #[.string s] w fun e w' => e = .returned (.bool (nameB s)) ∧ Below w.heap.size w w' := by
  unfold maxLen at hs
  cases hin : inB s.size 1 6 with
  | false =>
    have e : nameB s = false := by simp [nameB, hin]
    go_enter Try.func69, Try.ntmps69
    go_wp2_with (go_at_call 45; refine (within_any _ _ _ _).mono ?_; rintro e w' ⟨rfl, hww⟩; obtain rfl := hww.symm)
    go_ret
    exact ⟨by first | rfl | (rw [e]; rfl), Below.refl _ _⟩
  | true =>
    go_enter Try.func69, Try.ntmps69
    go_wp2_with (go_at_call 45; refine (within_any _ _ _ _).mono ?_; rintro e w' ⟨rfl, hww⟩; obtain rfl := hww.symm)
    go_loopw [4] (fun _ wr => ∃ k : Nat, k ≤ s.size ∧ wr = w.iter s k ∧ Hid (lettersB (s.data.toList.take k) = true)) (fun _ wr => s.size - wr.iterPos w.heap.size)
    case atStart => exact ⟨0, Nat.zero_le _, rfl, rfl⟩
    case round =>
      obtain ⟨k, hk, rfl, hl⟩ := hrel
      by_cases hlt : k < s.size
      · by_cases hasc : (s[k].toNat) < 128
        · have hnx : ∀ ty, (Instr.next (.pointer (some ⟨w.heap.size, 0, none⟩)) true ty).run Try.prog (w.iter s k) = _ := fun ty => run_next_ascii w s k ty hlt hasc
          by_cases ha : (s[k].toNat : Int) < 97
          · have e : nameB s = false := by rw [nameB, letters_not s k hlt (by simp only [letterB]; simp; omega), Bool.and_false]
            go_wp2
            go_ret
            exact ⟨by first | rfl | (rw [e]; rfl), below_iter _ _ _⟩
          · by_cases hb : (122 : Int) < (s[k].toNat : Int)
            · have e : nameB s = false := by rw [nameB, letters_not s k hlt (by simp only [letterB]; simp; omega), Bool.and_false]
              go_wp2
              go_ret
              exact ⟨by first | rfl | (rw [e]; rfl), below_iter _ _ _⟩
            · go_wp2
              go_roundw
              case rel => exact ⟨k + 1, by omega, rfl, by show _ = true; rw [letters_take s k hlt, hl.out]; simp only [letterB]; simp; omega⟩
              case measure => simp; omega
        · have hnx : ∀ ty, (Instr.next (.pointer (some ⟨w.heap.size, 0, none⟩)) true ty).run Try.prog (w.iter s k) = _ := fun ty => run_next_any w s k ty hlt
          have hhi := (decode_high s k hlt (by omega)).1
          have e : nameB s = false := by rw [nameB, letters_not s k hlt (by simp only [letterB]; simp; omega), Bool.and_false]
          generalize (Utf8.decode s k).1 = r at hnx hhi
          generalize k + (Utf8.decode s k).2 = k' at hnx
          have hr1 : ¬ (r : Int) < 97 := by omega
          have hr2 : (122 : Int) < (r : Int) := by omega
          go_wp2
          go_ret
          exact ⟨by first | rfl | (rw [e]; rfl), below_iter _ _ _⟩
      · have hnx : ∀ ty, (Instr.next (.pointer (some ⟨w.heap.size, 0, none⟩)) true ty).run Try.prog (w.iter s k) = _ := fun ty => run_next_end w s k ty hlt
        go_wp2
        go_ret
        refine ⟨ret_bool ?_, below_iter _ _ _⟩
        have hl' := hl.out
        rw [List.take_of_length_le (by simp; omega)] at hl'
        rw [nameB, hl', hin]; rfl

set_option maxHeartbeats 1000000 in
theorem reqOk_any (q : ReqD) (w : World) (hs : q.name.size ≤ maxLen) :
    Calls Try.prog 79 #[.agg #[.string q.name, .int .i64 q.low, .int .i64 q.high]] w fun e w' => e = .returned (.bool (reqB q)) ∧ Below w.heap.size w w' := by
  have H23 := hide (fun W => nameOk_any q.name W hs)
  clear hs
  cases hv0 : nameB q.name with
  | false =>
    have e : reqB q = false := by simp [reqB, hv0]
    go_enter Try.func79, Try.ntmps79
    go_wp2_with fail
    refine (unhide H23 _).mono ?_
    rintro e w1 ⟨rfl, hb⟩
    go_wp2_with fail
    go_ret
    exact ⟨by first | rfl | (rw [e]; rfl), ((Below.refl _ _).alloc (Nat.le_refl _) _).trans (hb.mono (by simp))⟩
  | true =>
    go_enter Try.func79, Try.ntmps79
    go_wp2_with fail
    refine (unhide H23 _).mono ?_
    rintro e w1 ⟨rfl, hb⟩
    have hz := hb.size
    have c1 := hb.cell (p := ⟨w.heap.size, 1, none⟩) (by simp)
    have c2 := hb.cell (p := ⟨w.heap.size, 2, none⟩) (by simp)
    simp at c1 c2 hz
    have HB := hide (((Below.refl w.heap.size w).alloc (Nat.le_refl _) _).trans (hb.mono (by simp)))
    clear hb
    cases hv1 : inB q.high 0 99 with
    | false =>
      have e : reqB q = false := by simp [reqB, hv1]
      go_wp2_with (go_at_call 45; refine (within_any _ _ _ _).mono ?_; rintro e w' ⟨rfl, hww⟩; obtain rfl := hww.symm)
      go_ret
      exact ⟨by first | rfl | (rw [e]; rfl), unhide HB⟩
    | true =>
      go_wp2_with (go_at_call 45; refine (within_any _ _ _ _).mono ?_; rintro e w' ⟨rfl, hww⟩; obtain rfl := hww.symm)
      go_ret
      exact ⟨ret_bool (by simp [reqB, hv0, hv1]), unhide HB⟩
end Go.Proofs.Ytecipjdbfmldlab
