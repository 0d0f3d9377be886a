/- The specification's own functions on names and requests. -/
import Derived.Test.YtecipjdbfmldlabData
import Derived.Deep.QuietTactic
import Derived.BigQuiet
import Derived.Lib.QuietBelow
namespace Go.Proofs.Ytecipjdbfmldlab
set_option linter.unusedVariables false
set_option linter.unusedSimpArgs false
open Go.RowKit


set_option maxHeartbeats 400000 in
theorem l6In_any (n low high : Int) (w : World) :
    Calls Try.prog 35 #[.int .i64 n, .int .i64 low, .int .i64 high] w fun e w' => e = .returned (.bool (inB n low high)) ∧ w' = w := by
  by_cases h1 : low ≤ n
  · by_cases h2 : n ≤ high
    · go_enter Try.func35, Try.ntmps35
      go_wp2
      go_ret
      exact ⟨by simp [inB, h1, h2], rfl⟩
    · go_enter Try.func35, Try.ntmps35
      go_wp2
      go_ret
      exact ⟨by simp [inB, h1, h2], rfl⟩
  · have e : inB n low high = false := by simp [inB, h1]
    go_enter Try.func35, Try.ntmps35
    go_wp2
    go_ret
    exact ⟨by first | rfl | (rw [e]; rfl), rfl⟩

theorem letters_take (s : ByteArray) (k : Nat) (h : k < s.size) : lettersB (s.data.toList.take (k + 1)) = (lettersB (s.data.toList.take k) && letterB s[k]) := by
  have e : s.data.toList.take (k + 1) = s.data.toList.take k ++ [s[k]] := by rw [List.take_succ_eq_append_getElem (by simpa using h)]; rfl
  rw [e, lettersB, List.all_append]; simp [lettersB]

theorem letters_not (s : ByteArray) (k : Nat) (h : k < s.size) (hb : letterB s[k] = false) : lettersB s.data.toList = false := by
  rw [← Bool.not_eq_true]
  intro ht
  have := List.all_eq_true.1 ht s[k] (by
    have : s[k] = s.data.toList[k]'(by simpa using h) := rfl
    rw [this]; exact List.getElem_mem _)
  rw [hb] at this; exact absurd this (by decide)

set_option maxHeartbeats 400000 in
theorem l1Name_any (s : ByteArray) (w : World) (hs : s.size ≤ maxLen) :
    Calls Try.prog 36 #[.string s] w fun e w' => e = .returned (.bool (nameB s)) ∧ w' = w := by
  unfold maxLen at hs
  by_cases h1 : s.size = 0
  · have e : nameB s = false := by simp [nameB, inB]; omega
    go_enter Try.func36, Try.ntmps36
    go_wp2
    go_ret
    exact ⟨by first | rfl | (rw [e]; rfl), rfl⟩
  · by_cases h2 : (6 : Int) < (s.size : Int)
    · have e : nameB s = false := by simp [nameB, inB]; omega
      go_enter Try.func36, Try.ntmps36
      go_wp2
      go_ret
      exact ⟨by first | rfl | (rw [e]; rfl), rfl⟩
    · have hin : inB s.size 1 6 = true := by simp [inB]; omega
      go_enter Try.func36, Try.ntmps36
      go_wp2
      go_loop [3] (fun i => ∃ k : Nat, k ≤ s.size ∧ i = .int .i64 k ∧ Hid (lettersB (s.data.toList.take k) = true)) (fun i => s.size - (intOf i).toNat)
      case atStart => exact ⟨0, Nat.zero_le _, rfl, rfl⟩
      case round =>
        obtain ⟨k, hk, rfl, hl⟩ := hrel
        by_cases hlt : k < s.size
        · by_cases ha : (s[k].toNat : Int) < 97
          · have e : nameB s = false := by rw [nameB, letters_not s k hlt (by simp only [letterB]; simp; omega), Bool.and_false]
            go_wp2
            go_ret
            exact ⟨by first | rfl | (rw [e]; rfl), rfl⟩
          · by_cases hb : (122 : Int) < (s[k].toNat : Int)
            · have e : nameB s = false := by rw [nameB, letters_not s k hlt (by simp only [letterB]; simp; omega), Bool.and_false]
              go_wp2
              go_ret
              exact ⟨by first | rfl | (rw [e]; rfl), rfl⟩
            · go_wp2
              go_round
              case rel => exact ⟨k + 1, by omega, by go_num, by show _ = true; rw [letters_take s k hlt, hl.out]; simp only [letterB]; simp; omega⟩
              case measure => simp [intOf]; omega
        · go_wp2
          go_ret
          refine ⟨ret_bool ?_, rfl⟩
          have hl' := hl.out
          rw [List.take_of_length_le (by simp; omega)] at hl'
          rw [nameB, hl', hin]; rfl
end Go.Proofs.Ytecipjdbfmldlab
