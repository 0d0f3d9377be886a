/- Ascending places as bits, and back. -/
import Derived.Test.YtecipjdbfmldlabBitA
namespace Go.Proofs.Ytecipjdbfmldlab
set_option linter.unusedVariables false
set_option linter.unusedSimpArgs false

theorem has_test (s i : Nat) : decide (s &&& 2 ^ i ≠ 0) = s.testBit i := by
  cases h : s.testBit i with
  | false =>
    have e : s &&& 2 ^ i = 0 := Nat.eq_of_testBit_eq fun j => by
      rw [Nat.testBit_and, Nat.testBit_two_pow, Nat.zero_testBit]
      by_cases hj : i = j
      · subst hj; simp [h]
      · simp [hj]
    simp [e]
  | true =>
    have e : s &&& 2 ^ i ≠ 0 := fun e => by
      have h1 : (s &&& 2 ^ i).testBit i = true := by rw [Nat.testBit_and, Nat.testBit_two_pow, h]; simp
      rw [e, Nat.zero_testBit] at h1
      cases h1
    simp [e]
theorem filter_succ (k : Nat) : ∀ l : List Nat, l.Pairwise (· < ·) → l.filter (fun x => decide (x < k + 1)) = l.filter (fun x => decide (x < k)) ++ (if k ∈ l then [k] else [])
  | [], _ => by simp
  | x :: xs, h => by
    obtain ⟨hx, hxs⟩ := List.pairwise_cons.1 h
    have ih := filter_succ k xs hxs
    by_cases h1 : x < k
    · have h2 : x < k + 1 := by omega
      have h3 : (k ∈ x :: xs) = (k ∈ xs) := by
        simp only [List.mem_cons, eq_iff_iff]
        exact ⟨fun h => h.resolve_left (by omega), Or.inr⟩
      simp only [List.filter_cons, h1, h2, decide_true, if_true, List.cons_append, ih, h3]
    · have hn : ∀ y ∈ xs, k < y := fun y hy => by have := hx y hy; omega
      have e1 : xs.filter (fun x => decide (x < k + 1)) = [] := List.filter_eq_nil_iff.2 fun y hy => by have := hn y hy; simp; omega
      have e2 : xs.filter (fun x => decide (x < k)) = [] := List.filter_eq_nil_iff.2 fun y hy => by have := hn y hy; simp; omega
      by_cases h4 : x = k
      · subst h4
        simp [List.filter_cons, e1, e2]
      · have h5 : ¬ x < k + 1 := by omega
        have h6 : k ∉ x :: xs := by
          simp only [List.mem_cons, not_or]
          exact ⟨fun h => h4 h.symm, fun h => absurd (hn k h) (by omega)⟩
        simp only [List.filter_cons, h1, h5, e1, e2, h6]
        simp
/-- The bits of some places. -/
def bitsOf (l : List Nat) : Nat := l.foldl (fun s p => s ||| 2 ^ p) 0
theorem test_fold : ∀ (l : List Nat) (s i : Nat), (l.foldl (fun s p => s ||| 2 ^ p) s).testBit i = (s.testBit i || decide (i ∈ l))
  | [], s, i => by simp
  | p :: l, s, i => by
    rw [List.foldl_cons, test_fold l]
    rw [Nat.testBit_or, Nat.testBit_two_pow]
    by_cases h : p = i
    · subst h; simp
    · have : ¬ i = p := fun e => h e.symm
      simp [h, this]
theorem test_bits (l : List Nat) (i : Nat) : (bitsOf l).testBit i = decide (i ∈ l) := by
  unfold bitsOf
  rw [test_fold]
  simp
theorem places_upto (l : List Nat) (h : l.Pairwise (· < ·)) : ∀ k, placesTo (bitsOf l) k = l.filter (fun x => decide (x < k))
  | 0 => by simp [placesTo]
  | k + 1 => by
    rw [places_succ, filter_succ k l h, has_test, test_bits, places_upto l h k]
    by_cases hk : k ∈ l
    · simp [hk]
    · simp [hk]
/-- Ascending places are those of their bits. -/
theorem places_bits (l : List Nat) (h : l.Pairwise (· < ·)) {n : Nat} (hn : ∀ x ∈ l, x < n) : placesTo (bitsOf l) n = l := by
  rw [places_upto l h]
  exact List.filter_eq_self.2 fun x hx => by simpa using hn x hx
theorem bits_snoc (l : List Nat) (p : Nat) : bitsOf (l ++ [p]) = bitsOf l ||| 2 ^ p := by
  unfold bitsOf
  rw [List.foldl_append]
  rfl
end Go.Proofs.Ytecipjdbfmldlab
