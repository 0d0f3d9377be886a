/- Clauses of few variables by bits, and their models: pure. -/
import Derived.Test.YthkhaemlcmkkjahGSpec
import Derived.Test.YthkhaemlcmkkjahGBase
import Derived.OwnWalk
import Derived.Deep.AppendLies
import Derived.Test.YthkhaemlcmkkjahGStA
import Derived.Test.YthkhaemlcmkkjahGCn
namespace Go.Proofs.Ythkhaemlcmkkjah
set_option linter.unusedVariables false
set_option linter.unusedSimpArgs false
open Go.RowKit Go.Deep

/-- A model of bits as what is so. -/
def bitsM (vars n : Nat) : List Bool := (List.range vars).map fun i => n.testBit i
theorem bitsM_len (vars n : Nat) : (bitsM vars n).length = vars := by simp [bitsM]
theorem bitsM_at {vars n i : Nat} (h : i < vars) : (bitsM vars n).getD i false = n.testBit i := by simp [bitsM, List.getD, h]
/-- All models of few variables, by bits. -/
def holdN (vars : Nat) (cs : List (List Int)) (b : Nat) : Bool := cs.all (holdsB (bitsM vars b))
def modelsN (vars : Nat) (cs : List (List Int)) : List Nat := (List.range (2 ^ vars)).filter (holdN vars cs)
theorem cnf_rng {vars : Int} {cs : List (List Int)} (h : cnfB vars cs = true) : 0 ≤ vars ∧ vars ≤ 400 ∧ ∀ c, c ∈ cs → c.length ≤ 400 ∧ ∀ x, x ∈ c → litB vars x = true := by
  simp only [cnfB, Bool.and_eq_true, decide_eq_true_eq, List.all_eq_true] at h
  have h1 := h.1
  simp [inB] at h1
  refine ⟨h1.1, h1.2, fun c hc => ?_⟩
  have h2 := h.2.2 c hc
  simp only [litsB, Bool.and_eq_true, decide_eq_true_eq, List.all_eq_true] at h2
  exact h2
theorem true_bits {vars b : Nat} {cs : List (List Int)} (h : cnfB (vars : Int) cs = true) : cnfTrueB (vars : Int) cs (bitsM vars b) = holdN vars cs b := by
  unfold cnfTrueB holdN
  rw [h, bitsM_len, decide_eq_true rfl, Bool.true_and, Bool.true_and]
/-- A model as a number. -/
def numM : List Bool → Nat
  | [] => 0
  | b :: m => 2 * numM m + (if b then 1 else 0)
theorem numM_lt : ∀ m : List Bool, numM m < 2 ^ m.length
  | [] => by simp [numM]
  | b :: m => by
    have := numM_lt m
    rw [numM, List.length_cons, Nat.pow_succ]
    split <;> omega
theorem numM_bit : ∀ (m : List Bool) (i : Nat), i < m.length → (numM m).testBit i = m.getD i false
  | b :: m, 0, _ => by
    rw [numM, Nat.testBit_zero]
    cases b <;> simp <;> omega
  | b :: m, i + 1, h => by
    rw [numM, Nat.testBit_succ, show (2 * numM m + (if b then 1 else 0)) / 2 = numM m by split <;> omega, numM_bit m i (by simpa using h)]
    simp
theorem bits_num (m : List Bool) : bitsM m.length (numM m) = m := by
  apply List.ext_getElem
  · exact bitsM_len _ _
  · intro i h1 h2
    have := bitsM_at (vars := m.length) (n := numM m) h2
    rw [numM_bit m i h2] at this
    simpa [List.getD, h1, h2] using this
/-- Some model is one of bits. -/
theorem models_some {vars : Int} {cs : List (List Int)} {m : List Bool} (h : cnfTrueB vars cs m = true) : ∃ b, b ∈ modelsN vars.toNat cs := by
  have hh := h
  unfold cnfTrueB at hh
  simp only [Bool.and_eq_true, decide_eq_true_eq] at hh
  obtain ⟨h1, h2, h3⟩ := hh
  have hv : vars.toNat = m.length := by omega
  refine ⟨numM m, ?_⟩
  rw [hv]
  unfold modelsN
  rw [List.mem_filter, List.mem_range]
  refine ⟨numM_lt m, ?_⟩
  unfold holdN
  rw [bits_num]
  exact h3
theorem models_true {vars : Int} {cs : List (List Int)} {b : Nat} (hok : cnfB vars cs = true) (h : b ∈ modelsN vars.toNat cs) : cnfTrueB vars cs (bitsM vars.toNat b) = true := by
  have hv := (cnf_rng hok).1
  have h2 := (List.mem_filter.1 h).2
  have h3 := true_bits (vars := vars.toNat) (b := b) (cs := cs) (by rw [show ((vars.toNat : Nat) : Int) = vars by omega]; exact hok)
  rw [show ((vars.toNat : Nat) : Int) = vars by omega] at h3
  rw [h3]
  exact h2
end Go.Proofs.Ythkhaemlcmkkjah
