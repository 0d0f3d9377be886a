/- What is found with choices enough, and that it is the first model; pure. -/
import Derived.Test.YthkhaemlcmkkjarSatP
import Derived.Test.YthkhaemlcmkkjarSatL
namespace Go.Proofs.Ythkhaemlcmkkjar
set_option linter.unusedVariables false
set_option linter.unusedSimpArgs false

theorem soB_pos (m : List Bool) {v : Nat} (hv : 1 ≤ v) : soB m (v : Int) = m.getD (v - 1) false := by
  unfold soB
  rw [if_pos (by omega), show ((v : Int) - 1).toNat = v - 1 by omega]
theorem true_parts {vars : Int} {cs : List (List Int)} {m : List Bool} (h : cnfTrueB vars cs m = true) : cnfB vars cs = true ∧ (m.length : Int) = vars ∧ ∀ c, c ∈ cs → holdsB m c = true := by
  unfold cnfTrueB at h
  simp only [Bool.and_eq_true, decide_eq_true_eq, List.all_eq_true] at h
  exact ⟨h.1, h.2.1, h.2.2⟩
section
variable {cs : List (List Int)} {vars most : Nat}
theorem snoc_so {ch : List Int} {m : List Bool} (h : ∀ x, x ∈ ch → soB m x = true) {y : Int} (hy : soB m y = true) : ∀ x, x ∈ ch ++ [y] → soB m x = true := fun x hx => by
  rcases List.mem_append.1 hx with hx | hx
  · exact h x hx
  · rw [List.mem_singleton] at hx; rw [hx]; exact hy
end
end Go.Proofs.Ythkhaemlcmkkjar
