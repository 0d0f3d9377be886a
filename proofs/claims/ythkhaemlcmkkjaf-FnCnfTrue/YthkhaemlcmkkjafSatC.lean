/- What is found with choices enough, and that it is the first model; pure. -/
import Derived.Test.YthkhaemlcmkkjafSatP
import Derived.Test.YthkhaemlcmkkjafSatL
namespace Go.Proofs.Ythkhaemlcmkkjaf
set_option linter.unusedVariables false
set_option linter.unusedSimpArgs false

theorem true_parts {vars : Int} {cs : List (List Int)} {m : List Bool} (h : cnfTrueB vars cs m = true) : cnfB vars cs = true ∧ (m.length : Int) = vars ∧ ∀ c, c ∈ cs → holdsB m c = true := by
  unfold cnfTrueB at h
  simp only [Bool.and_eq_true, decide_eq_true_eq, List.all_eq_true] at h
  exact ⟨h.1, h.2.1, h.2.2⟩
end Go.Proofs.Ythkhaemlcmkkjaf
