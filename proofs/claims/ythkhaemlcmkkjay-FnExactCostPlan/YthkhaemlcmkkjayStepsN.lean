/- Steps that are marked. -/
import Derived.Test.YthkhaemlcmkkjayStepsM
namespace Go.Proofs.Ythkhaemlcmkkjay
set_option linter.unusedVariables false
set_option linter.unusedSimpArgs false
open Go.RowKit Go.Deep

theorem SR.at {B : Nat} {w : World} {v : Value} {ss : List StepD} (h : SR B w v ss) (hl : ss.length ≤ 1048576) : ∃ a cap, v = .slice a ss.length cap ∧ StepsAt w a ss := by
  obtain ⟨a, cap, h1, _, _, h2⟩ := StepsAt.of_row h hl
  exact ⟨a, cap, h1, h2⟩

end Go.Proofs.Ythkhaemlcmkkjay
