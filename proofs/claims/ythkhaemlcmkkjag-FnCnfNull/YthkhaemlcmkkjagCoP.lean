/- Clauses of few variables by bits, and their models: pure. -/
import Derived.Test.YthkhaemlcmkkjagGSpec
import Derived.Test.YthkhaemlcmkkjagGBase
import Derived.OwnWalk
import Derived.Deep.AppendLies
import Derived.Test.YthkhaemlcmkkjagGStA
import Derived.Test.YthkhaemlcmkkjagGCn
namespace Go.Proofs.Ythkhaemlcmkkjag
set_option linter.unusedVariables false
set_option linter.unusedSimpArgs false
open Go.RowKit Go.Deep

theorem cnf_rng {vars : Int} {cs : List (List Int)} (h : cnfB vars cs = true) : 0 ≤ vars ∧ vars ≤ 400 ∧ ∀ c, c ∈ cs → c.length ≤ 400 ∧ ∀ x, x ∈ c → litB vars x = true := by
  simp only [cnfB, Bool.and_eq_true, decide_eq_true_eq, List.all_eq_true] at h
  have h1 := h.1
  simp [inB] at h1
  refine ⟨h1.1, h1.2, fun c hc => ?_⟩
  have h2 := h.2.2 c hc
  simp only [litsB, Bool.and_eq_true, decide_eq_true_eq, List.all_eq_true] at h2
  exact h2
end Go.Proofs.Ythkhaemlcmkkjag
