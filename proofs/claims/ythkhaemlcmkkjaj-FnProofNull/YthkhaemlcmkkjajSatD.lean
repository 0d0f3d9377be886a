/- What refutations are: more clauses, their own ahead, without the last one, and the empty one alone; pure. -/
import Derived.Test.YthkhaemlcmkkjajSatP
import Derived.Test.YthkhaemlcmkkjajSatL
import Derived.Test.YthkhaemlcmkkjajFPrf
namespace Go.Proofs.Ythkhaemlcmkkjaj
set_option linter.unusedVariables false
set_option linter.unusedSimpArgs false

/-- The empty clause alone refutes just what cannot be at once; nothing refutes nothing. -/
theorem proof_null {vars : Int} {cs : List (List Int)} (hok : cnfB vars cs = true) : proofZ vars cs [[]] = confB cs [] ∧ proofZ vars cs [] = false := by
  refine ⟨?_, ?_⟩
  · unfold proofZ
    have hl : litsB vars [] = true := by simp [litsB]
    rw [hok]
    simp [refB, noL, hl]
  · unfold proofZ
    simp
end Go.Proofs.Ythkhaemlcmkkjaj
