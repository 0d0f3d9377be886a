/- Whether clauses are a refutation: the program's mayRefute, SatProof. -/
import Derived.Test.YthkhaemlcmkkjaqGFu
import Derived.Test.YthkhaemlcmkkjaqGFo
import Derived.Test.YthkhaemlcmkkjaqGUp
namespace Go.Proofs.Ythkhaemlcmkkjaq
set_option linter.unusedVariables false
set_option linter.unusedSimpArgs false
open Go.RowKit Go.Deep

theorem refB_append (cs : List (List Int)) : ∀ (ps qs : List (List Int)), refB cs (ps ++ qs) = (refB cs ps && refB (cs ++ ps) qs) := fun ps => by
  induction ps generalizing cs with
  | nil => intro qs; simp [refB]
  | cons c ps ih =>
    intro qs
    rw [List.cons_append, refB, ih, refB, Bool.and_assoc, List.append_assoc]
    rfl
end Go.Proofs.Ythkhaemlcmkkjaq
