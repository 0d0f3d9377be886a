/- Models ahead of others, and some of the clauses alone: pure. -/
import Derived.Test.YthkhaemlcmkkjarSatC
import Derived.Test.YthkhaemlcmkkjarSatL
namespace Go.Proofs.Ythkhaemlcmkkjar
set_option linter.unusedVariables false
set_option linter.unusedSimpArgs false

/-- All but one. -/
def lessL {α : Type} (cs : List α) (k : Nat) : List α := cs.take k ++ cs.drop (k + 1)
theorem lessL_len {α : Type} {cs : List α} {k : Nat} (h : k < cs.length) : (lessL cs k).length = cs.length - 1 := by
  simp [lessL, List.length_append, List.length_take, List.length_drop]
  omega
end Go.Proofs.Ythkhaemlcmkkjar
