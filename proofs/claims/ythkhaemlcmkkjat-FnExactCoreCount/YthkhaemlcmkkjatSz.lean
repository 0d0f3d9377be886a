/- How much packs hold: within the law's own bound, or it says so. -/
import Derived.Test.YthkhaemlcmkkjatGBase
import Derived.Deep.OwnRows
import Derived.Deep.MidRow
import Derived.Laws.IdiomCopy
namespace Go.Proofs.Ythkhaemlcmkkjat
set_option linter.unusedVariables false
set_option linter.unusedSimpArgs false
open Go.RowKit Go.Deep

/-- What a count says: too much, or so much is left and it is small. -/
def Left (left r : Int) (small : Prop) : Prop := r < 0 ∨ (0 ≤ r ∧ r ≤ left ∧ small)

theorem each_step {α : Type} {l : List α} {d q : α} {P : α → Prop} {k : Nat} (h : ∀ i, i < k → P (l.getD i d)) (hq : q = l.getD k d) (hp : P q) : ∀ i, i < k + 1 → P (l.getD i d) := by
  intro i hi
  by_cases e : i = k
  · subst e; rw [← hq]; exact hp
  · exact h i (by omega)

end Go.Proofs.Ythkhaemlcmkkjat
