/- Lists of states. Numbers that lie in memory of their own. A row that is nil has no room. -/
import Derived.Test.YthkhaemlcmkkjayGBase
import Derived.Test.YthkhaemlcmkkjayGSpecP
namespace Go.Proofs.Ythkhaemlcmkkjay
set_option linter.unusedVariables false
set_option linter.unusedSimpArgs false
open Go.RowKit Go.Deep

theorem mem_places (s k i : Nat) : i ∈ placesTo s k ↔ i < k ∧ s.testBit i = true := by
  unfold placesTo
  rw [List.mem_filter, List.mem_range, has_test]
end Go.Proofs.Ythkhaemlcmkkjay

namespace Go.Proofs.Ythkhaemlcmkkjay
set_option linter.unusedVariables false
set_option linter.unusedSimpArgs false
open Go.RowKit Go.Deep

end Go.Proofs.Ythkhaemlcmkkjay

namespace Go.Proofs.Ythkhaemlcmkkjay
set_option linter.unusedVariables false
set_option linter.unusedSimpArgs false
open Go.RowKit Go.Deep

end Go.Proofs.Ythkhaemlcmkkjay
