/- Clauses without one: the law's own ldLess. -/
import Derived.Test.YthkhaemlcmkkjarGReg
import Derived.Test.YthkhaemlcmkkjarSatE
import Derived.Test.YthkhaemlcmkkjarGGrow
import Derived.Test.YthkhaemlcmkkjarSuG
import Derived.Test.YthkhaemlcmkkjarGDcn
import Derived.Maps.AppendAt
import Derived.Deep.QuietTactic
import Derived.BigQuiet
namespace Go.Proofs.Ythkhaemlcmkkjar
set_option linter.unusedVariables false
set_option linter.unusedSimpArgs false
open Go.RowKit Go.Deep

theorem Try.infoLL : (Try.prog.info? 26).map (fun i => (i.zero, i.size, i.bytes)) = some (some (.slice none 0 0), 1, 24) := by kernel_rfl
theorem getD_less {α : Type} {l : List α} {d : α} {k i : Nat} (hk : k < l.length) : (lessL l k).getD i d = l.getD (if i < k then i else i + 1) d := by
  unfold lessL
  by_cases h : i < k
  · rw [if_pos h]
    simp [List.getD, List.getElem?_append, List.length_take, show i < min k l.length by omega, List.getElem?_take, h, show i < l.length by omega]
  · rw [if_neg h]
    have e : min k l.length = k := by omega
    simp [List.getD, List.getElem?_append, List.length_take, e, h, List.getElem?_drop]
    rw [show k + 1 + (i - k) = i + 1 by omega]

end Go.Proofs.Ythkhaemlcmkkjar
