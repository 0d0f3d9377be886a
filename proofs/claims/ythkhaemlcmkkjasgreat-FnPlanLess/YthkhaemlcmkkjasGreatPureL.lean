/- The list of states: all that are healthy, each once. -/
import Derived.Test.YthkhaemlcmkkjasGreatStM
import Derived.Test.YthkhaemlcmkkjasGreatOkPure
namespace Go.Proofs.YthkhaemlcmkkjasGreat
set_option linter.unusedVariables false
set_option linter.unusedSimpArgs false
open Go.RowKit Go.Deep

theorem bits_lt_pow {l : List PackD} {room : Int} {set : List Int} (h : formB l room set = true) : setBits set < 2 ^ l.length := by
  apply Nat.lt_pow_two_of_testBit
  intro i hi
  unfold setBits
  rw [test_bits, decide_eq_false_iff_not]
  intro hm
  have := set_lt h i hm
  omega
end Go.Proofs.YthkhaemlcmkkjasGreat
