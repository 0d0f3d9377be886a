/- The program's StepDo. The program's StepFrom. -/
import Derived.Test.YthkhaemlcmkkjasGreatDoneA
import Derived.Test.YthkhaemlcmkkjasGreatGPd
import Derived.Test.YthkhaemlcmkkjasGreatDoO
import Derived.Test.YthkhaemlcmkkjasGreatGMw
namespace Go.Proofs.YthkhaemlcmkkjasGreat
set_option linter.unusedVariables false
set_option linter.unusedSimpArgs false
open Go.RowKit Go.Deep

end Go.Proofs.YthkhaemlcmkkjasGreat

namespace Go.Proofs.YthkhaemlcmkkjasGreat
set_option linter.unusedVariables false
set_option linter.unusedSimpArgs false
open Go.RowKit Go.Deep

theorem do_move {l : List PackD} {room : Int} {set : List Int} (hok : okZ l room set = true) {m : MvD} (hm : m ∈ movesL l) : (implDo l room set m.step).isSome = allowsB l room (setBits set) m := by
  unfold implDo
  rw [hok, if_pos rfl]
  cases hf : (movesL l).find? (fun x => eqS x.step m.step) with
  | none =>
    exfalso
    have := List.find?_eq_none.1 hf m hm
    exact this ((eqS_iff _ _).2 rfl)
  | some m' =>
    have h1 : m'.step = m.step := eqS_eq (by have := List.find?_some hf; simpa using this)
    have h2 := step_inj h1
    subst h2
    simp only
    cases allowsB l room (setBits set) m' <;> simp
theorem from_moves {l : List PackD} {room : Int} {set : List Int} (hok : okZ l room set = true) : fromL l room set = ((movesL l).filter (allowsB l room (setBits set))).map MvD.step := by
  unfold fromL stepsL
  rw [formr (okz_form hok), if_pos rfl, List.filter_map]
  congr 1
  apply List.filter_congr
  intro m hm
  exact do_move hok hm
end Go.Proofs.YthkhaemlcmkkjasGreat
