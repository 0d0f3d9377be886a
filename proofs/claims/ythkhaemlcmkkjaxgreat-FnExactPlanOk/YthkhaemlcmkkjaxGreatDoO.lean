/- What StepDo answers. -/
import Derived.Test.YthkhaemlcmkkjaxGreatGPd
namespace Go.Proofs.YthkhaemlcmkkjaxGreat
set_option linter.unusedVariables false
set_option linter.unusedSimpArgs false
open Go.RowKit Go.Deep

/-- What StepDo answers: the state, and whether there is one. -/
def DoOut (B : Nat) (w' : World) (o : Option (List Int)) (e : Ending) : Prop := ∃ v, e = .returned (.tuple #[v, .bool o.isSome]) ∧ RowI B w' v (o.getD [])
theorem DoOut.none (B : Nat) (w : World) {o : Option (List Int)} (h : o = none) : DoOut B w o (.returned (.tuple #[.slice none 0 0, .bool false])) := by
  subst h
  exact ⟨_, rfl, World.ownsRow_nil _ _ _ _⟩
theorem ints_nat (l : List Nat) : (intsOf l).map (fun i => Value.int .i64 i) = natVs l := by
  unfold intsOf natVs
  rw [List.map_map]
  rfl
end Go.Proofs.YthkhaemlcmkkjaxGreat
