/- The first model, or a refutation: the program's SatFind. -/
import Derived.Test.YthkhaemlcmkkjajGFs
import Derived.Test.YthkhaemlcmkkjajGDcn
namespace Go.Proofs.Ythkhaemlcmkkjaj
set_option linter.unusedVariables false
set_option linter.unusedSimpArgs false
open Go.RowKit Go.Deep

/-- What SatFind answers, in memory. -/
def SatOut (B : Nat) (w' : World) (R : SatR) (e : Ending) : Prop := ∃ mv pv vs, e = .returned (.tuple #[.int .i64 R.1, mv, pv]) ∧ w'.ownsRow B 4 1 mv R.2.1.length (bV R.2.1) ∧ LstI B w' pv R.2.2 vs
theorem SatOut.none {B : Nat} {w' : World} {R : SatR} {k : Int} (h : R = (k, [], [])) : SatOut B w' R (.returned (.tuple #[.int .i64 k, .slice none 0 0, .slice none 0 0])) := by
  subst h
  exact ⟨_, _, [], rfl, World.ownsRow_nil _ _ _ _, LstI.zero _ _⟩
end Go.Proofs.Ythkhaemlcmkkjaj
