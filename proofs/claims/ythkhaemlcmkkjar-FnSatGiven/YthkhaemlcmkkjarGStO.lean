/- The program's stock of packs. -/
import Derived.Test.YthkhaemlcmkkjarGSpec
import Derived.Test.YthkhaemlcmkkjarGBase
import Derived.OwnWalk
import Derived.Deep.AppendLies
import Derived.Test.YthkhaemlcmkkjarGStA
import Derived.Maps.OwnOps
import Derived.Maps.OwnSet
import Derived.Maps.Own
import Derived.StringKeys
import Derived.Maps.AppendAt
import Derived.Test.YthkhaemlcmkkjarGImpl
import Derived.Maps.Views
import Derived.Test.YthkhaemlcmkkjarGReg
import Derived.Deep.CutRange
import Derived.Deep.QuietTactic
import Derived.BigQuiet
namespace Go.Proofs.Ythkhaemlcmkkjar
set_option linter.unusedVariables false
set_option linter.unusedSimpArgs false
open Go.RowKit Go.Deep Go.Maps

theorem ownsRow_on {B : Nat} {e : TypeId} {sz : Nat} {v : Value} {n : Nat} {xs : List Value} {x y : World} (h : x.ownsRow B e sz v n xs) (hb : Below x.heap.size x y) : y.ownsRow B e sz v n xs :=
  h.kept (row := none) ⟨hb.os, hb.tape, hb.output, hb.size, fun b hb' _ => hb.block b hb'⟩ (by
    cases hv : v.ownBlock
    · exact Or.inl rfl
    · exact Or.inr (by simp))
end Go.Proofs.Ythkhaemlcmkkjar
