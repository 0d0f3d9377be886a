/- The specification's StateOk. The specification's StateOk, all of it. -/
import Derived.Test.YthkhaemlcmkkjarGStA
import Derived.Test.YthkhaemlcmkkjarGStO
import Derived.Test.YthkhaemlcmkkjarGImpl
import Derived.Test.YthkhaemlcmkkjarGReg
namespace Go.Proofs.Ythkhaemlcmkkjar
set_option linter.unusedVariables false
set_option linter.unusedSimpArgs false
open Go.RowKit Go.Deep

/-- All along a statement that only reads, and lays memory of its own. -/
structure C0 (W : World) (b : Bool) (us : List Value) (x : World) : Prop where
  below : Below W.heap.size W x
theorem C0.on {W : World} {b b' : Bool} {us : List Value} {x y : World} (h : C0 W b us x) (hb : Below x.heap.size x y) : C0 W b' us y := ⟨h.below.trans (hb.mono h.below.size)⟩
end Go.Proofs.Ythkhaemlcmkkjar

namespace Go.Proofs.Ythkhaemlcmkkjar
set_option linter.unusedVariables false
set_option linter.unusedSimpArgs false
open Go.RowKit Go.Deep

end Go.Proofs.Ythkhaemlcmkkjar
