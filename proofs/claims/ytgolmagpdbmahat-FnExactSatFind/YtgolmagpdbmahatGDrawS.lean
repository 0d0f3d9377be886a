/- The specification's drawn states. What the drawing of a state leaves. -/
import Derived.Test.YtgolmagpdbmahatGStL
import Derived.Test.YtgolmagpdbmahatGDrawB
import Derived.OwnWalk
import Derived.Test.YtgolmagpdbmahatGGrow
import Derived.Laws.OwnMore
import Derived.Deep.CutBlock
import Derived.Test.YtgolmagpdbmahatProg
import Derived.WalkKit
import Derived.ProofKit
import Derived.OpenShut
import Derived.ChangeOld
import Derived.Deep.Slices
namespace Go.Proofs.Ytgolmagpdbmahat
set_option linter.unusedVariables false
set_option linter.unusedSimpArgs false
open Go.RowKit Go.Deep

theorem RowI.low {B B' : Nat} {w : World} {v : Value} {l : List Int} (h : RowI B w v l) (hb : B' ≤ B) : RowI B' w v l := row_base h hb

end Go.Proofs.Ytgolmagpdbmahat

namespace Go.Proofs.Ytgolmagpdbmahat
set_option linter.unusedVariables false
set_option linter.unusedSimpArgs false
open Go.RowKit Go.Deep

end Go.Proofs.Ytgolmagpdbmahat
