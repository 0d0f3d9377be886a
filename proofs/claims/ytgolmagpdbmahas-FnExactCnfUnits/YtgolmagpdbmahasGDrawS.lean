/- The specification's drawn states. What the drawing of a state leaves. -/
import Derived.Test.YtgolmagpdbmahasGStL
import Derived.Test.YtgolmagpdbmahasGBase
import Derived.Deep.QuietTactic
import Derived.Test.YtgolmagpdbmahasGReg
import Derived.Deep.RegionWith
import Derived.Deep.CutRange
import Derived.OwnWalk
import Derived.Test.YtgolmagpdbmahasGGrow
import Derived.Laws.OwnMore
import Derived.Deep.CutBlock
import Derived.Test.YtgolmagpdbmahasProg
import Derived.WalkKit
import Derived.ProofKit
import Derived.OpenShut
import Derived.ChangeOld
import Derived.Deep.Slices
namespace Go.Proofs.Ytgolmagpdbmahas
set_option linter.unusedVariables false
set_option linter.unusedSimpArgs false
open Go.RowKit Go.Deep

theorem RowI.low {B B' : Nat} {w : World} {v : Value} {l : List Int} (h : RowI B w v l) (hb : B' ≤ B) : RowI B' w v l := row_base h hb

end Go.Proofs.Ytgolmagpdbmahas

namespace Go.Proofs.Ytgolmagpdbmahas
set_option linter.unusedVariables false
set_option linter.unusedSimpArgs false
open Go.RowKit Go.Deep

end Go.Proofs.Ytgolmagpdbmahas
