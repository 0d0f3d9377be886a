/- Plans: steps one behind the other. The program's PlanDo. The specification's PlanDo. PlanOk of both sides. -/
import Derived.Test.YtnhboegiddkhfaeGPd
import Derived.Test.YtnhboegiddkhfaeDoneA
import Derived.Test.YtnhboegiddkhfaeDoO
import Derived.Test.YtnhboegiddkhfaeGSp
import Derived.Test.YtnhboegiddkhfaeTupG
import Derived.Test.YtnhboegiddkhfaeGStL
import Derived.Deep.QuietTactic
namespace Go.Proofs.Ytnhboegiddkhfae
set_option linter.unusedVariables false
set_option linter.unusedSimpArgs false
open Go.RowKit Go.Deep

/-- Steps are done one behind the other. -/
def planDo (l : List PackD) (room : Int) : List Int → List StepD → Option (List Int)
  | set, [] => some set
  | set, s :: ss => match implDo l room set s with
    | none => none
    | some t => planDo l room t ss
/-- What PlanDo answers. -/
def planZ (l : List PackD) (room : Int) (set : List Int) (ss : List StepD) : Option (List Int) := if okZ l room set && decide (ss.length ≤ 300) then planDo l room set ss else none
end Go.Proofs.Ytnhboegiddkhfae

namespace Go.Proofs.Ytnhboegiddkhfae
set_option linter.unusedVariables false
set_option linter.unusedSimpArgs false
open Go.RowKit Go.Deep

end Go.Proofs.Ytnhboegiddkhfae

namespace Go.Proofs.Ytnhboegiddkhfae
set_option linter.unusedVariables false
set_option linter.unusedSimpArgs false
open Go.RowKit Go.Deep

end Go.Proofs.Ytnhboegiddkhfae

namespace Go.Proofs.Ytnhboegiddkhfae
set_option linter.unusedVariables false
set_option linter.unusedSimpArgs false
open Go.RowKit Go.Deep

end Go.Proofs.Ytnhboegiddkhfae
