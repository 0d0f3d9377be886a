/- The specification's PlanDo. -/
import Derived.Test.YtmjmcbmfleeolaoGSp
import Derived.Test.YtmjmcbmfleeolaoPlP
import Derived.Test.YtmjmcbmfleeolaoTupG
import Derived.Test.YtmjmcbmfleeolaoGStL
namespace Go.Proofs.Ytmjmcbmfleeolao
set_option linter.unusedVariables false
set_option linter.unusedSimpArgs false
open Go.RowKit Go.Deep

end Go.Proofs.Ytmjmcbmfleeolao
