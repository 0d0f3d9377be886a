/- The specification's PlanDo. -/
import Derived.Test.YtmjmcbmfleeolanGSp
import Derived.Test.YtmjmcbmfleeolanPlP
import Derived.Test.YtmjmcbmfleeolanTupG
import Derived.Test.YtmjmcbmfleeolanGStL
namespace Go.Proofs.Ytmjmcbmfleeolan
set_option linter.unusedVariables false
set_option linter.unusedSimpArgs false
open Go.RowKit Go.Deep

end Go.Proofs.Ytmjmcbmfleeolan
