/- Whether a move is allowed. -/
import Derived.Test.YtmjmcbmfleeolaoGMw
namespace Go.Proofs.Ytmjmcbmfleeolao
set_option linter.unusedVariables false
set_option linter.unusedSimpArgs false
open Go.RowKit Go.Deep

end Go.Proofs.Ytmjmcbmfleeolao
