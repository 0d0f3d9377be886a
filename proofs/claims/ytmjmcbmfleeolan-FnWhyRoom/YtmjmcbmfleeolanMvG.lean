/- Whether a move is allowed. -/
import Derived.Test.YtmjmcbmfleeolanGMw
namespace Go.Proofs.Ytmjmcbmfleeolan
set_option linter.unusedVariables false
set_option linter.unusedSimpArgs false
open Go.RowKit Go.Deep

end Go.Proofs.Ytmjmcbmfleeolan
