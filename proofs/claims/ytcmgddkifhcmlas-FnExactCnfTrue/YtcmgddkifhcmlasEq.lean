/- Two that lie apart and hold the same are the same. -/
import Derived.Test.YtcmgddkifhcmlasGBase
import Derived.Deep.QuietTactic
import Derived.BigQuiet
import Derived.Lib.QuietBelow
namespace Go.Proofs.Ytcmgddkifhcmlas
set_option linter.unusedVariables false
set_option linter.unusedSimpArgs false
open Go.RowKit Go.Sort

end Go.Proofs.Ytcmgddkifhcmlas
