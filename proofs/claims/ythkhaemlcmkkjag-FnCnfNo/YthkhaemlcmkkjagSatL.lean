/- Models and refutations compared by the laws; what a search answers is small. -/
import Derived.Test.YthkhaemlcmkkjagGUp
import Derived.Test.YthkhaemlcmkkjagGCn
import Derived.Test.YthkhaemlcmkkjagFSat
import Derived.Test.YthkhaemlcmkkjagGSu
import Derived.Test.YthkhaemlcmkkjagGFu
import Derived.Test.YthkhaemlcmkkjagGDcn
import Derived.Maps.AppendAt
import Derived.Test.YthkhaemlcmkkjagGFs
import Derived.Laws.AppendOwnNone
import Derived.Test.YthkhaemlcmkkjagGStL
import Derived.Deep.QuietTactic
import Derived.Test.YthkhaemlcmkkjagGReg
import Derived.Test.YthkhaemlcmkkjagGStA
import Derived.Test.YthkhaemlcmkkjagGStO
import Derived.Test.YthkhaemlcmkkjagGImpl
namespace Go.Proofs.Ythkhaemlcmkkjag
set_option linter.unusedVariables false
set_option linter.unusedSimpArgs false
open Go.RowKit Go.Deep

theorem satZ_find {vars most : Int} {cs : List (List Int)} (h : (cnfB vars cs && inB most 0 3000) = true) : satZ vars cs most = (findZ cs vars.toNat most.toNat 401 [] 0).fin := by
  unfold satZ
  rw [if_pos h, top_nil]
end Go.Proofs.Ythkhaemlcmkkjag
