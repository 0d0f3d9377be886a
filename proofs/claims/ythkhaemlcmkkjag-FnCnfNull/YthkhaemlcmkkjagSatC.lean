/- What is found with choices enough, and that it is the first model; pure. -/
import Derived.Test.YthkhaemlcmkkjagSatP
import Derived.Test.YthkhaemlcmkkjagSatL
namespace Go.Proofs.Ythkhaemlcmkkjag
set_option linter.unusedVariables false
set_option linter.unusedSimpArgs false

theorem sat_code {vars most : Int} {cs : List (List Int)} {n : Nat} (hn : vars = n) (hok : cnfB vars cs = true) (hm0 : 0 ≤ most) (hm1 : most ≤ 3000) : satZ vars cs most = (findZ cs n most.toNat 401 [] 0).fin := by
  have hin : (cnfB vars cs && inB most 0 3000) = true := by
    rw [hok, Bool.true_and]
    simp only [inB, Bool.and_eq_true, decide_eq_true_eq]
    omega
  rw [satZ_find hin, hn, Int.toNat_natCast]
end Go.Proofs.Ythkhaemlcmkkjag
