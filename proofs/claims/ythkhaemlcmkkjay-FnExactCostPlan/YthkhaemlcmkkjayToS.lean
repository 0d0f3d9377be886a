/- The laws' toStep, and calls of StepDo in drawn statements. -/
import Derived.Test.YthkhaemlcmkkjayGTo
import Derived.Test.YthkhaemlcmkkjayGSp
import Derived.Test.YthkhaemlcmkkjayGSpec
import Derived.Test.YthkhaemlcmkkjayGBase
import Derived.Deep.QuietTactic
import Derived.BigQuiet
import Derived.Test.YthkhaemlcmkkjayGReg
import Derived.Test.YthkhaemlcmkkjayGGrow
namespace Go.Proofs.Ythkhaemlcmkkjay
set_option linter.unusedVariables false
set_option linter.unusedSimpArgs false
open Go.RowKit Go.Deep

set_option maxHeartbeats 1000000 in
theorem toStep_any (s : StepD) (w : World) :
    Calls Try.prog 19 #[.agg #[.int .i64 s.kind, .int .i64 s.inn, .int .i64 s.out]] w fun e w' => e = .returned (.agg #[.int .i64 s.kind, .int .i64 s.inn, .int .i64 s.out]) ∧ Below w.heap.size w w' := by
  go_enter Try.func19, Try.ntmps19
  go_wp2_with fail
  exact bodyPost_ret (v := .agg #[.int .i64 s.kind, .int .i64 s.inn, .int .i64 s.out]) (by simp [results, Try.results19, go_sem]) rfl ⟨rfl, by first | exact (((Below.refl _ _).alloc (Nat.le_refl _) _).alloc (by simp) _).alloc (by simp; omega) _ | exact ((Below.refl _ _).alloc (Nat.le_refl _) _).alloc (by simp) _⟩
end Go.Proofs.Ythkhaemlcmkkjay
