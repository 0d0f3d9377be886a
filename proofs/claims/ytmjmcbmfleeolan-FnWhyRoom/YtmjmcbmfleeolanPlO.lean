/- PlanOk of both sides. -/
import Derived.Test.YtmjmcbmfleeolanImP
import Derived.Test.YtmjmcbmfleeolanSpQ
import Derived.Deep.QuietTactic
namespace Go.Proofs.Ytmjmcbmfleeolan
set_option linter.unusedVariables false
set_option linter.unusedSimpArgs false
open Go.RowKit Go.Deep

theorem ints_same {l m : List Int} (h : l.length = m.length) (ha : ∀ i, i < l.length → l.getD i 0 = m.getD i 0) : l = m := by
  apply List.ext_getElem h
  intro i h1 h2
  have := ha i h1
  simpa [List.getD, h1, h2] using this
/-- What PlanOk answers. -/
def planOkZ (l : List PackD) (room : Int) (set too : List Int) (ss : List StepD) : Bool := match planZ l room set ss with
  | none => false
  | some t => decide (t = too)
theorem planZ_len {l : List PackD} {room : Int} {set : List Int} {ss : List StepD} : ((planZ l room set ss).getD []).length ≤ 8 := by
  unfold planZ
  split
  · rename_i hc
    rw [Bool.and_eq_true] at hc
    cases hi : planDo l room set ss with
    | none => simp
    | some t => simpa using ok_len8 (plan_ok hc.1 hi)
  · simp

end Go.Proofs.Ytmjmcbmfleeolan
