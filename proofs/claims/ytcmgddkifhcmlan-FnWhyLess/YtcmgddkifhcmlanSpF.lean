/- The specification's StepFrom. -/
import Derived.Test.YtcmgddkifhcmlanGSp
import Derived.Test.YtcmgddkifhcmlanGPd
import Derived.Test.YtcmgddkifhcmlanGRn
import Derived.Test.YtcmgddkifhcmlanGReg
namespace Go.Proofs.Ytcmgddkifhcmlan
set_option linter.unusedVariables false
set_option linter.unusedSimpArgs false
open Go.RowKit Go.Deep

theorem filter_take_succ {α : Type} (f : α → Bool) (d : α) (L : List α) {k : Nat} (h : k < L.length) : (L.take (k + 1)).filter f = (L.take k).filter f ++ (if f (L.getD k d) then [L.getD k d] else []) := by
  rw [List.take_succ_eq_append_getElem h, List.filter_append]
  have e : L.getD k d = L[k] := by simp [List.getD, h]
  rw [e]
  congr 1
  cases hf : f L[k] <;> simp [hf]
theorem stepVs_snoc (ss : List StepD) (s : StepD) : stepVs (ss ++ [s]) = stepVs ss ++ stepVs [s] := by simp [stepVs]

/-- What the operations of a call that answers two leave. -/
def TF (P U LV A S : Value) (k : Int) (b : Bool) (i : Nat) (v : Value) : Prop := match i with
  | 0 => v = P
  | 1 => v = U
  | 2 => v = LV
  | 3 => v = .int .i64 k
  | 4 => v = A
  | 5 => v = S
  | 6 => ∃ x, v = .tuple #[x, .bool b]
  | 7 => ∃ x, v = .tuple #[x, .bool b]
  | 9 => v = .bool b
  | _ => True

end Go.Proofs.Ytcmgddkifhcmlan
