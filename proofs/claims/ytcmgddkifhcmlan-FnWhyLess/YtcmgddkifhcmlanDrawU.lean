/- DrawStateSize: the drawn packs and a drawn state. -/
import Derived.Test.YtcmgddkifhcmlanGDrawS
namespace Go.Proofs.Ytcmgddkifhcmlan
set_option linter.unusedVariables false
set_option linter.unusedSimpArgs false
open Go.RowKit Go.Deep

/-- The class of worlds: ahead of l71Set nothing that was there is written; behind it the reader alone. -/
structure CU (W : World) (B rb : Nat) (m : Int) (b : Bool) (us : List Value) (x : World) : Prop where
  ahead : us = [] → Below W.heap.size W x
  wrote : Wrote B isRd W x
  row : ∀ y, us = [y] → ∃ s, RowI 0 x y s ∧ s.length ≤ 200002
theorem CU.flag {W : World} {B rb : Nat} {m : Int} {b b' : Bool} {us : List Value} {x : World} (h : CU W B rb m b us x) : CU W B rb m b' us x := ⟨h.ahead, h.wrote, h.row⟩

end Go.Proofs.Ytcmgddkifhcmlan
