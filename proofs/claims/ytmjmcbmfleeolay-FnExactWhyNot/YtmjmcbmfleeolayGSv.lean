/- The program's test of all places, and of all sets of bits. The program's health of a state. The program's health of a state, all of it. -/
import Derived.Test.YtmjmcbmfleeolayGForm
import Derived.Test.YtmjmcbmfleeolayGImpl
import Derived.Test.YtmjmcbmfleeolayGReg
namespace Go.Proofs.Ytmjmcbmfleeolay
set_option linter.unusedVariables false
set_option linter.unusedSimpArgs false
open Go.RowKit Go.Deep

/-- What a function value answers of the places ns, from the world w0 on. -/
def Asked (w0 : World) (fid : FuncId) (c1 c2 : Value) (f : Nat → Bool) (ns : List Nat) : Prop := ∀ W, Below w0.heap.size w0 W → ∀ p ∈ ns, Calls Try.prog fid #[.int .i64 (p : Int), c1, c2] W fun e w' => e = .returned (.bool (f p)) ∧ Below W.heap.size W w'

end Go.Proofs.Ytmjmcbmfleeolay

namespace Go.Proofs.Ytmjmcbmfleeolay
set_option linter.unusedVariables false
set_option linter.unusedSimpArgs false
open Go.RowKit Go.Deep

end Go.Proofs.Ytmjmcbmfleeolay

namespace Go.Proofs.Ytmjmcbmfleeolay
set_option linter.unusedVariables false
set_option linter.unusedSimpArgs false
open Go.RowKit Go.Deep

/-- All along the statement that answers health. -/
structure C7 (W : World) (on : Bool) (ps : List Nat) (b : Bool) (us : List Value) (x : World) : Prop where
  below : Below W.heap.size W x
  list : ∀ y, us = [y] → on = true → PlAt x y ps
theorem C7.on {W : World} {on : Bool} {ps : List Nat} {b b' : Bool} {us : List Value} {x y : World} (h : C7 W on ps b us x) (hb : Below x.heap.size x y) : C7 W on ps b' us y :=
  ⟨h.below.trans (hb.mono h.below.size), fun z hz ho => (h.list z hz ho).on hb⟩

end Go.Proofs.Ytmjmcbmfleeolay
