/- A call that answers a state and a bool, in a drawn statement. -/
import Derived.Test.YthkhaemlcmkkjaxGreatGRn
import Derived.Test.YthkhaemlcmkkjaxGreatGReg
import Derived.Test.YthkhaemlcmkkjaxGreatDoO
namespace Go.Proofs.YthkhaemlcmkkjaxGreat
set_option linter.unusedVariables false
set_option linter.unusedSimpArgs false
open Go.RowKit Go.Deep

/-- What the operations of a call that answers a state and a bool leave. -/
def TG (P U LV A S : Value) (k : Int) (B : Nat) (ds : Option (List Int)) (i : Nat) (v : Value) (x : World) : Prop := match i with
  | 0 => v = P
  | 1 => v = U
  | 2 => v = LV
  | 3 => v = .int .i64 k
  | 4 => v = A
  | 5 => v = S
  | 6 => ∃ y, v = .tuple #[y, .bool ds.isSome] ∧ RowI B x y (ds.getD [])
  | 7 => ∃ y, v = .tuple #[y, .bool ds.isSome] ∧ RowI B x y (ds.getD [])
  | 8 => RowI B x v (ds.getD [])
  | 9 => v = .bool ds.isSome
  | 10 => RowI B x v (ds.getD [])
  | _ => True
theorem TG_on {P U LV A S : Value} {k : Int} {B : Nat} {ds : Option (List Int)} {i : Nat} {v : Value} {x y : World} (h : TG P U LV A S k B ds i v x) (hb : Below x.heap.size x y) : TG P U LV A S k B ds i v y := by
  unfold TG at h ⊢
  split at h
  · exact h
  · exact h
  · exact h
  · exact h
  · exact h
  · exact h
  · obtain ⟨z, e, r⟩ := h; exact ⟨z, e, ownsRow_on r hb⟩
  · obtain ⟨z, e, r⟩ := h; exact ⟨z, e, ownsRow_on r hb⟩
  · exact ownsRow_on h hb
  · exact h
  · exact ownsRow_on h hb
  · trivial
end Go.Proofs.YthkhaemlcmkkjaxGreat
