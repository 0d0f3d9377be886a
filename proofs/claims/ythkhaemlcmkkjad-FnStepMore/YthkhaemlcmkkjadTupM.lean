/- A call behind a call, that answers a state and a bool, in a drawn statement. -/
import Derived.Test.YthkhaemlcmkkjadGRn
import Derived.Test.YthkhaemlcmkkjadGReg
import Derived.Test.YthkhaemlcmkkjadGIm
namespace Go.Proofs.Ythkhaemlcmkkjad
set_option linter.unusedVariables false
set_option linter.unusedSimpArgs false
open Go.RowKit Go.Deep

def TM (P A1 : Value) (n2 more : Int) (P2 U S : Value) (B : Nat) (ds : Option (List Int)) (i : Nat) (v : Value) (x : World) : Prop := match i with
  | 0 => v = P
  | 1 => v = A1
  | 2 => v = .int .i64 n2
  | 3 => v = .int .i64 more
  | 4 => v = P2
  | 5 => v = U
  | 6 => v = S
  | 7 => ∃ y, v = .tuple #[y, .bool ds.isSome] ∧ RowI B x y (ds.getD [])
  | 8 => ∃ y, v = .tuple #[y, .bool ds.isSome] ∧ RowI B x y (ds.getD [])
  | 9 => RowI B x v (ds.getD [])
  | 10 => v = .bool ds.isSome
  | 11 => RowI B x v (ds.getD [])
  | _ => True
theorem TM_on {P A1 : Value} {n2 more : Int} {P2 U S : Value} {B : Nat} {ds : Option (List Int)} {i : Nat} {v : Value} {x y : World} (h : TM P A1 n2 more P2 U S B ds i v x) (hb : Below x.heap.size x y) : TM P A1 n2 more P2 U S B ds i v y := by
  unfold TM at h ⊢
  split at h
  · exact h
  · exact h
  · exact h
  · exact h
  · exact h
  · exact h
  · exact h
  · obtain ⟨z, e, r⟩ := h; exact ⟨z, e, ownsRow_on r hb⟩
  · obtain ⟨z, e, r⟩ := h; exact ⟨z, e, ownsRow_on r hb⟩
  · exact ownsRow_on h hb
  · exact h
  · exact ownsRow_on h hb
  · trivial
end Go.Proofs.Ythkhaemlcmkkjad
