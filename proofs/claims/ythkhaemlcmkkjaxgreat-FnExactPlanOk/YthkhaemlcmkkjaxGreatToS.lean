/- The laws' toStep, and calls of StepDo in drawn statements. -/
import Derived.Test.YthkhaemlcmkkjaxGreatToD
import Derived.Test.YthkhaemlcmkkjaxGreatToI
import Derived.Test.YthkhaemlcmkkjaxGreatGSp
import Derived.Test.YthkhaemlcmkkjaxGreatGRn
import Derived.Test.YthkhaemlcmkkjaxGreatGReg
namespace Go.Proofs.YthkhaemlcmkkjaxGreat
set_option linter.unusedVariables false
set_option linter.unusedSimpArgs false
open Go.RowKit Go.Deep

set_option maxHeartbeats 1000000 in
theorem toStep_any (s : StepD) (w : World) :
    Calls Tryz.prog 11 #[.agg #[.int .i64 s.kind, .int .i64 s.inn, .int .i64 s.out]] w fun e w' => e = .returned (.agg #[.int .i64 s.kind, .int .i64 s.inn, .int .i64 s.out]) ∧ Below w.heap.size w w' := by
  go_enter Tryz.func11, Tryz.ntmps11
  go_wp2_with fail
  exact bodyPost_ret (v := .agg #[.int .i64 s.kind, .int .i64 s.inn, .int .i64 s.out]) (by simp [results, Tryz.results11, go_sem]) rfl ⟨rfl, by first | exact (((Below.refl _ _).alloc (Nat.le_refl _) _).alloc (by simp) _).alloc (by simp; omega) _ | exact ((Below.refl _ _).alloc (Nat.le_refl _) _).alloc (by simp) _⟩
/-- StepDo of copies: what the operations leave. -/
def TX (P0 U0 S0 : Value) (l : List PackD) (room : Int) (set : List Int) (B : Nat) (ds : Option (List Int)) (i : Nat) (v : Value) (x : World) : Prop := match i with
  | 0 => v = P0
  | 1 => ∃ g : Nat, v = .agg #[.slice (some ⟨g, 0, none⟩) l.length l.length, .int .i64 room] ∧ PacksAt (Old x) x (some ⟨g, 0, none⟩) l ∧ CapsAt x (some ⟨g, 0, none⟩) l
  | 2 => v = U0
  | 3 => ∃ g : Nat, v = .slice (some ⟨g, 0, none⟩) set.length set.length ∧ SetAt x (some ⟨g, 0, none⟩) set
  | 4 => v = S0
  | 5 => v = S0
  | 6 => ∃ y, v = .tuple #[y, .bool ds.isSome] ∧ RowI B x y (ds.getD [])
  | 7 => ∃ y, v = .tuple #[y, .bool ds.isSome] ∧ RowI B x y (ds.getD [])
  | 8 => RowI B x v (ds.getD [])
  | 9 => v = .bool ds.isSome
  | 10 => RowI B x v (ds.getD [])
  | _ => True
theorem TX_on {P0 U0 S0 : Value} {l : List PackD} {room : Int} {set : List Int} {B : Nat} {ds : Option (List Int)} {i : Nat} {v : Value} {x y : World} (h : TX P0 U0 S0 l room set B ds i v x) (hb : Below x.heap.size x y) : TX P0 U0 S0 l room set B ds i v y := by
  unfold TX at h ⊢
  split at h
  · exact h
  · obtain ⟨g, e, h1, h2⟩ := h; exact ⟨g, e, h1.on hb, h2.on hb⟩
  · exact h
  · obtain ⟨g, e, h1⟩ := h; exact ⟨g, e, h1.on hb⟩
  · exact h
  · exact h
  · obtain ⟨z, e, r⟩ := h; exact ⟨z, e, ownsRow_on r hb⟩
  · obtain ⟨z, e, r⟩ := h; exact ⟨z, e, ownsRow_on r hb⟩
  · exact ownsRow_on h hb
  · exact h
  · exact ownsRow_on h hb
  · trivial
/-- StepDo of what is kept: what the operations leave. -/
def TY (P0 U0 S0 : Value) (B : Nat) (ds : Option (List Int)) (i : Nat) (v : Value) (x : World) : Prop := match i with
  | 0 => v = P0
  | 1 => v = U0
  | 2 => v = S0
  | 3 => v = S0
  | 4 => ∃ y, v = .tuple #[y, .bool ds.isSome] ∧ RowI B x y (ds.getD [])
  | 5 => ∃ y, v = .tuple #[y, .bool ds.isSome] ∧ RowI B x y (ds.getD [])
  | 6 => RowI B x v (ds.getD [])
  | 7 => v = .bool ds.isSome
  | 8 => RowI B x v (ds.getD [])
  | _ => True
theorem TY_on {P0 U0 S0 : Value} {B : Nat} {ds : Option (List Int)} {i : Nat} {v : Value} {x y : World} (h : TY P0 U0 S0 B ds i v x) (hb : Below x.heap.size x y) : TY P0 U0 S0 B ds i v y := by
  unfold TY at h ⊢
  split at h
  · exact h
  · exact h
  · exact h
  · exact h
  · obtain ⟨z, e, r⟩ := h; exact ⟨z, e, ownsRow_on r hb⟩
  · obtain ⟨z, e, r⟩ := h; exact ⟨z, e, ownsRow_on r hb⟩
  · exact ownsRow_on h hb
  · exact h
  · exact ownsRow_on h hb
  · trivial
end Go.Proofs.YthkhaemlcmkkjaxGreat
