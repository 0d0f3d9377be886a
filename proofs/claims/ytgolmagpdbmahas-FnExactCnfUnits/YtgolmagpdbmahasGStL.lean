/- Lists of states. Numbers that lie in memory of their own. A row that is nil has no room. -/
import Derived.Test.YtgolmagpdbmahasGBase
import Derived.Test.YtgolmagpdbmahasGStA
import Derived.Test.YtgolmagpdbmahasGStO
import Derived.Test.YtgolmagpdbmahasGImpl
import Derived.Test.YtgolmagpdbmahasGReg
namespace Go.Proofs.Ytgolmagpdbmahas
set_option linter.unusedVariables false
set_option linter.unusedSimpArgs false
open Go.RowKit Go.Deep

def intsOf (l : List Nat) : List Int := l.map fun n : Nat => (n : Int)
theorem intsOf_getD {l : List Nat} {i : Nat} (h : i < l.length) : (intsOf l).getD i 0 = ((l.getD i 0 : Nat) : Int) := by
  simp [intsOf, List.getD, h]
theorem row_base {B B' : Nat} {w : World} {e : TypeId} {sz : Nat} {v : Value} {n : Nat} {xs : List Value} (h : w.ownsRow B e sz v n xs) (hb : B' ≤ B) : w.ownsRow B' e sz v n xs := by
  obtain ⟨h1, h2⟩ := h
  refine ⟨h1, h2.imp id ?_⟩
  rintro ⟨g, cap, cur, hv, hg, r⟩
  exact ⟨g, cap, cur, hv, Nat.le_trans hb hg, r⟩
theorem SetAt.of_row {B : Nat} {w : World} {v : Value} {l : List Nat} (h : w.ownsRow B 3 1 v l.length (natVs l)) (hl : l.length ≤ 1048576) : ∃ a cap, v = .slice a (intsOf l).length cap ∧ SetAt w a (intsOf l) := by
  obtain ⟨a, cap, hv, hc⟩ := PlAt.of_row h
  have e : (intsOf l).length = l.length := by simp [intsOf]
  refine ⟨a, cap, by rw [e]; exact hv, by omega, ?_⟩
  rcases hc with hc | ⟨b, ha, hb, hc⟩
  · left; rw [hc]; rfl
  · right
    refine ⟨b, 0, ha, hb, fun i hi => ?_⟩
    rw [e] at hi
    rw [Nat.zero_add, intsOf_getD hi]
    exact hc i hi
end Go.Proofs.Ytgolmagpdbmahas

namespace Go.Proofs.Ytgolmagpdbmahas
set_option linter.unusedVariables false
set_option linter.unusedSimpArgs false
open Go.RowKit Go.Deep

/-- Numbers that lie in memory of their own. -/
abbrev RowI (B : Nat) (w : World) (v : Value) (l : List Int) : Prop := w.ownsRow B 3 1 v l.length (l.map fun i => .int .i64 i)
theorem RowI.set {B : Nat} {w : World} {v : Value} {l : List Int} (h : RowI B w v l) (hl : l.length ≤ 1048576) : ∃ a cap, v = .slice a l.length cap ∧ SetAt w a l := by
  obtain ⟨h1, h2⟩ := h
  rcases h2 with ⟨hv, h0⟩ | ⟨g, cap, cur, hv, hB, hc, hcap, _, hsz, hx⟩
  · have : l = [] := List.length_eq_zero_iff.1 h0
    subst this
    exact ⟨none, 0, hv, by simp, Or.inl rfl⟩
  · refine ⟨some ⟨g, 0, none⟩, cap, hv, hl, Or.inr ⟨g, 0, rfl, (Array.getElem?_eq_some_iff.1 hc).1, fun i hi => ?_⟩⟩
    have e : cur.toList[i]? = some (.int .i64 (l.getD i 0)) := by
      have : (cur.toList.take (l.length * 1))[i]? = (l.map fun i => Value.int .i64 i)[i]? := by rw [hx]
      rw [List.getElem?_take, if_pos (by omega)] at this
      rw [this]
      simp [List.getD, hi]
    simp only [World.cell?, hc, Nat.zero_add]
    simpa using e

theorem RowI.nil (w : World) : RowI w.heap.size (w.alloc (.cells #[] 3)) (.slice (some ⟨w.heap.size, 0, none⟩) 0 0) [] :=
  ⟨rfl, Or.inr ⟨w.heap.size, 0, #[], rfl, Nat.le_refl _, blk_alloc_new _ _, Nat.zero_le _, Nat.zero_le _, rfl, rfl⟩⟩
end Go.Proofs.Ytgolmagpdbmahas

namespace Go.Proofs.Ytgolmagpdbmahas
set_option linter.unusedVariables false
set_option linter.unusedSimpArgs false
open Go.RowKit Go.Deep

end Go.Proofs.Ytgolmagpdbmahas
