/- Packs that came in, opened: what they hold, and how they lie in memory. -/
import Derived.Test.YthkhaemlcmkkjatGBase
import Derived.ProofKit
import Derived.OpenShut
import Derived.ChangeOld
import Derived.Deep.Slices
import Derived.Deep.Fields
import Derived.Deep.Strs
import Derived.Lib.SmallJoins
namespace Go.Proofs.Ythkhaemlcmkkjat
set_option linter.unusedVariables false
set_option linter.unusedSimpArgs false
set_option maxRecDepth 10000
open Go.RowKit Go.Deep Go.ChangeShapes Go.WideShapes

theorem list_of {α : Type} {n : Nat} {p : Nat → α → Prop} (d : α) (h : ∀ i, i < n → ∃ x, p i x) : ∃ l : List α, l.length = n ∧ ∀ i, i < n → p i (l.getD i d) := by
  obtain ⟨f, hf⟩ := @choose_lt α ⟨d⟩ n p h
  refine ⟨(List.range n).map f, by simp, fun i hi => ?_⟩
  have : ((List.range n).map f).getD i d = f i := by simp [List.getD, hi]
  rw [this]
  exact hf i hi

theorem Try.cellsInt : Try.prog.cellsOf 3 = 1 := by kernel_rfl
section
variable {H : Type} {enc : TypeId × Value → H} {W : World} {base : Nat} {spare : Nat → Bool} {held : Bool}

/-- The cells of an element: where they lie, as the walk spells it. -/
theorem cells_at {a : Addr} {len e c : Nat} {i : Nat} {cs : List Value} (hi : i < len) {b o : Nat} (ha : a = ⟨b, o, none⟩) (h : W.cells? base (a.add (i * c)) c = some cs) : cs.length = c ∧ ∀ j, j < c → W.cell? ⟨b, o + i * c + j, none⟩ = cs[j]? := by
  obtain ⟨_, hl, hc⟩ := World.cells?_some h
  refine ⟨hl, fun j hj => ?_⟩
  have := hc j hj
  rw [add_add, ha, add_plain] at this
  rw [← this, Nat.add_assoc]

theorem plain_of {a : Addr} {c len : Nat} {cs : List Value} (hc : 0 < c) (h : W.cells? base (a.add (0 * c)) c = some cs) : ∃ b o, a = ⟨b, o, none⟩ ∧ b < W.heap.size := by
  obtain ⟨_, hl, hcell⟩ := World.cells?_some h
  have h0 := hcell 0 hc
  rw [List.getElem?_eq_getElem (by omega)] at h0
  obtain ⟨b, o, sp⟩ := a
  have hs : sp = none := by simpa [Addr.add] using World.cell?_spot h0
  subst hs
  have := block_lt_of_cell h0
  simp [Addr.add] at this
  exact ⟨b, o, rfl, this⟩

end
end Go.Proofs.Ythkhaemlcmkkjat
