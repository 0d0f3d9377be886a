/- Moves in memory. Whether what comes in has what must be there ahead. Whether a move is allowed: what that is. -/
import Derived.Test.YtcmgddkifhcmlanGMv
import Derived.Test.YtcmgddkifhcmlanGStL
namespace Go.Proofs.Ytcmgddkifhcmlan
set_option linter.unusedVariables false
set_option linter.unusedSimpArgs false
open Go.RowKit Go.Deep

theorem ok_small {l : List PackD} {room : Int} (h : repoB ⟨l, room⟩ = true) : ∀ i, i < l.length → (l.getD i dPack).deps.length ≤ 4 ∧ (l.getD i dPack).pres.length ≤ 4 := fun i hi => by
  simp only [repoB, Bool.and_eq_true, decide_eq_true_eq] at h
  have := List.all_eq_true.1 h.1.2 _ (getD_mem (d := dPack) hi)
  simp only [packB, reqsB, Bool.and_eq_true, decide_eq_true_eq] at this
  exact ⟨this.1.1.1.2, this.1.2.1⟩
end Go.Proofs.Ytcmgddkifhcmlan

namespace Go.Proofs.Ytcmgddkifhcmlan
set_option linter.unusedVariables false
set_option linter.unusedSimpArgs false
open Go.RowKit Go.Deep

def prepB (l : List PackD) (kept p : Nat) : Bool := ((l.getD p dPack).pres.map (preN l)).all (meetB kept)
def preparedB (l : List PackD) (kept coming : Nat) : Bool := (placesTo coming 8).all (prepB l kept)

structure CZ (W : World) (b : Bool) (us : List Value) (x : World) : Prop where
  below : Below W.heap.size W x
theorem CZ.on {W : World} {b b' : Bool} {us : List Value} {x y : World} (h : CZ W b us x) (hb : Below x.heap.size x y) : CZ W b' us y := ⟨h.below.trans (hb.mono h.below.size)⟩

end Go.Proofs.Ytcmgddkifhcmlan

namespace Go.Proofs.Ytcmgddkifhcmlan
set_option linter.unusedVariables false
set_option linter.unusedSimpArgs false
open Go.RowKit Go.Deep

/-- A move is of packs that are there. -/
def MvD.within (m : MvD) (n : Nat) : Prop := match m with
  | .put i => i < n
  | .take o => o < n
  | .swap i o => i < n ∧ o < n
theorem within_fine {m : MvD} {n : Nat} (h : m.within n) (hn : n ≤ 8) : m.fine := by
  cases m with
  | put i => exact Nat.lt_of_lt_of_le h (by omega)
  | take o => exact Nat.lt_of_lt_of_le h (by omega)
  | swap i o => exact ⟨Nat.lt_of_lt_of_le h.1 (by omega), Nat.lt_of_lt_of_le h.2 (by omega)⟩
theorem comes_place {m : MvD} {n : Nat} (h : m.within n) : ∀ p ∈ placesTo m.comes 8, p < n := fun p hp => by
  have hb := ((mem_places _ _ _).1 hp).2
  cases m with
  | put i =>
    rw [show (MvD.put i).comes = 2 ^ i from rfl, Nat.testBit_two_pow] at hb
    simp at hb
    rw [← hb]; exact h
  | take o =>
    rw [show (MvD.take o).comes = 0 from rfl, Nat.zero_testBit] at hb
    cases hb
  | swap i o =>
    rw [show (MvD.swap i o).comes = 2 ^ i from rfl, Nat.testBit_two_pow] at hb
    simp at hb
    rw [← hb]; exact h.1
theorem behind_place {m : MvD} {n s : Nat} (h : m.within n) (hs : ∀ p ∈ placesTo s 8, p < n) : ∀ p ∈ placesTo (behindN s m) 8, p < n := fun p hp => by
  obtain ⟨h8, hb⟩ := (mem_places _ _ _).1 hp
  unfold behindN outN at hb
  rw [Nat.testBit_or, Nat.testBit_and, Bool.or_eq_true, Bool.and_eq_true] at hb
  rcases hb with hb | hb
  · exact hs p ((mem_places _ _ _).2 ⟨h8, hb.1⟩)
  · exact comes_place h p ((mem_places _ _ _).2 ⟨h8, hb⟩)
def allowsB (l : List PackD) (room : Int) (s : Nat) (m : MvD) : Bool :=
  decide (s &&& m.goes = m.goes) && !meetB s m.comes && preparedB l (outN s m.goes) m.comes && decide (bitSize l s + bitSize l m.comes ≤ room) && healthB l room (behindN s m)
end Go.Proofs.Ytcmgddkifhcmlan
