/- Numbers that came in, opened. -/
import Derived.Test.YthkhaemlcmkkjaxGreatOpen
namespace Go.Proofs.YthkhaemlcmkkjaxGreat
set_option linter.unusedVariables false
set_option linter.unusedSimpArgs false
open Go.RowKit Go.Deep Go.ChangeShapes Go.WideShapes
section
variable {H : Type} {enc : TypeId × Value → H} {W : World} {base : Nat} {spare : Nat → Bool} {held : Bool}
theorem open_ints {n : Nat} {v : Value} {x : DataW H × List MemPlace} (h : DataW.trod enc Tryz.prog W base spare held n 25 [v] = some x) : ∃ (a : Option Addr) (l : List Int) (cap : Nat), v = .slice a l.length cap ∧ l.length ≤ maxLen ∧ (l = [] ∨ ∃ b o, a = some ⟨b, o, none⟩ ∧ b < W.heap.size ∧ ∀ i, i < l.length → W.cell? ⟨b, o + i, none⟩ = some (.int .i64 (l.getD i 0))) := by
  rcases open_slice Tryz.underlying25 h with ⟨hcs, _⟩ | ⟨a, len, cap, m, n', D, Pl, hcs, _, hl, hm, hmm, _, hel⟩
  · simp at hcs
    exact ⟨none, [], 0, hcs, Nat.zero_le _, Or.inl rfl⟩
  · simp at hcs
    rw [Tryz.cellsInt] at hel
    by_cases h0 : len = 0
    · subst h0
      exact ⟨some a, [], cap, hcs, Nat.zero_le _, Or.inl rfl⟩
    · have hlm : len ≤ m := by rw [hmm]; split <;> omega
      obtain ⟨cs0, hc0, _⟩ := hel 0 (by omega)
      obtain ⟨b, o, rfl, hb⟩ := plain_of (len := len) (by omega) hc0
      have hex : ∀ i, i < len → ∃ z : Int, W.cell? ⟨b, o + i, none⟩ = some (.int .i64 z) := fun i hi => by
        obtain ⟨cs, hc, ht⟩ := hel i (by omega)
        obtain ⟨z, he, _, _⟩ := DataW.trod_int Tryz.underlying3 ht
        subst he
        obtain ⟨_, _, hcell⟩ := World.cells?_some hc
        have := hcell 0 (by omega)
        rw [add_add, add_plain] at this
        exact ⟨z, by simpa using this⟩
      obtain ⟨l, hll, hlc⟩ := list_of (0 : Int) hex
      refine ⟨some ⟨b, o, none⟩, l, cap, by rw [hll]; exact hcs, by omega, Or.inr ⟨b, o, rfl, hb, fun i hi => hlc i (by omega)⟩⟩
end
end Go.Proofs.YthkhaemlcmkkjaxGreat
