/- Clauses that came in, opened. -/
import Derived.Test.YthkhaemlcmkkjatOpenI
import Derived.Test.YthkhaemlcmkkjatGCn
namespace Go.Proofs.Ythkhaemlcmkkjat
set_option linter.unusedVariables false
set_option linter.unusedSimpArgs false
open Go.RowKit Go.Deep Go.ChangeShapes Go.WideShapes
theorem Try.cellsIntsL : Try.prog.cellsOf 41 = 1 := by kernel_rfl
theorem Try.cellsLCnf : Try.prog.cellsOf 24 = 2 := by kernel_rfl
section
variable {H : Type} {enc : TypeId × Value → H} {W : World} {base : Nat} {spare : Nat → Bool} {held : Bool}
theorem open_cls {n : Nat} {v : Value} {x : DataW H × List MemPlace} (h : DataW.trod enc Try.prog W base spare held n 22 [v] = some x) : ∃ (a : Option Addr) (l : List (List Int)) (cap : Nat), v = .slice a l.length cap ∧ ClsRaw W a l := by
  rcases open_slice Try.underlying22 h with ⟨hcs, _⟩ | ⟨a, len, cap, m, n', D, Pl, hcs, _, hl, hm, hmm, _, hel⟩
  · simp at hcs
    exact ⟨none, [], 0, by simpa using hcs, by simp, Or.inl rfl⟩
  · simp at hcs
    rw [Try.cellsIntsL] at hel
    by_cases h0 : len = 0
    · subst h0
      exact ⟨some a, [], cap, by simpa using hcs, by simp, Or.inl rfl⟩
    · have hlm : len ≤ m := by rw [hmm]; split <;> omega
      obtain ⟨cs0, hc0, _⟩ := hel 0 (by omega)
      obtain ⟨b, o, ha, hb⟩ := plain_of (len := len) (by omega) hc0
      obtain ⟨l, hll, hq⟩ := list_of (p := fun i (r : List Int) => ∃ a' c, W.cell? ⟨b, o + i, none⟩ = some (.slice a' r.length c) ∧ IntsRaw W a' r) [] (fun i (hi : i < len) => by
        obtain ⟨cs, hc, ht⟩ := hel i (by omega)
        obtain ⟨hcl, hcell⟩ := cells_at (e := 0) hi ha hc
        match cs, hcl with
        | [u], _ =>
          obtain ⟨a', r, c, hu, hr1, hr2⟩ := open_ints ht
          subst hu
          exact ⟨r, a', c, by simpa using hcell 0 (by omega), hr1, hr2⟩)
      subst hll
      exact ⟨some a, l, cap, hcs, by omega, Or.inr ⟨b, o, by rw [ha], hb, hq⟩⟩
end
end Go.Proofs.Ythkhaemlcmkkjat
