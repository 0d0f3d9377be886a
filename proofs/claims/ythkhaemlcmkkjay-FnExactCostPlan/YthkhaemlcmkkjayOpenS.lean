/- A []Step argument. -/
import Derived.Test.YthkhaemlcmkkjayOpen
import Derived.Test.YthkhaemlcmkkjayGPd
namespace Go.Proofs.Ythkhaemlcmkkjay
set_option linter.unusedVariables false
set_option linter.unusedSimpArgs false
set_option maxRecDepth 10000
open Go.RowKit Go.Deep Go.ChangeShapes Go.WideShapes

section
variable {H : Type} {enc : TypeId × Value → H} {W : World} {base : Nat} {spare : Nat → Bool} {held : Bool}
theorem Try.cellsLStep : Try.prog.cellsOf 42 = 3 := by kernel_rfl
theorem open_step {n : Nat} {cs : List Value} {x : DataW H × List MemPlace} (h : DataW.trod enc Try.prog W base spare held n 42 cs = some x) : ∃ s : StepD, cs = [.int .i64 s.kind, .int .i64 s.inn, .int .i64 s.out] := by
  obtain ⟨xs, m, _, _, hl, hxl, hf⟩ := DataW.trod_struct Try.underlying42 h
  rw [Try.cellsLStep] at hl
  match cs, hl with
  | [v0, v1, v2], _ =>
    match xs, hxl with
    | [x0, x1, x2], _ =>
    have f0 := hf 0 _ rfl
    have f1 := hf 1 _ rfl
    have f2 := hf 2 _ rfl
    simp [Try.cellsInt] at f0 f1 f2
    obtain ⟨s0, e0, _, _⟩ := DataW.trod_int Try.underlying3 f0
    obtain ⟨s1, e1, _, _⟩ := DataW.trod_int Try.underlying3 f1
    obtain ⟨s2, e2, _, _⟩ := DataW.trod_int Try.underlying3 f2
    simp at e0 e1 e2
    subst e0 e1 e2
    exact ⟨⟨s0, s1, s2⟩, rfl⟩
theorem open_steps {n : Nat} {v : Value} {x : DataW H × List MemPlace} (h : DataW.trod enc Try.prog W base spare held n 47 [v] = some x) : ∃ (a : Option Addr) (l : List StepD) (cap : Nat), v = .slice a l.length cap ∧ l.length ≤ maxLen ∧ (l = [] ∨ ∃ b o, a = some ⟨b, o, none⟩ ∧ b < W.heap.size ∧ ∀ i, i < l.length → W.cell? ⟨b, o + i * 3, none⟩ = some (.int .i64 (l.getD i dStep).kind) ∧ W.cell? ⟨b, o + i * 3 + 1, none⟩ = some (.int .i64 (l.getD i dStep).inn) ∧ W.cell? ⟨b, o + i * 3 + 2, none⟩ = some (.int .i64 (l.getD i dStep).out)) := by
  rcases open_slice Try.underlying47 h with ⟨hcs, _⟩ | ⟨a, len, cap, m, n', D, Pl, hcs, _, hl, hm, hmm, _, hel⟩
  · simp at hcs
    exact ⟨none, [], 0, by simpa using hcs, by simp, Or.inl rfl⟩
  · simp at hcs
    rw [Try.cellsLStep] at hel
    by_cases h0 : len = 0
    · subst h0
      exact ⟨some a, [], cap, by simpa using hcs, by simp, Or.inl rfl⟩
    · have hlm : len ≤ m := by rw [hmm]; split <;> omega
      obtain ⟨cs0, hc0, _⟩ := hel 0 (by omega)
      obtain ⟨b, o, ha, hb⟩ := plain_of (len := len) (by omega) hc0
      obtain ⟨l, hll, hq⟩ := list_of (p := fun i (q : StepD) => W.cell? ⟨b, o + i * 3, none⟩ = some (.int .i64 q.kind) ∧ W.cell? ⟨b, o + i * 3 + 1, none⟩ = some (.int .i64 q.inn) ∧ W.cell? ⟨b, o + i * 3 + 2, none⟩ = some (.int .i64 q.out)) dStep (fun i (hi : i < len) => by
        obtain ⟨cs, hc, ht⟩ := hel i (by omega)
        obtain ⟨q, hqe⟩ := open_step ht
        obtain ⟨_, hcell⟩ := cells_at (e := 0) hi ha hc
        subst hqe
        exact ⟨q, by simpa using hcell 0 (by omega), by simpa using hcell 1 (by omega), by simpa using hcell 2 (by omega)⟩)
      subst hll
      exact ⟨some a, l, cap, hcs, by omega, Or.inr ⟨b, o, by rw [ha], hb, hq⟩⟩
end
end Go.Proofs.Ythkhaemlcmkkjay
