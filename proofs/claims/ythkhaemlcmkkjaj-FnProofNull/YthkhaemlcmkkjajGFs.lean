/- A search in memory: its choices and its refutation beside what is known; the program's choose, takeBack. The program's takeBack, turn. Behind choices that cannot be the last one is made the other way: the program's turn. -/
import Derived.Test.YthkhaemlcmkkjajGFu
import Derived.Test.YthkhaemlcmkkjajGDcn
import Derived.BigRegion
namespace Go.Proofs.Ythkhaemlcmkkjaj
set_option linter.unusedVariables false
set_option linter.unusedSimpArgs false
open Go.RowKit Go.Deep

end Go.Proofs.Ythkhaemlcmkkjaj

namespace Go.Proofs.Ythkhaemlcmkkjaj
set_option linter.unusedVariables false
set_option linter.unusedSimpArgs false
open Go.RowKit Go.Deep

end Go.Proofs.Ythkhaemlcmkkjaj

namespace Go.Proofs.Ythkhaemlcmkkjaj
set_option linter.unusedVariables false
set_option linter.unusedSimpArgs false
open Go.RowKit Go.Deep

/-- How much is left to try behind choices. -/
def wt1 (x : Int) : Nat := if x < 0 then 2 else 1
def wtS (st : List Int) : Nat := (st.map wt1).sum
/-- Choices are of different variables. -/
def GoodC (vars : Nat) (st : List Int) : Prop := (st.map Int.natAbs).Nodup ∧ ∀ x, x ∈ st → x ≠ 0 ∧ -(vars : Int) ≤ x ∧ x ≤ vars
theorem GoodC.len {vars : Nat} {st : List Int} (h : GoodC vars st) : st.length ≤ vars := by
  have hp : ∀ l : List Nat, l.Nodup → (∀ x, x ∈ l → 0 < x) → (l.map (· - 1)).Nodup := fun l => by
    induction l with
    | nil => intro _ _; exact List.nodup_nil
    | cons x l ih =>
      intro hd hs
      rw [List.nodup_cons] at hd
      rw [List.map_cons, List.nodup_cons]
      refine ⟨fun hm => ?_, ih hd.2 (fun y hy => hs y (by simp [hy]))⟩
      obtain ⟨y, hy, e⟩ := List.mem_map.1 hm
      have h1 := hs x (by simp)
      have h2 := hs y (by simp [hy])
      have : y = x := by omega
      rw [this] at hy
      exact hd.1 hy
  have h1 := nodup_len vars ((st.map Int.natAbs).map (· - 1)) (hp _ h.1 (fun x hx => by
    obtain ⟨y, hy, rfl⟩ := List.mem_map.1 hx
    have := (h.2 y hy).1
    omega)) (fun x hx => by
    obtain ⟨z, hz, rfl⟩ := List.mem_map.1 hx
    obtain ⟨y, hy, rfl⟩ := List.mem_map.1 hz
    have := h.2 y hy
    omega)
  simpa using h1
theorem GoodC.tail {vars : Nat} {x : Int} {st : List Int} (h : GoodC vars (x :: st)) : GoodC vars st := ⟨(List.nodup_cons.1 h.1).2, fun y hy => h.2 y (by simp [hy])⟩
end Go.Proofs.Ythkhaemlcmkkjaj
