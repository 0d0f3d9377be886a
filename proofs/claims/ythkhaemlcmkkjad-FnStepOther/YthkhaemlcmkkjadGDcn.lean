/- Rows of numbers: one row more. As RegE, where the class of worlds knows which operations are done, and each operation keeps only what is done. The specification's drawn clauses. DrawCnfUnits: drawn clauses and literals. Numbers compared, over any numbers. -/
import Derived.Test.YthkhaemlcmkkjadGStL
import Derived.Test.YthkhaemlcmkkjadGRn
import Derived.Test.YthkhaemlcmkkjadGDrawK
import Derived.Test.YthkhaemlcmkkjadGStA
import Derived.Test.YthkhaemlcmkkjadGImpl
import Derived.Test.YthkhaemlcmkkjadGTo
import Derived.Test.YthkhaemlcmkkjadGBase
import Derived.Deep.QuietTactic
import Derived.BigQuiet
import Derived.Lib.QuietBelow
import Derived.Test.YthkhaemlcmkkjadGReg
namespace Go.Proofs.Ythkhaemlcmkkjad
set_option linter.unusedVariables false
set_option linter.unusedSimpArgs false
open Go.RowKit Go.Deep

theorem LstI.snoc {B : Nat} {w w' : World} {v v' u : Value} {ls : List (List Int)} {vs : List Value} {r : List Int} {B2 : Nat} (h : LstI B w v ls vs) (hr : RowI B2 w u r) (hB : B ≤ B2) (hold : ∀ i j, i < ls.length → (vs.getD i undef).ownBlock = some j → j < B2) (ho : w'.ownsRow B 26 1 v' (ls.length + 1) (vs ++ [u])) (hg : w.grownBy w' v.ownBlock) : LstI B w' v' (ls ++ [r]) (vs ++ [u]) := by
  have gl : ∀ i, i < ls.length → (vs ++ [u]).getD i undef = vs.getD i undef := fun i hi => by
    have : i < vs.length := by rw [h.len]; exact hi
    simp [List.getD, List.getElem?_append, this]
  have ge : (vs ++ [u]).getD ls.length undef = u := by rw [← h.len]; simp [List.getD]
  have gl' : ∀ i, i < ls.length → (ls ++ [r]).getD i [] = ls.getD i [] := fun i hi => by simp [List.getD, List.getElem?_append, hi]
  have ge' : (ls ++ [r]).getD ls.length [] = r := by simp [List.getD]
  refine ⟨by simp [h.len], by simpa using ho, fun i hi => ?_, fun i j hij hj => ?_⟩
  · by_cases e : i < ls.length
    · rw [gl i e, gl' i e]
      exact row_kept (h.row i e) h.own hg
    · have : i = ls.length := by simp at hi; omega
      subst this
      rw [ge, ge']
      exact row_kept (row_base hr hB) h.own hg
  · by_cases e : j < ls.length
    · rw [gl i (by omega), gl j e]
      exact h.apart i j hij e
    · have : j = ls.length := by simp at hj; omega
      subst this
      rw [gl i hij, ge]
      cases hv : (vs.getD i undef).ownBlock with
      | none => exact Or.inl rfl
      | some b =>
        right
        intro e2
        have h1 := hold i b hij hv
        have h2 := (World.ownsRow.lt hr b e2.symm).1
        omega
theorem LstI.lt {B : Nat} {w : World} {v : Value} {ls : List (List Int)} {vs : List Value} (h : LstI B w v ls vs) : ∀ i j, i < ls.length → (vs.getD i undef).ownBlock = some j → j < w.heap.size := fun i j hi hj => (World.ownsRow.lt (h.row i hi) j hj).2
end Go.Proofs.Ythkhaemlcmkkjad

namespace Go.Proofs.Ythkhaemlcmkkjad
set_option linter.unusedVariables false
set_option linter.unusedSimpArgs false

variable {P : Program} {ops : Array Oper} {Q : Exit → Act → World → Prop}

end Go.Proofs.Ythkhaemlcmkkjad

namespace Go.Proofs.Ythkhaemlcmkkjad
set_option linter.unusedVariables false
set_option linter.unusedSimpArgs false
open Go.RowKit Go.Deep

theorem numNoRd : (3 : TypeId) ≠ 89 := by decide
theorem rowNoRd : (26 : TypeId) ≠ 89 := by decide
theorem RowI.wrote2 {B B' : Nat} {w w' : World} {v : Value} {l : List Int} (h : RowI B w v l) (hw : Wrote B' isRd w w') : RowI B w' v l := owns_wrote h hw numNoRd
theorem LstI.wrote {B B' : Nat} {w w' : World} {v : Value} {ls : List (List Int)} {vs : List Value} (h : LstI B w v ls vs) (hw : Wrote B' isRd w w') : LstI B w' v ls vs :=
  ⟨h.len, owns_wrote h.own hw rowNoRd, fun i hi => RowI.wrote2 (h.row i hi) hw, h.apart⟩
theorem LstI.zero (B : Nat) (w : World) : LstI B w (.slice none 0 0) [] [] := ⟨rfl, World.ownsRow_nil _ _ _ _, fun i hi => by simp at hi, fun i j _ hj => by simp at hj⟩
section
variable {B rb cb rs : Nat} {w0 x y : World} {m m' vars : Int} {v : Value} {ls : List (List Int)} {vs : List Value}
end
section
variable {B rb cb rs s0 : Nat} {w0 x y : World} {m vars : Int} {V : Value} {ls : List (List Int)} {vs : List Value} {L : Nat → Bool}
end

end Go.Proofs.Ythkhaemlcmkkjad

namespace Go.Proofs.Ythkhaemlcmkkjad
set_option linter.unusedVariables false
set_option linter.unusedSimpArgs false
open Go.RowKit Go.Deep

section
variable {B rb cb rs : Nat} {w0 x y : World} {m vars : Int} {V : Value} {ls : List (List Int)} {vs : List Value} {L : Nat → Bool}
end

end Go.Proofs.Ythkhaemlcmkkjad

namespace Go.Proofs.Ythkhaemlcmkkjad
set_option linter.unusedVariables false
set_option linter.unusedSimpArgs false
open Go.RowKit Go.Deep

end Go.Proofs.Ythkhaemlcmkkjad
