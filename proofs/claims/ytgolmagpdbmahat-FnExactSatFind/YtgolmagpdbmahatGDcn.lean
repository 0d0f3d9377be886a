/- Rows of numbers: one row more. As RegE, where the class of worlds knows which operations are done, and each operation keeps only what is done. The specification's drawn clauses. DrawCnfUnits: drawn clauses and literals. Numbers compared, over any numbers. -/
import Derived.Test.YtgolmagpdbmahatGStL
import Derived.Test.YtgolmagpdbmahatGRn
import Derived.Test.YtgolmagpdbmahatGDrawB
import Derived.OwnWalk
import Derived.Test.YtgolmagpdbmahatGGrow
import Derived.Laws.OwnMore
import Derived.Deep.CutBlock
import Derived.Test.YtgolmagpdbmahatProg
import Derived.WalkKit
import Derived.ProofKit
import Derived.OpenShut
import Derived.ChangeOld
import Derived.Deep.Slices
import Derived.Test.YtgolmagpdbmahatGCn
import Derived.Test.YtgolmagpdbmahatGReg
import Derived.Test.YtgolmagpdbmahatGStA
import Derived.Test.YtgolmagpdbmahatGBase
import Derived.BigQuiet
namespace Go.Proofs.Ytgolmagpdbmahat
set_option linter.unusedVariables false
set_option linter.unusedSimpArgs false
open Go.RowKit Go.Deep

theorem LstI.snoc {B : Nat} {w w' : World} {v v' u : Value} {ls : List (List Int)} {vs : List Value} {r : List Int} {B2 : Nat} (h : LstI B w v ls vs) (hr : RowI B2 w u r) (hB : B ≤ B2) (hold : ∀ i j, i < ls.length → (vs.getD i undef).ownBlock = some j → j < B2) (ho : w'.ownsRow B 41 1 v' (ls.length + 1) (vs ++ [u])) (hg : w.grownBy w' v.ownBlock) : LstI B w' v' (ls ++ [r]) (vs ++ [u]) := by
  have gl : ∀ i, i < ls.length → (vs ++ [u]).getD i undef = vs.getD i undef := fun i hi => by
    have : i < vs.length := by rw [h.len]; exact hi
    simp [List.getD, List.getElem?_append, this]
  have ge : (vs ++ [u]).getD ls.length undef = u := by rw [← h.len]; simp [List.getD]
  have gl' : ∀ i, i < ls.length → (ls ++ [r]).getD i [] = ls.getD i [] := fun i hi => by simp [List.getD, List.getElem?_append, hi]
  have ge' : (ls ++ [r]).getD ls.length [] = r := by simp [List.getD]
  refine ⟨by simp [h.len], by simpa using ho, fun i hi => ?_, fun i j hij hj => ?_⟩
  · by_cases e : i < ls.length
    · rw [gl i e, gl' i e]
      exact row_kept (h.row i e) h.own hg
    · have : i = ls.length := by simp at hi; omega
      subst this
      rw [ge, ge']
      exact row_kept (row_base hr hB) h.own hg
  · by_cases e : j < ls.length
    · rw [gl i (by omega), gl j e]
      exact h.apart i j hij e
    · have : j = ls.length := by simp at hj; omega
      subst this
      rw [gl i hij, ge]
      cases hv : (vs.getD i undef).ownBlock with
      | none => exact Or.inl rfl
      | some b =>
        right
        intro e2
        have h1 := hold i b hij hv
        have h2 := (World.ownsRow.lt hr b e2.symm).1
        omega
theorem LstI.lt {B : Nat} {w : World} {v : Value} {ls : List (List Int)} {vs : List Value} (h : LstI B w v ls vs) : ∀ i j, i < ls.length → (vs.getD i undef).ownBlock = some j → j < w.heap.size := fun i j hi hj => (World.ownsRow.lt (h.row i hi) j hj).2
end Go.Proofs.Ytgolmagpdbmahat

namespace Go.Proofs.Ytgolmagpdbmahat
set_option linter.unusedVariables false
set_option linter.unusedSimpArgs false

variable {P : Program} {ops : Array Oper} {Q : Exit → Act → World → Prop}

end Go.Proofs.Ytgolmagpdbmahat

namespace Go.Proofs.Ytgolmagpdbmahat
set_option linter.unusedVariables false
set_option linter.unusedSimpArgs false
open Go.RowKit Go.Deep

theorem LstI.cls {B : Nat} {w : World} {v : Value} {ls : List (List Int)} {vs : List Value} (h : LstI B w v ls vs) (hl : ls.length ≤ 1048576) (hr : ∀ r ∈ ls, r.length ≤ 3) : ∃ a cap, v = .slice a ls.length cap ∧ ClsAt w a ls := by
  obtain ⟨a, cap, hv⟩ := h.slice
  refine ⟨a, cap, hv, hl, ?_⟩
  by_cases h0 : ls.length = 0
  · exact Or.inl (List.length_eq_zero_iff.1 h0)
  obtain ⟨g, c, hg, _, hgl, _⟩ := h.cell (i := 0) (by omega)
  rw [hv] at hg
  injection hg with ea
  refine Or.inr ⟨g, 0, ea, hgl, fun i hi => ?_⟩
  obtain ⟨g', c', hg', _, _, hc⟩ := h.cell hi
  rw [hv] at hg'
  injection hg' with ea'
  rw [ea] at ea'
  simp at ea'
  subst ea'
  obtain ⟨a', c'', he, hs⟩ := RowI.set (h.row i hi) (by have := hr _ (getD_mem (d := []) hi); omega)
  exact ⟨a', c'', by rw [Nat.zero_add, hc, he], hs⟩
theorem LstI.zero (B : Nat) (w : World) : LstI B w (.slice none 0 0) [] [] := ⟨rfl, World.ownsRow_nil _ _ _ _, fun i hi => by simp at hi, fun i j _ hj => by simp at hj⟩
section
variable {B rb cb rs : Nat} {w0 x y : World} {m m' vars : Int} {v : Value} {ls : List (List Int)} {vs : List Value}
end
section
variable {B rb cb rs s0 : Nat} {w0 x y : World} {m vars : Int} {V : Value} {ls : List (List Int)} {vs : List Value} {L : Nat → Bool}
end

end Go.Proofs.Ytgolmagpdbmahat

namespace Go.Proofs.Ytgolmagpdbmahat
set_option linter.unusedVariables false
set_option linter.unusedSimpArgs false
open Go.RowKit Go.Deep

section
variable {B rb cb rs : Nat} {w0 x y : World} {m vars : Int} {V : Value} {ls : List (List Int)} {vs : List Value} {L : Nat → Bool}
end

end Go.Proofs.Ytgolmagpdbmahat

namespace Go.Proofs.Ytgolmagpdbmahat
set_option linter.unusedVariables false
set_option linter.unusedSimpArgs false
open Go.RowKit Go.Deep

end Go.Proofs.Ytgolmagpdbmahat
