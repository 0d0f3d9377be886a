/- The program's sets of bits. Ascending places as bits, and back. The program's size of a state. -/
import Derived.Test.YtgolmagpdbmahatGSpec
import Derived.Test.YtgolmagpdbmahatGBase
import Derived.OwnWalk
import Derived.Deep.AppendLies
import Derived.Test.YtgolmagpdbmahatGStA
namespace Go.Proofs.Ytgolmagpdbmahat
set_option linter.unusedVariables false
set_option linter.unusedSimpArgs false
open Go.RowKit Go.Deep

def natVs (l : List Nat) : List Value := l.map fun i : Nat => .int .i64 (i : Int)
end Go.Proofs.Ytgolmagpdbmahat

namespace Go.Proofs.Ytgolmagpdbmahat
set_option linter.unusedVariables false
set_option linter.unusedSimpArgs false

end Go.Proofs.Ytgolmagpdbmahat

namespace Go.Proofs.Ytgolmagpdbmahat
set_option linter.unusedVariables false
set_option linter.unusedSimpArgs false
open Go.RowKit Go.Deep

/-- Places that lie in memory, read alone. -/
def PlAt (w : World) (v : Value) (l : List Nat) : Prop := ∃ a cap, v = .slice a l.length cap ∧ (l = [] ∨ ∃ b, a = some ⟨b, 0, none⟩ ∧ b < w.heap.size ∧ ∀ i, i < l.length → w.cell? ⟨b, i, none⟩ = some (.int .i64 ((l.getD i 0 : Nat) : Int)))
theorem PlAt.on {w w' : World} {v : Value} {l : List Nat} (h : PlAt w v l) (hb : Below w.heap.size w w') : PlAt w' v l := by
  obtain ⟨a, cap, hv, h⟩ := h
  refine ⟨a, cap, hv, h.imp id fun ⟨b, ha, hlt, hc⟩ => ⟨b, ha, Nat.lt_of_lt_of_le hlt hb.size, fun i hi => ?_⟩⟩
  rw [World.cell?_of_block (w := w) (a := ⟨b, i, none⟩) (hb.block b hlt)]
  exact hc i hi
theorem PlAt.of_row {B : Nat} {w : World} {v : Value} {l : List Nat} (h : w.ownsRow B 3 1 v l.length (natVs l)) : PlAt w v l := by
  obtain ⟨h1, h2⟩ := h
  rcases h2 with ⟨hv, h0⟩ | ⟨g, cap, cur, hv, hB, hc, hcap, _, hsz, hx⟩
  · have : l = [] := List.length_eq_zero_iff.1 (by omega)
    subst this
    exact ⟨none, 0, hv, Or.inl rfl⟩
  · refine ⟨some ⟨g, 0, none⟩, cap, hv, ?_⟩
    by_cases h0 : l = []
    · exact Or.inl h0
    · refine Or.inr ⟨g, rfl, (Array.getElem?_eq_some_iff.1 hc).1, fun i hi => ?_⟩
      have e : cur.toList[i]? = some (.int .i64 ((l.getD i 0 : Nat) : Int)) := by
        have : (cur.toList.take (l.length * 1))[i]? = (natVs l)[i]? := by rw [hx]
        rw [List.getElem?_take, if_pos (by omega)] at this
        rw [this]
        simp [natVs, List.getD, hi]
      simp only [World.cell?, hc]
      simpa using e

end Go.Proofs.Ytgolmagpdbmahat
