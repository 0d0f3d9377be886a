/- The laws' own looks at rows of numbers: whether two are the same, and whether a row is among them. The laws' own looks at rows of numbers: whether two are the same. -/
import Derived.Test.YthkhaemlcmkkjarGStL
import Derived.Deep.QuietTactic
import Derived.Test.YthkhaemlcmkkjarGReg
import Derived.Test.YthkhaemlcmkkjarGStA
import Derived.Test.YthkhaemlcmkkjarGStO
import Derived.Test.YthkhaemlcmkkjarGImpl
namespace Go.Proofs.Ythkhaemlcmkkjar
set_option linter.unusedVariables false
set_option linter.unusedSimpArgs false
open Go.RowKit Go.Deep

/-- Rows of numbers that lie in memory. -/
def ListsAt (w : World) (a : Option Addr) (lss : List (List Int)) : Prop := lss.length ≤ 1048576 ∧ (lss = [] ∨ ∃ b o, a = some ⟨b, o, none⟩ ∧ b < w.heap.size ∧ ∀ i, i < lss.length → ∃ a' c, w.cell? ⟨b, o + i, none⟩ = some (.slice a' (lss.getD i []).length c) ∧ SetAt w a' (lss.getD i []))
theorem ListsAt.on {w w' : World} {a : Option Addr} {lss : List (List Int)} (h : ListsAt w a lss) (hb : Below w.heap.size w w') : ListsAt w' a lss := by
  obtain ⟨h0, h⟩ := h
  refine ⟨h0, h.imp id ?_⟩
  rintro ⟨b, o, ha, hlt, hr⟩
  refine ⟨b, o, ha, Nat.lt_of_lt_of_le hlt hb.size, fun i hi => ?_⟩
  obtain ⟨a', c, h1, h2⟩ := hr i hi
  exact ⟨a', c, (hb.cell (p := ⟨b, o + i, none⟩) hlt).trans h1, h2.on hb⟩
theorem ListsAt.take {w : World} {a : Option Addr} {lss : List (List Int)} (h : ListsAt w a lss) (k : Nat) : ListsAt w a (lss.take k) := by
  obtain ⟨h0, h⟩ := h
  refine ⟨by simp; omega, ?_⟩
  rcases h with h | ⟨b, o, ha, hlt, hr⟩
  · left; rw [h]; simp
  · refine Or.inr ⟨b, o, ha, hlt, fun i hi => ?_⟩
    simp at hi
    have e : (lss.take k).getD i [] = lss.getD i [] := by simp [List.getD, List.getElem?_take, show i < k by omega]
    rw [e]
    exact hr i (by omega)
theorem LstI.lists {B : Nat} {w : World} {v : Value} {lss : List (List Int)} {vs : List Value} (h : LstI B w v lss vs) (hl : lss.length ≤ 1048576) (hr : ∀ i, i < lss.length → (lss.getD i []).length ≤ 1048576) : ∃ a cap, v = .slice a lss.length cap ∧ lss.length ≤ cap ∧ cap ≤ maxLen ∧ (a = none → cap = 0) ∧ ListsAt w a lss := by
  by_cases h0 : lss.length = 0
  · have : lss = [] := List.length_eq_zero_iff.1 h0
    rcases h.own.2 with ⟨hv, _⟩ | ⟨g, cap, cur, hv, _, _, hc1, hc2, _⟩
    · exact ⟨none, 0, by rw [hv, h0], by omega, Nat.zero_le _, fun _ => rfl, hl, Or.inl this⟩
    · exact ⟨_, cap, hv, hc1, hc2, (fun e => by cases e), hl, Or.inl this⟩
  · rcases h.own.2 with ⟨hv, h1⟩ | ⟨g, cap, cur, hv, hg, hc, hc1, hc2, _⟩
    · exact absurd h1 h0
    · refine ⟨_, cap, hv, hc1, hc2, (fun e => by cases e), hl, Or.inr ⟨g, 0, rfl, (Array.getElem?_eq_some_iff.1 hc).1, fun i hi => ?_⟩⟩
      obtain ⟨g', cap', hv', _, _, hcell⟩ := h.cell hi
      rw [hv] at hv'
      simp at hv'
      obtain ⟨rfl, rfl⟩ := hv'
      obtain ⟨a', c', e', hs⟩ := RowI.set (h.row i hi) (hr i hi)
      exact ⟨a', c', by rw [Nat.zero_add, hcell, e'], hs⟩

end Go.Proofs.Ythkhaemlcmkkjar

namespace Go.Proofs.Ythkhaemlcmkkjar
set_option linter.unusedVariables false
set_option linter.unusedSimpArgs false
open Go.RowKit Go.Deep

end Go.Proofs.Ythkhaemlcmkkjar
