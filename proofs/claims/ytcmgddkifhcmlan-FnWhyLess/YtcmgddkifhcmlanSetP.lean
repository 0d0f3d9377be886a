/- Parts of numbers in memory. -/
import Derived.Test.YtcmgddkifhcmlanGStL
namespace Go.Proofs.Ytcmgddkifhcmlan
set_option linter.unusedVariables false
set_option linter.unusedSimpArgs false
open Go.RowKit Go.Deep

theorem SetAt.front {w : World} {a : Option Addr} {set : List Int} (h : SetAt w a set) (k : Nat) : SetAt w a (set.take k) := by
  obtain ⟨h0, h1⟩ := h
  refine ⟨by simp; omega, ?_⟩
  rcases h1 with h1 | ⟨b, o, ha, hb, hc⟩
  · left; rw [h1]; simp
  · refine Or.inr ⟨b, o, ha, hb, fun i hi => ?_⟩
    simp at hi
    rw [hc i (by omega), show (set.take k).getD i 0 = set.getD i 0 by simp [List.getD, List.getElem?_take, show i < k by omega]]
theorem SetAt.rest {w : World} {b o : Nat} {set : List Int} (h : SetAt w (some ⟨b, o, none⟩) set) (k : Nat) : SetAt w (some ⟨b, o + k, none⟩) (set.drop k) := by
  obtain ⟨h0, h1⟩ := h
  refine ⟨by simp; omega, ?_⟩
  rcases h1 with h1 | ⟨b', o', ha, hb, hc⟩
  · left; rw [h1]; simp
  · simp at ha
    obtain ⟨rfl, rfl⟩ := ha
    refine Or.inr ⟨b, o + k, rfl, hb, fun i hi => ?_⟩
    simp at hi
    have hg : (set.drop k).getD i 0 = set.getD (k + i) 0 := by simp [List.getD]
    rw [Nat.add_assoc, hc (k + i) (by omega), hg]
theorem RowI.room {B : Nat} {w : World} {a : Option Addr} {n c : Nat} {l : List Int} (h : RowI B w (.slice a n c) l) : (a = none ∧ l = [] ∧ c = 0) ∨ ∃ g, a = some ⟨g, 0, none⟩ ∧ l.length ≤ c ∧ c ≤ maxLen := by
  obtain ⟨h1, h2⟩ := h
  rcases h2 with ⟨hv, h0⟩ | ⟨g, cap, cur, hv, hB, hc, hcap, hcm, hsz, hx⟩
  · simp at hv
    obtain ⟨rfl, rfl, rfl⟩ := hv
    exact Or.inl ⟨rfl, List.length_eq_zero_iff.1 (by omega), rfl⟩
  · simp at hv
    obtain ⟨rfl, rfl, rfl⟩ := hv
    exact Or.inr ⟨g, rfl, hcap, hcm⟩
end Go.Proofs.Ytcmgddkifhcmlan
