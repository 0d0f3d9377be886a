/- Lists of states. Numbers that lie in memory of their own. A row that is nil has no room. -/
import Derived.Test.YthkhaemlcmkkjaxGreatGPure
namespace Go.Proofs.YthkhaemlcmkkjaxGreat
set_option linter.unusedVariables false
set_option linter.unusedSimpArgs false
open Go.RowKit Go.Deep

theorem mem_places (s k i : Nat) : i ∈ placesTo s k ↔ i < k ∧ s.testBit i = true := by
  unfold placesTo
  rw [List.mem_filter, List.mem_range, has_test]
theorem bits_places {s : Nat} {n : Nat} (h : s < 2 ^ n) : bitsOf (placesTo s n) = s := by
  apply Nat.eq_of_testBit_eq
  intro i
  rw [test_bits, Bool.eq_iff_iff, decide_eq_true_eq, mem_places]
  constructor
  · exact fun h => h.2
  · intro hi
    refine ⟨?_, hi⟩
    rcases Nat.lt_or_ge i n with h1 | h1
    · exact h1
    · have h2 : s < 2 ^ i := Nat.lt_of_lt_of_le h (Nat.pow_le_pow_right (by omega) h1)
      rw [Nat.testBit_lt_two_pow h2] at hi
      cases hi
def intsOf (l : List Nat) : List Int := l.map fun n : Nat => (n : Int)
theorem intsOf_toNat (l : List Nat) : (intsOf l).map Int.toNat = l := by
  unfold intsOf
  rw [List.map_map]
  conv => rhs; rw [← List.map_id l]
  apply List.map_congr_left
  intro a _
  simp
theorem intsOf_getD {l : List Nat} {i : Nat} (h : i < l.length) : (intsOf l).getD i 0 = ((l.getD i 0 : Nat) : Int) := by
  simp [intsOf, List.getD, h]
theorem setBits_places {s : Nat} (hs : s < 256) : setBits (intsOf (placesTo s 8)) = s := by
  unfold setBits
  rw [intsOf_toNat]
  exact bits_places (n := 8) hs
theorem row_kind {B : Nat} {w : World} {e : TypeId} {v : Value} {n : Nat} {xs : List Value} (h : w.ownsRow B e 1 v n xs) (g : Nat) (hg : v.ownBlock = some g) : ∃ c f, w.heap[g]? = some (.cells c e f) := by
  rcases h.2 with ⟨hv, _⟩ | ⟨g', cap, cur, hv, _, hc, _⟩
  · rw [hv] at hg; cases hg
  · rw [hv] at hg
    simp [Value.ownBlock] at hg
    subst hg
    exact ⟨cur, _, hc⟩
theorem SetAt.of_row {B : Nat} {w : World} {v : Value} {l : List Nat} (h : w.ownsRow B 3 1 v l.length (natVs l)) (hl : l.length ≤ 1048576) : ∃ a cap, v = .slice a (intsOf l).length cap ∧ SetAt w a (intsOf l) := by
  obtain ⟨a, cap, hv, hc⟩ := PlAt.of_row h
  have e : (intsOf l).length = l.length := by simp [intsOf]
  refine ⟨a, cap, by rw [e]; exact hv, by omega, ?_⟩
  rcases hc with hc | ⟨b, ha, hb, hc⟩
  · left; rw [hc]; rfl
  · right
    refine ⟨b, 0, ha, hb, fun i hi => ?_⟩
    rw [e] at hi
    rw [Nat.zero_add, intsOf_getD hi]
    exact hc i hi
end Go.Proofs.YthkhaemlcmkkjaxGreat

namespace Go.Proofs.YthkhaemlcmkkjaxGreat
set_option linter.unusedVariables false
set_option linter.unusedSimpArgs false
open Go.RowKit Go.Deep

/-- Numbers that lie in memory of their own. -/
abbrev RowI (B : Nat) (w : World) (v : Value) (l : List Int) : Prop := w.ownsRow B 3 1 v l.length (l.map fun i => .int .i64 i)
theorem RowI.set {B : Nat} {w : World} {v : Value} {l : List Int} (h : RowI B w v l) (hl : l.length ≤ 1048576) : ∃ a cap, v = .slice a l.length cap ∧ SetAt w a l := by
  obtain ⟨h1, h2⟩ := h
  rcases h2 with ⟨hv, h0⟩ | ⟨g, cap, cur, hv, hB, hc, hcap, _, hsz, hx⟩
  · have : l = [] := List.length_eq_zero_iff.1 h0
    subst this
    exact ⟨none, 0, hv, by simp, Or.inl rfl⟩
  · refine ⟨some ⟨g, 0, none⟩, cap, hv, hl, Or.inr ⟨g, 0, rfl, (Array.getElem?_eq_some_iff.1 hc).1, fun i hi => ?_⟩⟩
    have e : cur.toList[i]? = some (.int .i64 (l.getD i 0)) := by
      have : (cur.toList.take (l.length * 1))[i]? = (l.map fun i => Value.int .i64 i)[i]? := by rw [hx]
      rw [List.getElem?_take, if_pos (by omega)] at this
      rw [this]
      simp [List.getD, hi]
    simp only [World.cell?, hc, Nat.zero_add]
    simpa using e

theorem RowI.nil (w : World) : RowI w.heap.size (w.alloc (.cells #[] 3)) (.slice (some ⟨w.heap.size, 0, none⟩) 0 0) [] :=
  ⟨rfl, Or.inr ⟨w.heap.size, 0, #[], rfl, Nat.le_refl _, blk_alloc_new _ _, Nat.zero_le _, Nat.zero_le _, rfl, rfl⟩⟩
end Go.Proofs.YthkhaemlcmkkjaxGreat

namespace Go.Proofs.YthkhaemlcmkkjaxGreat
set_option linter.unusedVariables false
set_option linter.unusedSimpArgs false
open Go.RowKit Go.Deep

theorem row_cap0 {B n c : Nat} {w : World} {a : Option Addr} {l : List Int} (h : RowI B w (.slice a n c) l) (ha : a = none) : c = 0 := by
  subst ha
  rcases h.2 with ⟨hv, _⟩ | ⟨g, cap, cur, hv, _⟩
  · simp at hv; exact hv.2
  · simp at hv
end Go.Proofs.YthkhaemlcmkkjaxGreat
