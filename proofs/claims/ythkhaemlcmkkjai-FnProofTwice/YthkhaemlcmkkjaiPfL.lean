/- What the laws on refutations read: parts of rows; worlds that only grow. -/
import Derived.Test.YthkhaemlcmkkjaiDrawSp
import Derived.Test.YthkhaemlcmkkjaiSatD
import Derived.Test.YthkhaemlcmkkjaiFPrf
import Derived.Test.YthkhaemlcmkkjaiSuH
namespace Go.Proofs.Ythkhaemlcmkkjai
set_option linter.unusedVariables false
set_option linter.unusedSimpArgs false
open Go.RowKit Go.Deep

/-- Worlds behind W that leave all of it. -/
structure CG (W : World) (b : Bool) (us : List Value) (x : World) : Prop where
  below : Below W.heap.size W x
theorem CG.on {W x y : World} {b b' : Bool} {us us' : List Value} (h : CG W b us x) (hb : Below x.heap.size x y) : CG W b' us' y := ⟨h.below.trans (hb.mono h.below.size)⟩
theorem ClsAt.front {w : World} {a : Option Addr} {cs : List (List Int)} (h : ClsAt w a cs) (k : Nat) : ClsAt w a (cs.take k) := by
  obtain ⟨hl, h⟩ := h
  refine ⟨by simp; omega, ?_⟩
  rcases h with h | ⟨b, o, e, h1, h2⟩
  · exact .inl (by rw [h]; simp)
  · refine .inr ⟨b, o, e, h1, fun i hi => ?_⟩
    have hi2 : i < cs.length ∧ i < k := by simp at hi; omega
    obtain ⟨a', c, h3, h4⟩ := h2 i hi2.1
    have e2 : (cs.take k).getD i [] = cs.getD i [] := by simp [List.getD, List.getElem?_take, hi2.2]
    rw [e2]
    exact ⟨a', c, h3, h4⟩
/-- A row of some rows. -/
theorem ClsAt.cellAt {w : World} {a : Option Addr} {cs : List (List Int)} (h : ClsAt w a cs) {i : Nat} (hi : i < cs.length) : ∃ b o a' c, a = some ⟨b, o, none⟩ ∧ w.cell? ⟨b, o + i, none⟩ = some (.slice a' (cs.getD i []).length c) ∧ SetAt w a' (cs.getD i []) := by
  rcases h.2 with h0 | ⟨b, o, e, h1, h2⟩
  · subst h0; simp at hi
  · obtain ⟨a', c, h3, h4⟩ := h2 i hi
    exact ⟨b, o, a', c, e, h3, h4⟩
/-- A refutation ends with nothing. -/
theorem proof_last {vars : Int} {cs ps : List (List Int)} (h : proofZ vars cs ps = true) : 0 < ps.length ∧ (ps.getD (ps.length - 1) []).length = 0 := by
  obtain ⟨h1, h2, h3, h4, h5, h6⟩ := proof_parts h
  exact ⟨h2, by rw [h4]; rfl⟩
/-- The values of some rows. -/
theorem ClsAt.vals {w : World} {a : Option Addr} {cs : List (List Int)} (h : ClsAt w a cs) : ∃ xs : List Value, xs.length = cs.length ∧ (∀ ad, a = some ad → ∀ j u, xs[j]? = some u → w.cell? (ad.add j) = some u ∧ ad.block < w.heap.size) ∧ (∀ i, i < cs.length → ∃ a' c, xs.getD i undef = .slice a' (cs.getD i []).length c ∧ SetAt w a' (cs.getD i [])) ∧ (∀ u ∈ xs, u.oneCell' = true) ∧ (a = none → cs.length = 0) := by
  rcases h.2 with h0 | ⟨b, o, ha, hb, hc⟩
  · subst h0
    exact ⟨[], rfl, fun ad _ j u hj => (by simp at hj), fun i hi => (by simp at hi), fun u hu => (by cases hu), fun _ => rfl⟩
  · have hv : ∀ i, i < cs.length → ∃ a' c, ((List.range cs.length).map fun i => (w.cell? ⟨b, o + i, none⟩).getD undef).getD i undef = .slice a' (cs.getD i []).length c ∧ SetAt w a' (cs.getD i []) := fun i hi => by
      obtain ⟨a', c, h1, h2⟩ := hc i hi
      exact ⟨a', c, by simp [List.getD, hi, h1], h2⟩
    refine ⟨(List.range cs.length).map fun i => (w.cell? ⟨b, o + i, none⟩).getD undef, by simp, fun ad e j u hj => ?_, hv, fun u hu => ?_, fun e => by rw [ha] at e; cases e⟩
    · rw [ha] at e
      simp only [Option.some.injEq] at e
      subst e
      rw [List.getElem?_map] at hj
      obtain ⟨i, hi, e⟩ := Option.map_eq_some_iff.1 hj
      have hjl : j < cs.length := by have := (List.getElem?_eq_some_iff.1 hi).1; simpa using this
      have hij : i = j := by rw [List.getElem?_range hjl] at hi; simpa using hi.symm
      subst hij
      obtain ⟨a', c, h1, _⟩ := hc i hjl
      rw [show (⟨b, o, none⟩ : Addr).add i = ⟨b, o + i, none⟩ by simp [Addr.add], h1, ← e, h1]
      exact ⟨rfl, hb⟩
    · obtain ⟨i, hi', he⟩ := List.mem_iff_getElem.1 hu
      obtain ⟨a', c', e, _⟩ := hv i (by simpa using hi')
      rw [List.getD_eq_getElem?_getD, List.getElem?_eq_getElem hi', Option.getD_some, he] at e
      rw [e]
      rfl
/-- Rows put behind a row of the call's own. -/
theorem append_vals {x : World} {B n len cap : Nat} {y : Value} {ys xs : List Value} {a : Option Addr} (hown : x.ownsRow B 34 1 y n ys) (hl : xs.length = len) (hnone : a = none → len = 0 ∧ cap = 0) (hcells : ∀ ad, a = some ad → ∀ j u, xs[j]? = some u → x.cell? (ad.add j) = some u) (hone : ∀ u ∈ xs, u.oneCell' = true) (hn : n + len ≤ 1000000) (hcap : len ≤ cap) (hB : B ≤ x.heap.size) :
    ∃ v' x', (Builtin.append_ #[23, 23] 23 #[y, .slice a len cap]).run Try.prog x = .ok v' x' ∧ x'.ownsRow B 34 1 v' (n + len) (ys ++ xs) ∧ x.grownBy x' y.ownBlock := by
  obtain ⟨i0, hi, hz0, hz1, hz2⟩ := info_parts Try.infoLL
  cases ha : a with
  | none =>
    obtain ⟨h0, hc0⟩ := hnone ha
    have hx0 : xs = [] := List.length_eq_zero_iff.1 (by omega)
    subst hx0
    rw [h0, hc0, List.append_nil]
    exact ⟨_, x, run_append_owned_none x B 23 23 34 i0 1 Try.underlying23 hi _ n ys hown, hown, World.grownBy.refl _ _⟩
  | some ad =>
    obtain ⟨v', x', hr, h2, h3, _, _⟩ := run_append_own_at (P := Try.prog) (w := x) B 23 23 34 i0 (.slice none 0 0) 1 24 Try.underlying23 hi hz0 hz1 hz2 rfl (by decide) y n ys hown ad len cap xs (by omega) (hcells ad ha) hone (by unfold maxLen; omega) (by omega) hB
    exact ⟨v', x', hr, h2, h3⟩
/-- Rows whose values lie in one row of the call's own, read alone. -/
theorem clsA_of {P : Nat} {w : World} {v : Value} {xs : List Value} (cs : List (List Int)) (ho : w.ownsRow P 34 1 v cs.length xs) (hl : cs.length ≤ 1048576)
    (hrow : ∀ i, i < cs.length → ∃ a' c', xs.getD i undef = .slice a' (cs.getD i []).length c' ∧ SetAt w a' (cs.getD i [])) : ∃ a c, v = .slice a cs.length c ∧ cs.length ≤ c ∧ ClsAt w a cs := by
  rcases ho.2 with ⟨hv, h0⟩ | ⟨g, cap, cur, hv, hB, hc, hcap, hcm, hsz, hx⟩
  · exact ⟨none, 0, by rw [hv, h0], by omega, hl, .inl (List.length_eq_zero_iff.1 h0)⟩
  · refine ⟨_, cap, hv, hcap, hl, ?_⟩
    by_cases h0 : cs.length = 0
    · exact .inl (List.length_eq_zero_iff.1 h0)
    refine .inr ⟨g, 0, rfl, (Array.getElem?_eq_some_iff.1 hc).1, fun i hi => ?_⟩
    obtain ⟨a', c', e1, e2⟩ := hrow i hi
    refine ⟨a', c', ?_, e2⟩
    have hcell := World.ownsRow.cellAt (hv ▸ ho) i (by omega)
    have hil : i < xs.length := by
      have h1 := congrArg List.length hx
      rw [List.length_take] at h1
      have h2 : cur.toList.length = cap * 1 := by rw [← hsz]; simp
      omega
    rw [Nat.zero_add, hcell, ← e1]
    simp [List.getD, hil]
end Go.Proofs.Ythkhaemlcmkkjai
