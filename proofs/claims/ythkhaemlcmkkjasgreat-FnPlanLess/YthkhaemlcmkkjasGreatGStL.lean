/- Lists of states. Numbers that lie in memory of their own. A row that is nil has no room. -/
import Derived.Test.YthkhaemlcmkkjasGreatGPure
namespace Go.Proofs.YthkhaemlcmkkjasGreat
set_option linter.unusedVariables false
set_option linter.unusedSimpArgs false
open Go.RowKit Go.Deep

theorem mem_places (s k i : Nat) : i ∈ placesTo s k ↔ i < k ∧ s.testBit i = true := by
  unfold placesTo
  rw [List.mem_filter, List.mem_range, has_test]
theorem bits_places {s : Nat} {n : Nat} (h : s < 2 ^ n) : bitsOf (placesTo s n) = s := by
  apply Nat.eq_of_testBit_eq
  intro i
  rw [test_bits, Bool.eq_iff_iff, decide_eq_true_eq, mem_places]
  constructor
  · exact fun h => h.2
  · intro hi
    refine ⟨?_, hi⟩
    rcases Nat.lt_or_ge i n with h1 | h1
    · exact h1
    · have h2 : s < 2 ^ i := Nat.lt_of_lt_of_le h (Nat.pow_le_pow_right (by omega) h1)
      rw [Nat.testBit_lt_two_pow h2] at hi
      cases hi
theorem places_asc (s k : Nat) : (placesTo s k).Pairwise (· < ·) := by
  unfold placesTo
  exact List.Pairwise.filter _ List.pairwise_lt_range
def intsOf (l : List Nat) : List Int := l.map fun n : Nat => (n : Int)
theorem intsOf_toNat (l : List Nat) : (intsOf l).map Int.toNat = l := by
  unfold intsOf
  rw [List.map_map]
  conv => rhs; rw [← List.map_id l]
  apply List.map_congr_left
  intro a _
  simp
theorem intsOf_getD {l : List Nat} {i : Nat} (h : i < l.length) : (intsOf l).getD i 0 = ((l.getD i 0 : Nat) : Int) := by
  simp [intsOf, List.getD, h]
/-- The places of bits are in form. -/
theorem form_places {l : List PackD} {room : Int} (h : repoB ⟨l, room⟩ = true) {s : Nat} (hs : s < 2 ^ l.length) : formB l room (intsOf (placesTo s 8)) = true := by
  have hl8 := (OkL.of h).l8
  unfold formB placesB
  rw [h, Bool.and_true, List.all_eq_true]
  intro i hi
  have hi : i < (placesTo s 8).length := by simpa [intsOf] using List.mem_range.1 hi
  unfold placeB
  rw [intsOf_getD hi]
  have hmem : (placesTo s 8).getD i 0 ∈ placesTo s 8 := getD_mem hi
  have hb := (mem_places s 8 _).1 hmem
  have hlt : (placesTo s 8).getD i 0 < l.length := by
    rcases Nat.lt_or_ge ((placesTo s 8).getD i 0) l.length with h1 | h1
    · exact h1
    · have h2 : s < 2 ^ (placesTo s 8).getD i 0 := Nat.lt_of_lt_of_le hs (Nat.pow_le_pow_right (by omega) h1)
      rw [Nat.testBit_lt_two_pow h2] at hb
      cases hb.2
  rw [Bool.and_eq_true]
  refine ⟨by unfold inB; rw [Bool.and_eq_true, decide_eq_true_eq, decide_eq_true_eq]; omega, ?_⟩
  by_cases h0 : i = 0
  · simp [h0]
  · rw [intsOf_getD (by omega)]
    have hp := List.pairwise_iff_getElem.1 (places_asc s 8) (i - 1) i (by omega) hi (by omega)
    have e1 : (placesTo s 8).getD (i - 1) 0 = (placesTo s 8)[i - 1]'(by omega) := by
      have : i - 1 < (placesTo s 8).length := by omega
      simp [List.getD, this]
    have e2 : (placesTo s 8).getD i 0 = (placesTo s 8)[i] := by simp [List.getD, hi]
    rw [e1, e2, Bool.or_eq_true, decide_eq_true_eq]
    right
    omega
theorem setBits_places {s : Nat} (hs : s < 256) : setBits (intsOf (placesTo s 8)) = s := by
  unfold setBits
  rw [intsOf_toNat]
  exact bits_places (n := 8) hs
theorem ok_places {l : List PackD} {room : Int} (h : repoB ⟨l, room⟩ = true) {s : Nat} (hs : s < 2 ^ l.length) : okZ l room (intsOf (placesTo s 8)) = healthB l room s := by
  have hl8 := (OkL.of h).l8
  have h2 : 2 ^ l.length ≤ 2 ^ 8 := Nat.pow_le_pow_right (by omega) hl8
  unfold okZ
  rw [form_places h hs, setBits_places (by omega), Bool.true_and]
/-- All healthy states, of bits below k. -/
def statesTo (l : List PackD) (room : Int) (k : Nat) : List (List Nat) := ((List.range k).filter (healthB l room)).map (placesTo · 8)
def stateL (l : List PackD) (room : Int) : List (List Nat) := if repoB ⟨l, room⟩ then statesTo l room (2 ^ l.length) else []
theorem states_succ (l : List PackD) (room : Int) (k : Nat) : statesTo l room (k + 1) = if healthB l room k then statesTo l room k ++ [placesTo k 8] else statesTo l room k := by
  unfold statesTo
  rw [List.range_succ, List.filter_append, List.map_append]
  by_cases h : healthB l room k = true
  · rw [if_pos h]; simp [h]
  · rw [if_neg h]; simp at h; simp [h]
theorem states_le (l : List PackD) (room : Int) (k : Nat) : (statesTo l room k).length ≤ k := by
  unfold statesTo
  rw [List.length_map]
  have := List.length_filter_le (healthB l room) (List.range k)
  simpa using this

theorem row_base {B B' : Nat} {w : World} {e : TypeId} {sz : Nat} {v : Value} {n : Nat} {xs : List Value} (h : w.ownsRow B e sz v n xs) (hb : B' ≤ B) : w.ownsRow B' e sz v n xs := by
  obtain ⟨h1, h2⟩ := h
  refine ⟨h1, h2.imp id ?_⟩
  rintro ⟨g, cap, cur, hv, hg, r⟩
  exact ⟨g, cap, cur, hv, Nat.le_trans hb hg, r⟩
/-- Rows of numbers, each in memory of its own, from block B on. -/
structure Lst (B : Nat) (w : World) (v : Value) (ls : List (List Nat)) (vs : List Value) : Prop where
  len : vs.length = ls.length
  own : w.ownsRow B 26 1 v ls.length vs
  row : ∀ i, i < ls.length → w.ownsRow B 3 1 (vs.getD i undef) (ls.getD i []).length (natVs (ls.getD i []))
  apart : ∀ i j, i < j → j < ls.length → (vs.getD i undef).ownBlock = none ∨ (vs.getD i undef).ownBlock ≠ (vs.getD j undef).ownBlock
theorem Lst.nil (B : Nat) (w : World) : Lst B w (.slice none 0 0) [] [] := ⟨rfl, ⟨rfl, Or.inl ⟨rfl, rfl⟩⟩, fun i hi => absurd hi (Nat.not_lt_zero _), fun i j _ hj => absurd hj (Nat.not_lt_zero _)⟩
theorem Lst.on {B : Nat} {w w' : World} {v : Value} {ls : List (List Nat)} {vs : List Value} (h : Lst B w v ls vs) (hb : Below w.heap.size w w') : Lst B w' v ls vs := ⟨h.len, ownsRow_on h.own hb, fun i hi => ownsRow_on (h.row i hi) hb, h.apart⟩
theorem Lst.base {B B' : Nat} {w : World} {v : Value} {ls : List (List Nat)} {vs : List Value} (h : Lst B w v ls vs) (hb : B' ≤ B) : Lst B' w v ls vs := ⟨h.len, row_base h.own hb, fun i hi => row_base (h.row i hi) hb, h.apart⟩
theorem row_kind {B : Nat} {w : World} {e : TypeId} {v : Value} {n : Nat} {xs : List Value} (h : w.ownsRow B e 1 v n xs) (g : Nat) (hg : v.ownBlock = some g) : ∃ c f, w.heap[g]? = some (.cells c e f) := by
  rcases h.2 with ⟨hv, _⟩ | ⟨g', cap, cur, hv, _, hc, _⟩
  · rw [hv] at hg; cases hg
  · rw [hv] at hg
    simp [Value.ownBlock] at hg
    subst hg
    exact ⟨cur, _, hc⟩
/-- A row of numbers is none of the outer list's memory. -/
theorem row_kept {B : Nat} {w w' : World} {v u : Value} {n m : Nat} {xs ys : List Value} (h : w.ownsRow B 3 1 v n xs) (ho : w.ownsRow B 26 1 u m ys) (hg : w.grownBy w' u.ownBlock) : w'.ownsRow B 3 1 v n xs := by
  refine h.kept hg ?_
  cases hv : v.ownBlock with
  | none => exact Or.inl rfl
  | some b =>
    right
    intro e
    obtain ⟨c1, f1, e1⟩ := row_kind h b hv
    obtain ⟨c2, f2, e2⟩ := row_kind ho b e.symm
    rw [e1] at e2
    simp at e2
/-- One row more. -/
theorem Lst.snoc {B : Nat} {w w' : World} {v v' u : Value} {ls : List (List Nat)} {vs : List Value} {r : List Nat} {B2 : Nat} (h : Lst B w v ls vs) (hr : w.ownsRow B2 3 1 u r.length (natVs r)) (hB : B ≤ B2) (hold : ∀ i j, i < ls.length → (vs.getD i undef).ownBlock = some j → j < B2) (ho : w'.ownsRow B 26 1 v' (ls.length + 1) (vs ++ [u])) (hg : w.grownBy w' v.ownBlock) : Lst B w' v' (ls ++ [r]) (vs ++ [u]) := by
  have gl : ∀ i, i < ls.length → (vs ++ [u]).getD i undef = vs.getD i undef := fun i hi => by
    have : i < vs.length := by rw [h.len]; exact hi
    simp [List.getD, List.getElem?_append, this]
  have ge : (vs ++ [u]).getD ls.length undef = u := by rw [← h.len]; simp [List.getD]
  have gl' : ∀ i, i < ls.length → (ls ++ [r]).getD i [] = ls.getD i [] := fun i hi => by simp [List.getD, List.getElem?_append, hi]
  have ge' : (ls ++ [r]).getD ls.length [] = r := by simp [List.getD]
  refine ⟨by simp [h.len], by simpa using ho, fun i hi => ?_, fun i j hij hj => ?_⟩
  · by_cases e : i < ls.length
    · rw [gl i e, gl' i e]
      exact row_kept (h.row i e) h.own hg
    · have : i = ls.length := by simp at hi; omega
      subst this
      rw [ge, ge']
      exact row_kept (row_base hr hB) h.own hg
  · by_cases e : j < ls.length
    · rw [gl i (by omega), gl j e]
      exact h.apart i j hij e
    · have : j = ls.length := by simp at hj; omega
      subst this
      rw [gl i hij, ge]
      cases hv : (vs.getD i undef).ownBlock with
      | none => exact Or.inl rfl
      | some b =>
        right
        intro e2
        have h1 := hold i b hij hv
        have h2 := (hr.lt b e2.symm).1
        omega
theorem Lst.lt {B : Nat} {w : World} {v : Value} {ls : List (List Nat)} {vs : List Value} (h : Lst B w v ls vs) : ∀ i j, i < ls.length → (vs.getD i undef).ownBlock = some j → j < w.heap.size := fun i j hi hj => ((h.row i hi).lt j hj).2
theorem Tryz.infoInts : (Tryz.prog.info? 26).map (fun i => (i.zero, i.size, i.bytes)) = some (some (.slice none 0 0), 1, 24) := by kernel_rfl
theorem SetAt.of_row {B : Nat} {w : World} {v : Value} {l : List Nat} (h : w.ownsRow B 3 1 v l.length (natVs l)) (hl : l.length ≤ 1048576) : ∃ a cap, v = .slice a (intsOf l).length cap ∧ SetAt w a (intsOf l) := by
  obtain ⟨a, cap, hv, hc⟩ := PlAt.of_row h
  have e : (intsOf l).length = l.length := by simp [intsOf]
  refine ⟨a, cap, by rw [e]; exact hv, by omega, ?_⟩
  rcases hc with hc | ⟨b, ha, hb, hc⟩
  · left; rw [hc]; rfl
  · right
    refine ⟨b, 0, ha, hb, fun i hi => ?_⟩
    rw [e] at hi
    rw [Nat.zero_add, intsOf_getD hi]
    exact hc i hi
end Go.Proofs.YthkhaemlcmkkjasGreat

namespace Go.Proofs.YthkhaemlcmkkjasGreat
set_option linter.unusedVariables false
set_option linter.unusedSimpArgs false
open Go.RowKit Go.Deep

/-- Numbers that lie in memory of their own. -/
abbrev RowI (B : Nat) (w : World) (v : Value) (l : List Int) : Prop := w.ownsRow B 3 1 v l.length (l.map fun i => .int .i64 i)
theorem RowI.set {B : Nat} {w : World} {v : Value} {l : List Int} (h : RowI B w v l) (hl : l.length ≤ 1048576) : ∃ a cap, v = .slice a l.length cap ∧ SetAt w a l := by
  obtain ⟨h1, h2⟩ := h
  rcases h2 with ⟨hv, h0⟩ | ⟨g, cap, cur, hv, hB, hc, hcap, _, hsz, hx⟩
  · have : l = [] := List.length_eq_zero_iff.1 h0
    subst this
    exact ⟨none, 0, hv, by simp, Or.inl rfl⟩
  · refine ⟨some ⟨g, 0, none⟩, cap, hv, hl, Or.inr ⟨g, 0, rfl, (Array.getElem?_eq_some_iff.1 hc).1, fun i hi => ?_⟩⟩
    have e : cur.toList[i]? = some (.int .i64 (l.getD i 0)) := by
      have : (cur.toList.take (l.length * 1))[i]? = (l.map fun i => Value.int .i64 i)[i]? := by rw [hx]
      rw [List.getElem?_take, if_pos (by omega)] at this
      rw [this]
      simp [List.getD, hi]
    simp only [World.cell?, hc, Nat.zero_add]
    simpa using e

/-- Rows of numbers, each in memory of its own. -/
structure LstI (B : Nat) (w : World) (v : Value) (lss : List (List Int)) (vs : List Value) : Prop where
  len : vs.length = lss.length
  own : w.ownsRow B 26 1 v lss.length vs
  row : ∀ i, i < lss.length → RowI B w (vs.getD i undef) (lss.getD i [])
  apart : ∀ i j, i < j → j < lss.length → (vs.getD i undef).ownBlock = none ∨ (vs.getD i undef).ownBlock ≠ (vs.getD j undef).ownBlock
theorem Lst.ints {B : Nat} {w : World} {v : Value} {ls : List (List Nat)} {vs : List Value} (h : Lst B w v ls vs) : LstI B w v (ls.map intsOf) vs := by
  have e : ∀ i, i < ls.length → (ls.map intsOf).getD i [] = intsOf (ls.getD i []) := fun i hi => by simp [List.getD, hi]
  refine ⟨by simp [h.len], by simpa using h.own, fun i hi => ?_, fun i j hij hj => h.apart i j hij (by simpa using hj)⟩
  have hi : i < ls.length := by simpa using hi
  rw [e i hi]
  have := h.row i hi
  unfold RowI
  have e2 : (intsOf (ls.getD i [])).map (fun i => Value.int .i64 i) = natVs (ls.getD i []) := by simp [intsOf, natVs]
  rw [e2]
  simpa [intsOf] using this
theorem LstI.on {B : Nat} {w w' : World} {v : Value} {lss : List (List Int)} {vs : List Value} (h : LstI B w v lss vs) (hb : Below w.heap.size w w') : LstI B w' v lss vs := ⟨h.len, ownsRow_on h.own hb, fun i hi => ownsRow_on (h.row i hi) hb, h.apart⟩
theorem LstI.far {B B' : Nat} {w w' : World} {v : Value} {lss : List (List Int)} {vs : List Value} (h : LstI B w v lss vs) (hb : Below B' w w') (hlt : ∀ j, v.ownBlock = some j → j < B') (hlt' : ∀ i j, i < lss.length → (vs.getD i undef).ownBlock = some j → j < B') : LstI B w' v lss vs := by
  have key : ∀ {e : TypeId} {u : Value} {n : Nat} {xs : List Value}, w.ownsRow B e 1 u n xs → (∀ j, u.ownBlock = some j → j < B') → w'.ownsRow B e 1 u n xs := fun {e u n xs} ho hu => by
    obtain ⟨h1, h2⟩ := ho
    refine ⟨h1, h2.imp id ?_⟩
    rintro ⟨g, cap, cur, hv, hg, hc, r⟩
    exact ⟨g, cap, cur, hv, hg, (hb.block g (hu g (by rw [hv]; rfl))).trans hc, r⟩
  exact ⟨h.len, key h.own hlt, fun i hi => key (h.row i hi) (hlt' i · hi), h.apart⟩
theorem LstI.cell {B : Nat} {w : World} {v : Value} {lss : List (List Int)} {vs : List Value} (h : LstI B w v lss vs) {i : Nat} (hi : i < lss.length) : ∃ g cap, v = .slice (some ⟨g, 0, none⟩) lss.length cap ∧ B ≤ g ∧ g < w.heap.size ∧ w.cell? ⟨g, i, none⟩ = some (vs.getD i undef) := by
  rcases h.own.2 with ⟨_, h0⟩ | ⟨g, cap, cur, hv, hB, hc, hcap, _, hsz, hx⟩
  · omega
  · refine ⟨g, cap, hv, hB, (Array.getElem?_eq_some_iff.1 hc).1, ?_⟩
    have hiv : i < vs.length := by rw [h.len]; exact hi
    have e : cur.toList[i]? = some (vs.getD i undef) := by
      have : (cur.toList.take (lss.length * 1))[i]? = vs[i]? := by rw [hx]
      rw [List.getElem?_take, if_pos (by omega)] at this
      rw [this]
      simp [List.getD, hiv]
    simp only [World.cell?, hc]
    simpa using e
theorem LstI.slice {B : Nat} {w : World} {v : Value} {lss : List (List Int)} {vs : List Value} (h : LstI B w v lss vs) : ∃ a cap, v = .slice a lss.length cap := by
  rcases h.own.2 with ⟨hv, h0⟩ | ⟨g, cap, cur, hv, _⟩
  · exact ⟨none, 0, by rw [hv, h0]⟩
  · exact ⟨_, _, hv⟩
theorem RowI.nil (w : World) : RowI w.heap.size (w.alloc (.cells #[] 3)) (.slice (some ⟨w.heap.size, 0, none⟩) 0 0) [] :=
  ⟨rfl, Or.inr ⟨w.heap.size, 0, #[], rfl, Nat.le_refl _, blk_alloc_new _ _, Nat.zero_le _, Nat.zero_le _, rfl, rfl⟩⟩
end Go.Proofs.YthkhaemlcmkkjasGreat

namespace Go.Proofs.YthkhaemlcmkkjasGreat
set_option linter.unusedVariables false
set_option linter.unusedSimpArgs false
open Go.RowKit Go.Deep

theorem row_cap0 {B n c : Nat} {w : World} {a : Option Addr} {l : List Int} (h : RowI B w (.slice a n c) l) (ha : a = none) : c = 0 := by
  subst ha
  rcases h.2 with ⟨hv, _⟩ | ⟨g, cap, cur, hv, _⟩
  · simp at hv; exact hv.2
  · simp at hv
end Go.Proofs.YthkhaemlcmkkjasGreat
