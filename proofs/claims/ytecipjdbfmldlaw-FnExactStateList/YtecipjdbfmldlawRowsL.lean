/- The law's own functions on rows of numbers. -/
import Derived.Test.YtecipjdbfmldlawStP
import Derived.Test.YtecipjdbfmldlawToI
namespace Go.Proofs.Ytecipjdbfmldlaw
set_option linter.unusedVariables false
set_option linter.unusedSimpArgs false
open Go.RowKit Go.Deep

/-- Numbers that lie in memory of their own. -/
abbrev RowI (B : Nat) (w : World) (v : Value) (l : List Int) : Prop := w.ownsRow B 3 1 v l.length (l.map fun i => .int .i64 i)
def upsK (k : Int) (n : Nat) : List Int := (List.range n).map fun i : Nat => k + i
theorem upsK_getD (k : Int) (n i : Nat) (h : i < n) : (upsK k n).getD i 0 = k + i := by simp [upsK, List.getD, h]
theorem upsK_length (k : Int) (n : Nat) : (upsK k n).length = n := by simp [upsK]
theorem RowI.set {B : Nat} {w : World} {v : Value} {l : List Int} (h : RowI B w v l) (hl : l.length ≤ 1048576) : ∃ a cap, v = .slice a l.length cap ∧ SetAt w a l := by
  obtain ⟨h1, h2⟩ := h
  rcases h2 with ⟨hv, h0⟩ | ⟨g, cap, cur, hv, hB, hc, hcap, _, hsz, hx⟩
  · have : l = [] := List.length_eq_zero_iff.1 h0
    subst this
    exact ⟨none, 0, hv, by simp, Or.inl rfl⟩
  · refine ⟨some ⟨g, 0, none⟩, cap, hv, hl, Or.inr ⟨g, 0, rfl, (Array.getElem?_eq_some_iff.1 hc).1, fun i hi => ?_⟩⟩
    have e : cur.toList[i]? = some (.int .i64 (l.getD i 0)) := by
      have : (cur.toList.take (l.length * 1))[i]? = (l.map fun i => Value.int .i64 i)[i]? := by rw [hx]
      rw [List.getElem?_take, if_pos (by omega)] at this
      rw [this]
      simp [List.getD, hi]
    simp only [World.cell?, hc, Nat.zero_add]
    simpa using e

set_option maxHeartbeats 1000000 in
theorem heldIntS_k (k0 : Int) (a : Option Addr) (n cap : Nat) (w : World) (h : SetAt w a (upsK k0 n)) (hk0 : 0 ≤ k0) (hk1 : k0 ≤ 1000000000) :
    Calls Try.prog 42 #[.slice a n cap, .int .i64 k0] w fun e w' => e = .returned (.int .i64 (k0 + n)) ∧ Below w.heap.size w w' := by
  obtain ⟨hm, h⟩ := h
  rw [upsK_length] at h hm
  go_enter Try.func42, Try.ntmps42
  go_wp2
  go_loopw [1, 5] (fun z i wr => ∃ k : Nat, k ≤ n ∧ i = .int .i64 k ∧ z = .int .i64 (k0 + k) ∧ Drawn w wr) (fun _ i _ => n - (intOf i).toNat)
  case atStart => exact ⟨0, Nat.zero_le _, rfl, by simp, Drawn.refl _⟩
  case round =>
    rename World => wo
    obtain ⟨k, hk, rfl, rfl, hw⟩ := hrel
    by_cases hlt : k < n
    · rcases h with h | ⟨b, o, rfl, hb, h⟩
      · have := upsK_length k0 n; rw [h] at this; simp at this; omega
      have c0 := h k hlt
      rw [upsK_getD k0 n k hlt, ← hw.cell] at c0
      clear h
      have j0 : (0 : Int) ≤ (k : Int) := by omega
      have j1 : (k : Int) < (n : Int) := by omega
      have hw1 : IntKind.i64.wrap (k0 + (k : Int) + 1) = k0 + (k : Int) + 1 := by rw [IntKind.wrap_i64]; omega
      go_wp2_with fail
      exact ⟨⟨k + 1, by omega, by go_num, by rw [show k0 + (k : Int) + 1 = k0 + ((k + 1 : Nat) : Int) by omega], hw⟩, by simp [intOf]; omega⟩
    · have j1 : ¬ (k : Int) < (n : Int) := by omega
      go_wp2_with fail
      go_ret
      refine ⟨?_, hw.below _⟩
      rw [show (n : Int) = (k : Int) by omega]
      rfl

set_option maxHeartbeats 1000000 in
theorem markIntS_k (k0 : Int) (B : Nat) (v : Value) (l : List Int) (w : World) (h : RowI B w v l) (hs : l.length ≤ 1048576) (hk0 : 0 ≤ k0) (hk1 : k0 ≤ 1000000000) :
    Calls Try.prog 41 #[v, .int .i64 k0] w fun e w' => e = .returned (.int .i64 (k0 + l.length)) ∧ w.grownBy w' v.ownBlock ∧ RowI B w' v (upsK k0 l.length) := by
  unfold RowI
  rw [upsK_length]
  obtain ⟨h1, h2⟩ := h
  rcases h2 with ⟨rfl, h0⟩ | ⟨g, cap, cur, rfl, hB, hc, hcap, hmax, hsz, hx⟩
  · have : l = [] := List.length_eq_zero_iff.1 h0
    subst this
    go_enter Try.func41, Try.ntmps41
    go_wp2
    refine wp_loop_rounds 1 ?_
    rw [rounds_succ]
    go_wp2
    go_ret
    exact ⟨by simp, ⟨rfl, rfl, rfl, Nat.le_refl _, fun _ _ _ => rfl⟩, World.ownsRow_nil _ _ _ _⟩
  · have HX := hide hx
    clear hx h1
    generalize l.length = n at *
    go_enter Try.func41, Try.ntmps41
    go_wp2
    go_loopw [1, 5] (fun z i wr => ∃ (k : Nat) (C : Array Value), k ≤ n ∧ i = .int .i64 k ∧ z = .int .i64 (k0 + k) ∧ Hid (w.grownBy wr (some g)) ∧ wr.heap[g]? = some (.cells C 3 (0, 0)) ∧ C.size = cap * 1 ∧ Hid (∀ i, i < k → C[i]? = some (.int .i64 (k0 + i)))) (fun _ i _ => n - (intOf i).toNat)
    case atStart => exact ⟨0, cur, Nat.zero_le _, rfl, by simp, ⟨rfl, rfl, rfl, Nat.le_refl _, fun _ _ _ => rfl⟩, hc, hsz, fun i hi => absurd hi (Nat.not_lt_zero _)⟩
    case round =>
      rename World => wo
      obtain ⟨k, C, hk, rfl, rfl, hw, hC, hCs, hl⟩ := hrel
      by_cases hlt : k < n
      · have x0 : wo.cell? ⟨g, k, none⟩ = some (C[k]'(by omega)) := by simp [World.cell?, hC, show k < C.size by omega]
        have f0 : wo.frozen? ⟨g, k, none⟩ = false := by simp [World.frozen?, hC]
        have HC := hide hC
        have hw1 : IntKind.i64.wrap (k0 + (k : Int) + 1) = k0 + (k : Int) + 1 := by rw [IntKind.wrap_i64]; omega
        have j1 : (k : Int) < (n : Int) := by omega
        clear hC
        go_wp2_with fail
        refine ⟨⟨k + 1, C.setIfInBounds k (.int .i64 (k0 + k)), by omega, by go_num, by rw [show k0 + (k : Int) + 1 = k0 + ((k + 1 : Nat) : Int) by omega], ?_, blk_set (unhide HC) k _, by simpa using hCs, ?_⟩, by simp [intOf]; omega⟩
        · exact ⟨hw.out.os, hw.out.tape, hw.out.output, by rw [nblk_setCell]; exact hw.out.size, fun b hb hne => (blk_setCell_other _ _ _ _ (by intro e; exact hne (by rw [e]))).trans (hw.out.block b hb hne)⟩
        · intro i hi
          rw [Array.getElem?_setIfInBounds]
          by_cases e : k = i
          · subst e; simp [show k < C.size by omega]
          · rw [if_neg e]; exact hl.out i (by omega)
      · have j1 : ¬ (k : Int) < (n : Int) := by omega
        go_wp2_with fail
        go_ret
        refine ⟨?_, hw.out, ?_⟩
        · rw [show (n : Int) = (k : Int) by omega]
          rfl
        · refine ⟨by simp [upsK_length], Or.inr ⟨g, cap, C, rfl, hB, hC, hcap, hmax, hCs, ?_⟩⟩
          apply List.ext_getElem?
          intro i
          rw [List.getElem?_take]
          by_cases hi : i < n
          · rw [if_pos (by omega)]
            have := hl.out i (by omega)
            simp [upsK, hi]
            simpa using this
          · rw [if_neg (by omega)]
            simp [upsK, hi]

/-- Rows of numbers, each in memory of its own. -/
structure LstI (B : Nat) (w : World) (v : Value) (lss : List (List Int)) (vs : List Value) : Prop where
  len : vs.length = lss.length
  own : w.ownsRow B 25 1 v lss.length vs
  row : ∀ i, i < lss.length → RowI B w (vs.getD i undef) (lss.getD i [])
  apart : ∀ i j, i < j → j < lss.length → (vs.getD i undef).ownBlock = none ∨ (vs.getD i undef).ownBlock ≠ (vs.getD j undef).ownBlock
theorem Lst.ints {B : Nat} {w : World} {v : Value} {ls : List (List Nat)} {vs : List Value} (h : Lst B w v ls vs) : LstI B w v (ls.map intsOf) vs := by
  have e : ∀ i, i < ls.length → (ls.map intsOf).getD i [] = intsOf (ls.getD i []) := fun i hi => by simp [List.getD, hi]
  refine ⟨by simp [h.len], by simpa using h.own, fun i hi => ?_, fun i j hij hj => h.apart i j hij (by simpa using hj)⟩
  have hi : i < ls.length := by simpa using hi
  rw [e i hi]
  have := h.row i hi
  unfold RowI
  have e2 : (intsOf (ls.getD i [])).map (fun i => Value.int .i64 i) = natVs (ls.getD i []) := by simp [intsOf, natVs]
  rw [e2]
  simpa [intsOf] using this
theorem LstI.on {B : Nat} {w w' : World} {v : Value} {lss : List (List Int)} {vs : List Value} (h : LstI B w v lss vs) (hb : Below w.heap.size w w') : LstI B w' v lss vs := ⟨h.len, ownsRow_on h.own hb, fun i hi => ownsRow_on (h.row i hi) hb, h.apart⟩
theorem LstI.far {B B' : Nat} {w w' : World} {v : Value} {lss : List (List Int)} {vs : List Value} (h : LstI B w v lss vs) (hb : Below B' w w') (hlt : ∀ j, v.ownBlock = some j → j < B') (hlt' : ∀ i j, i < lss.length → (vs.getD i undef).ownBlock = some j → j < B') : LstI B w' v lss vs := by
  have key : ∀ {e : TypeId} {u : Value} {n : Nat} {xs : List Value}, w.ownsRow B e 1 u n xs → (∀ j, u.ownBlock = some j → j < B') → w'.ownsRow B e 1 u n xs := fun {e u n xs} ho hu => by
    obtain ⟨h1, h2⟩ := ho
    refine ⟨h1, h2.imp id ?_⟩
    rintro ⟨g, cap, cur, hv, hg, hc, r⟩
    exact ⟨g, cap, cur, hv, hg, (hb.block g (hu g (by rw [hv]; rfl))).trans hc, r⟩
  exact ⟨h.len, key h.own hlt, fun i hi => key (h.row i hi) (hlt' i · hi), h.apart⟩
theorem LstI.cell {B : Nat} {w : World} {v : Value} {lss : List (List Int)} {vs : List Value} (h : LstI B w v lss vs) {i : Nat} (hi : i < lss.length) : ∃ g cap, v = .slice (some ⟨g, 0, none⟩) lss.length cap ∧ B ≤ g ∧ g < w.heap.size ∧ w.cell? ⟨g, i, none⟩ = some (vs.getD i undef) := by
  rcases h.own.2 with ⟨_, h0⟩ | ⟨g, cap, cur, hv, hB, hc, hcap, _, hsz, hx⟩
  · omega
  · refine ⟨g, cap, hv, hB, (Array.getElem?_eq_some_iff.1 hc).1, ?_⟩
    have hiv : i < vs.length := by rw [h.len]; exact hi
    have e : cur.toList[i]? = some (vs.getD i undef) := by
      have : (cur.toList.take (lss.length * 1))[i]? = vs[i]? := by rw [hx]
      rw [List.getElem?_take, if_pos (by omega)] at this
      rw [this]
      simp [List.getD, hiv]
    simp only [World.cell?, hc]
    simpa using e
theorem LstI.slice {B : Nat} {w : World} {v : Value} {lss : List (List Int)} {vs : List Value} (h : LstI B w v lss vs) : ∃ a cap, v = .slice a lss.length cap := by
  rcases h.own.2 with ⟨hv, h0⟩ | ⟨g, cap, cur, hv, _⟩
  · exact ⟨none, 0, by rw [hv, h0]⟩
  · exact ⟨_, _, hv⟩
/-- The marks of rows, from k on, and what comes behind them. -/
def markL : Int → List (List Int) → List (List Int)
  | _, [] => []
  | k, l :: ls => upsK k l.length :: markL (k + l.length) ls
def endK : Int → List (List Int) → Int
  | k, [] => k
  | k, l :: ls => endK (k + l.length) ls
theorem markL_len : ∀ (k : Int) (ls : List (List Int)), (markL k ls).length = ls.length
  | _, [] => rfl
  | k, l :: ls => by simp [markL, markL_len _ ls]
theorem markL_getD : ∀ (k : Int) (ls : List (List Int)) (i : Nat), i < ls.length → (markL k ls).getD i [] = upsK (endK k (ls.take i)) (ls.getD i []).length
  | _, [], i, hi => absurd hi (Nat.not_lt_zero _)
  | k, l :: ls, 0, _ => by simp [markL, endK]
  | k, l :: ls, i + 1, hi => by
    have := markL_getD (k + l.length) ls i (by simpa using hi)
    simpa [markL, endK] using this
theorem endK_snoc : ∀ (k : Int) (ls : List (List Int)) (l : List Int), endK k (ls ++ [l]) = endK k ls + l.length
  | k, [], l => rfl
  | k, x :: ls, l => endK_snoc (k + x.length) ls l
theorem endK_bound : ∀ (k : Int) (ls : List (List Int)), 0 ≤ k → (∀ l ∈ ls, l.length ≤ 1000) → k ≤ endK k ls ∧ endK k ls ≤ k + 1000 * ls.length
  | k, [], hk, _ => by simp [endK]
  | k, l :: ls, hk, h => by
    have h1 := h l (by simp)
    have := endK_bound (k + l.length) ls (by omega) (fun x hx => h x (by simp [hx]))
    simp only [endK, List.length_cons]
    omega
theorem endK_mark : ∀ (k : Int) (ls : List (List Int)), endK k (markL k ls) = endK k ls
  | _, [] => rfl
  | k, l :: ls => by
    simp only [markL, endK, upsK_length]
    exact endK_mark _ ls
end Go.Proofs.Ytecipjdbfmldlaw
