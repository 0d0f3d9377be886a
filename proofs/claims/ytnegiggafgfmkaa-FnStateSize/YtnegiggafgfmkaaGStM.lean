/- Lists of states. StateList of both sides. Numbers that lie in memory of their own. -/
import Derived.Test.YtnegiggafgfmkaaGPure
namespace Go.Proofs.Ytnegiggafgfmkaa
set_option linter.unusedVariables false
set_option linter.unusedSimpArgs false
open Go.RowKit Go.Deep

theorem mem_places (s k i : Nat) : i ∈ placesTo s k ↔ i < k ∧ s.testBit i = true := by
  unfold placesTo
  rw [List.mem_filter, List.mem_range, has_test]
theorem bits_places {s : Nat} {n : Nat} (h : s < 2 ^ n) : bitsOf (placesTo s n) = s := by
  apply Nat.eq_of_testBit_eq
  intro i
  rw [test_bits, Bool.eq_iff_iff, decide_eq_true_eq, mem_places]
  constructor
  · exact fun h => h.2
  · intro hi
    refine ⟨?_, hi⟩
    rcases Nat.lt_or_ge i n with h1 | h1
    · exact h1
    · have h2 : s < 2 ^ i := Nat.lt_of_lt_of_le h (Nat.pow_le_pow_right (by omega) h1)
      rw [Nat.testBit_lt_two_pow h2] at hi
      cases hi
theorem places_asc (s k : Nat) : (placesTo s k).Pairwise (· < ·) := by
  unfold placesTo
  exact List.Pairwise.filter _ List.pairwise_lt_range
def intsOf (l : List Nat) : List Int := l.map fun n : Nat => (n : Int)
theorem intsOf_toNat (l : List Nat) : (intsOf l).map Int.toNat = l := by
  unfold intsOf
  rw [List.map_map]
  conv => rhs; rw [← List.map_id l]
  apply List.map_congr_left
  intro a _
  simp
theorem intsOf_getD {l : List Nat} {i : Nat} (h : i < l.length) : (intsOf l).getD i 0 = ((l.getD i 0 : Nat) : Int) := by
  simp [intsOf, List.getD, h]
/-- The places of bits are in form. -/
theorem form_places {l : List PackD} {room : Int} (h : repoB ⟨l, room⟩ = true) {s : Nat} (hs : s < 2 ^ l.length) : formB l room (intsOf (placesTo s 8)) = true := by
  have hl8 := (OkL.of h).l8
  unfold formB placesB
  rw [h, Bool.and_true, List.all_eq_true]
  intro i hi
  have hi : i < (placesTo s 8).length := by simpa [intsOf] using List.mem_range.1 hi
  unfold placeB
  rw [intsOf_getD hi]
  have hmem : (placesTo s 8).getD i 0 ∈ placesTo s 8 := getD_mem hi
  have hb := (mem_places s 8 _).1 hmem
  have hlt : (placesTo s 8).getD i 0 < l.length := by
    rcases Nat.lt_or_ge ((placesTo s 8).getD i 0) l.length with h1 | h1
    · exact h1
    · have h2 : s < 2 ^ (placesTo s 8).getD i 0 := Nat.lt_of_lt_of_le hs (Nat.pow_le_pow_right (by omega) h1)
      rw [Nat.testBit_lt_two_pow h2] at hb
      cases hb.2
  rw [Bool.and_eq_true]
  refine ⟨by unfold inB; rw [Bool.and_eq_true, decide_eq_true_eq, decide_eq_true_eq]; omega, ?_⟩
  by_cases h0 : i = 0
  · simp [h0]
  · rw [intsOf_getD (by omega)]
    have hp := List.pairwise_iff_getElem.1 (places_asc s 8) (i - 1) i (by omega) hi (by omega)
    have e1 : (placesTo s 8).getD (i - 1) 0 = (placesTo s 8)[i - 1]'(by omega) := by
      have : i - 1 < (placesTo s 8).length := by omega
      simp [List.getD, this]
    have e2 : (placesTo s 8).getD i 0 = (placesTo s 8)[i] := by simp [List.getD, hi]
    rw [e1, e2, Bool.or_eq_true, decide_eq_true_eq]
    right
    omega
theorem setBits_places {s : Nat} (hs : s < 256) : setBits (intsOf (placesTo s 8)) = s := by
  unfold setBits
  rw [intsOf_toNat]
  exact bits_places (n := 8) hs
theorem ok_places {l : List PackD} {room : Int} (h : repoB ⟨l, room⟩ = true) {s : Nat} (hs : s < 2 ^ l.length) : okZ l room (intsOf (placesTo s 8)) = healthB l room s := by
  have hl8 := (OkL.of h).l8
  have h2 : 2 ^ l.length ≤ 2 ^ 8 := Nat.pow_le_pow_right (by omega) hl8
  unfold okZ
  rw [form_places h hs, setBits_places (by omega), Bool.true_and]
/-- All healthy states, of bits below k. -/
def statesTo (l : List PackD) (room : Int) (k : Nat) : List (List Nat) := ((List.range k).filter (healthB l room)).map (placesTo · 8)
def stateL (l : List PackD) (room : Int) : List (List Nat) := if repoB ⟨l, room⟩ then statesTo l room (2 ^ l.length) else []
theorem states_succ (l : List PackD) (room : Int) (k : Nat) : statesTo l room (k + 1) = if healthB l room k then statesTo l room k ++ [placesTo k 8] else statesTo l room k := by
  unfold statesTo
  rw [List.range_succ, List.filter_append, List.map_append]
  by_cases h : healthB l room k = true
  · rw [if_pos h]; simp [h]
  · rw [if_neg h]; simp at h; simp [h]
theorem states_le (l : List PackD) (room : Int) (k : Nat) : (statesTo l room k).length ≤ k := by
  unfold statesTo
  rw [List.length_map]
  have := List.length_filter_le (healthB l room) (List.range k)
  simpa using this

theorem row_base {B B' : Nat} {w : World} {e : TypeId} {sz : Nat} {v : Value} {n : Nat} {xs : List Value} (h : w.ownsRow B e sz v n xs) (hb : B' ≤ B) : w.ownsRow B' e sz v n xs := by
  obtain ⟨h1, h2⟩ := h
  refine ⟨h1, h2.imp id ?_⟩
  rintro ⟨g, cap, cur, hv, hg, r⟩
  exact ⟨g, cap, cur, hv, Nat.le_trans hb hg, r⟩
/-- Rows of numbers, each in memory of its own, from block B on. -/
structure Lst (B : Nat) (w : World) (v : Value) (ls : List (List Nat)) (vs : List Value) : Prop where
  len : vs.length = ls.length
  own : w.ownsRow B 30 1 v ls.length vs
  row : ∀ i, i < ls.length → w.ownsRow B 3 1 (vs.getD i undef) (ls.getD i []).length (natVs (ls.getD i []))
  apart : ∀ i j, i < j → j < ls.length → (vs.getD i undef).ownBlock = none ∨ (vs.getD i undef).ownBlock ≠ (vs.getD j undef).ownBlock
theorem Lst.nil (B : Nat) (w : World) : Lst B w (.slice none 0 0) [] [] := ⟨rfl, ⟨rfl, Or.inl ⟨rfl, rfl⟩⟩, fun i hi => absurd hi (Nat.not_lt_zero _), fun i j _ hj => absurd hj (Nat.not_lt_zero _)⟩
theorem Lst.on {B : Nat} {w w' : World} {v : Value} {ls : List (List Nat)} {vs : List Value} (h : Lst B w v ls vs) (hb : Below w.heap.size w w') : Lst B w' v ls vs := ⟨h.len, ownsRow_on h.own hb, fun i hi => ownsRow_on (h.row i hi) hb, h.apart⟩
theorem Lst.base {B B' : Nat} {w : World} {v : Value} {ls : List (List Nat)} {vs : List Value} (h : Lst B w v ls vs) (hb : B' ≤ B) : Lst B' w v ls vs := ⟨h.len, row_base h.own hb, fun i hi => row_base (h.row i hi) hb, h.apart⟩
theorem row_kind {B : Nat} {w : World} {e : TypeId} {v : Value} {n : Nat} {xs : List Value} (h : w.ownsRow B e 1 v n xs) (g : Nat) (hg : v.ownBlock = some g) : ∃ c f, w.heap[g]? = some (.cells c e f) := by
  rcases h.2 with ⟨hv, _⟩ | ⟨g', cap, cur, hv, _, hc, _⟩
  · rw [hv] at hg; cases hg
  · rw [hv] at hg
    simp [Value.ownBlock] at hg
    subst hg
    exact ⟨cur, _, hc⟩
/-- A row of numbers is none of the outer list's memory. -/
theorem row_kept {B : Nat} {w w' : World} {v u : Value} {n m : Nat} {xs ys : List Value} (h : w.ownsRow B 3 1 v n xs) (ho : w.ownsRow B 30 1 u m ys) (hg : w.grownBy w' u.ownBlock) : w'.ownsRow B 3 1 v n xs := by
  refine h.kept hg ?_
  cases hv : v.ownBlock with
  | none => exact Or.inl rfl
  | some b =>
    right
    intro e
    obtain ⟨c1, f1, e1⟩ := row_kind h b hv
    obtain ⟨c2, f2, e2⟩ := row_kind ho b e.symm
    rw [e1] at e2
    simp at e2
/-- One row more. -/
theorem Lst.snoc {B : Nat} {w w' : World} {v v' u : Value} {ls : List (List Nat)} {vs : List Value} {r : List Nat} {B2 : Nat} (h : Lst B w v ls vs) (hr : w.ownsRow B2 3 1 u r.length (natVs r)) (hB : B ≤ B2) (hold : ∀ i j, i < ls.length → (vs.getD i undef).ownBlock = some j → j < B2) (ho : w'.ownsRow B 30 1 v' (ls.length + 1) (vs ++ [u])) (hg : w.grownBy w' v.ownBlock) : Lst B w' v' (ls ++ [r]) (vs ++ [u]) := by
  have gl : ∀ i, i < ls.length → (vs ++ [u]).getD i undef = vs.getD i undef := fun i hi => by
    have : i < vs.length := by rw [h.len]; exact hi
    simp [List.getD, List.getElem?_append, this]
  have ge : (vs ++ [u]).getD ls.length undef = u := by rw [← h.len]; simp [List.getD]
  have gl' : ∀ i, i < ls.length → (ls ++ [r]).getD i [] = ls.getD i [] := fun i hi => by simp [List.getD, List.getElem?_append, hi]
  have ge' : (ls ++ [r]).getD ls.length [] = r := by simp [List.getD]
  refine ⟨by simp [h.len], by simpa using ho, fun i hi => ?_, fun i j hij hj => ?_⟩
  · by_cases e : i < ls.length
    · rw [gl i e, gl' i e]
      exact row_kept (h.row i e) h.own hg
    · have : i = ls.length := by simp at hi; omega
      subst this
      rw [ge, ge']
      exact row_kept (row_base hr hB) h.own hg
  · by_cases e : j < ls.length
    · rw [gl i (by omega), gl j e]
      exact h.apart i j hij e
    · have : j = ls.length := by simp at hj; omega
      subst this
      rw [gl i hij, ge]
      cases hv : (vs.getD i undef).ownBlock with
      | none => exact Or.inl rfl
      | some b =>
        right
        intro e2
        have h1 := hold i b hij hv
        have h2 := (hr.lt b e2.symm).1
        omega
theorem Lst.lt {B : Nat} {w : World} {v : Value} {ls : List (List Nat)} {vs : List Value} (h : Lst B w v ls vs) : ∀ i j, i < ls.length → (vs.getD i undef).ownBlock = some j → j < w.heap.size := fun i j hi hj => ((h.row i hi).lt j hj).2
theorem Try.infoInts : (Try.prog.info? 30).map (fun i => (i.zero, i.size, i.bytes)) = some (some (.slice none 0 0), 1, 24) := by kernel_rfl
theorem SetAt.of_row {B : Nat} {w : World} {v : Value} {l : List Nat} (h : w.ownsRow B 3 1 v l.length (natVs l)) (hl : l.length ≤ 1048576) : ∃ a cap, v = .slice a (intsOf l).length cap ∧ SetAt w a (intsOf l) := by
  obtain ⟨a, cap, hv, hc⟩ := PlAt.of_row h
  have e : (intsOf l).length = l.length := by simp [intsOf]
  refine ⟨a, cap, by rw [e]; exact hv, by omega, ?_⟩
  rcases hc with hc | ⟨b, ha, hb, hc⟩
  · left; rw [hc]; rfl
  · right
    refine ⟨b, 0, ha, hb, fun i hi => ?_⟩
    rw [e] at hi
    rw [Nat.zero_add, intsOf_getD hi]
    exact hc i hi
end Go.Proofs.Ytnegiggafgfmkaa

namespace Go.Proofs.Ytnegiggafgfmkaa
set_option linter.unusedVariables false
set_option linter.unusedSimpArgs false
open Go.RowKit Go.Deep

theorem places_stop {n k : Nat} (h : n >>> k = 0) (hk : k ≤ 8) (hn : n < 256) : placesTo n k = placesTo n 8 := by
  have hz : ∀ i, k ≤ i → n.testBit i = false := fun i hi => by
    have : (n >>> k).testBit (i - k) = n.testBit i := by rw [Nat.testBit_shiftRight]; congr 1; omega
    rw [← this, h, Nat.zero_testBit]
  have step : ∀ d, k + d ≤ 8 → placesTo n (k + d) = placesTo n k := by
    intro d
    induction d with
    | zero => intro _; rfl
    | succ d ih =>
      intro hd
      rw [show k + (d + 1) = (k + d) + 1 by omega, places_succ, has_test, hz (k + d) (by omega), ih (by omega)]
      simp
  have := step (8 - k) (by omega)
  rw [show k + (8 - k) = 8 by omega] at this
  exact this.symm

set_option maxRecDepth 10000 in
set_option maxHeartbeats 2000000 in
theorem l2Set_any (n : Nat) (hn : n < 256) (w : World) :
    Calls Try.prog 56 #[.int .i64 (n : Int)] w fun e w' => (∃ v, e = .returned v ∧ w'.ownsRow w.heap.size 3 1 v (placesTo n 8).length (natVs (placesTo n 8))) ∧ Below w.heap.size w w' := by
  obtain ⟨i0, hi, hz0, hz1, hz2⟩ := info_parts Try.infoInt'
  go_enter Try.func56, Try.ntmps56
  go_wp2_with fail
  go_loopw [0, 3, 4] (fun nv v i wr => ∃ k : Nat, nv = .int .i64 ((n >>> k : Nat) : Int) ∧ i = .int .i64 k ∧ k ≤ 8 ∧ Hid (wr.ownsRow w.heap.size 3 1 v (placesTo n k).length (natVs (placesTo n k))) ∧ Hid (Below w.heap.size w wr)) (fun _ _ i _ => 8 - (intOf i).toNat)
  case atStart =>
    refine ⟨0, by simp, rfl, by omega, ?_, (Below.refl _ _).alloc (Nat.le_refl _) _⟩
    refine ⟨by simp [placesTo, natVs], Or.inr ⟨w.heap.size, 0, #[], rfl, Nat.le_refl _, blk_alloc_new _ _, Nat.zero_le _, Nat.zero_le _, rfl, rfl⟩⟩
  case round =>
    rename World => wo
    obtain ⟨k, rfl, rfl, hk, HO, HB⟩ := hrel
    by_cases hpos : 0 < n >>> k
    · have hk8 : k < 8 := by
        rcases Nat.lt_or_ge k 8 with h | h
        · exact h
        · have : n >>> k = 0 := by
            rw [Nat.shiftRight_eq_div_pow]
            exact Nat.div_eq_of_lt (Nat.lt_of_lt_of_le hn (Nat.pow_le_pow_right (n := 2) (by omega) h))
          omega
      have hp1 : (0 : Int) < ((n >>> k : Nat) : Int) := by omega
      have hsh : n >>> (k + 1) = (n >>> k) / 2 := by rw [Nat.shiftRight_succ]
      have hbit : (decide (n &&& 2 ^ k ≠ 0)) = decide ((n >>> k) % 2 = 1) := by
        rw [has_test, Nat.testBit, Nat.one_and_eq_mod_two]
        rcases Nat.mod_two_eq_zero_or_one (n >>> k) with h | h <;> simp [h]
      have hsucc := places_succ n k
      rw [hbit] at hsucc
      have hle := places_le n k
      have hzb := (unhide HB).size
      have hmle : n >>> k < 256 := Nat.lt_of_le_of_lt (by rw [Nat.shiftRight_eq_div_pow]; exact Nat.div_le_self _ _) hn
      generalize n >>> k = m at hpos hp1 hsh hbit hsucc hmle ⊢
      have hmm : Int.tmod (m : Int) 2 = ((m % 2 : Nat) : Int) := by rw [Int.tmod_eq_emod_of_nonneg (by omega)]; omega
      have hdd : Int.tdiv (m : Int) 2 = ((m / 2 : Nat) : Int) := by rw [Int.tdiv_eq_ediv_of_nonneg (by omega)]; omega
      have hwm : IntKind.i64.wrap (Int.tmod (m : Int) 2) = ((m % 2 : Nat) : Int) := by rw [hmm, IntKind.wrap_i64]; omega
      have hwd : IntKind.i64.wrap (Int.tdiv (m : Int) 2) = ((m / 2 : Nat) : Int) := by rw [hdd, IntKind.wrap_i64]; omega
      have HSH := hide hsh
      have HSU := hide hsucc
      clear hsh hsucc hbit
      by_cases hodd : m % 2 = 1
      · have ho1 : (((m % 2 : Nat) : Int) == 1) = true := by simp [hodd]
        have hown := unhide HO
        have hod' : Hid (placesTo n (k + 1) = placesTo n k ++ [k]) := by show _ = _; rw [unhide HSU]; simp [hodd]
        clear hodd
        generalize hr2 : m % 2 = r2 at ho1 hmm hwm
        go_wp2_with (first
          | (at_builtin; refine wpList_append_own _ rfl _ _ 30 rfl w.heap.size 3 i0 (.int .i64 0) 1 8 Try.underlying30 hi hz0 hz1 hz2 rfl (by decide) _ _ _ rfl (hown.alloc _) ⟨wo.heap.size, 0, none⟩ 1 1 [.int .i64 k] rfl rfl ?c1 ?c2 ?c3 ?c4 ?c5 ?_))
        case c1 =>
          intro j u hj
          match j, hj with
          | 0, hj => simp at hj; subst hj; simp [Addr.add]
        case c2 => intro u hu; simp at hu; subst hu; rfl
        case c3 => unfold maxLen; omega
        case c4 => omega
        case c5 => simp; omega
        intro v' w3 hown' hgrow _
        have hb1 := ((unhide HB).alloc (by omega) (.cells #[.int .i64 k] 3)).grown hgrow (by simp; omega) (fun j hj => (World.ownsRow.lt hown j hj).1)
        have hown1 : w3.ownsRow w.heap.size 3 1 v' (placesTo n (k + 1)).length (natVs (placesTo n (k + 1))) := by
          rw [unhide hod']
          simpa [natVs] using hown'
        have HO3 := hide hown1
        have HB3 := hide hb1
        clear hown hown' hgrow hown1 hb1
        go_wp2_with fail
        go_roundw
        case rel => exact ⟨k + 1, by rw [unhide HSH]; simp, by go_num, by omega, HO3, HB3⟩
        case measure => simp [intOf]; omega
      · have ho1 : (((m % 2 : Nat) : Int) == 1) = false := by
          rw [beq_eq_false_iff_ne]
          omega
        have hod' : Hid (placesTo n (k + 1) = placesTo n k) := by show _ = _; rw [unhide HSU]; simp [hodd]
        clear hodd
        generalize hr2 : m % 2 = r2 at ho1 hmm hwm
        clear hr2
        go_wp2_with fail
        go_roundw
        case rel => exact ⟨k + 1, by rw [unhide HSH]; simp, by go_num, by omega, by rw [unhide hod']; exact HO, HB⟩
        case measure => simp [intOf]; omega
    · have hp1 : ¬ (0 : Int) < ((n >>> k : Nat) : Int) := by rw [Nat.eq_zero_of_not_pos hpos]; decide
      have hst := places_stop (n := n) (k := k) (Nat.eq_zero_of_not_pos hpos) hk hn
      rw [hst] at HO
      go_wp2_with fail
      go_ret
      exact ⟨⟨_, rfl, HO⟩, HB⟩

/-- All along the statement that asks whether a state is healthy. -/
structure C9 (W : World) (ps : List Nat) (b : Bool) (us : List Value) (x : World) : Prop where
  below : Below W.heap.size W x
  list : ∀ y, us = [y] → x.ownsRow W.heap.size 3 1 y ps.length (natVs ps)
theorem C9.on {W : World} {ps : List Nat} {b b' : Bool} {us : List Value} {x y : World} (h : C9 W ps b us x) (hb : Below x.heap.size x y) : C9 W ps b' us y :=
  ⟨h.below.trans (hb.mono h.below.size), fun z hz => ownsRow_on (h.list z hz) hb⟩
theorem shl_one (n : Nat) (h : n ≤ 8) : 2 ^ n ≤ 256 := by
  have : 2 ^ n ≤ 2 ^ 8 := Nat.pow_le_pow_right (by omega) h
  omega

set_option maxRecDepth 100000 in
set_option maxHeartbeats 4000000 in
theorem specStateList_any (a : Option Addr) (l : List PackD) (cap : Nat) (room : Int) (w : World) (h : PacksAt (Old w) w a l) :
    Calls Try.prog 47 #[.agg #[.slice a l.length cap, .int .i64 room]] w fun e w' => (∃ v, e = .returned v ∧ ∃ vs, Lst w.heap.size w' v (stateL l room) vs) ∧ Below w.heap.size w w' := by
  have HP := hide h
  clear h
  obtain ⟨i0, hi0, hz0, hz1, hz2⟩ := info_parts Try.infoInts
  go_enter Try.func47, Try.ntmps47
  have bA := ((Below.refl w.heap.size w).alloc (Nat.le_refl _) (.cells #[.slice a l.length cap, .int .i64 room] 25)).alloc (by simp) (.cells #[] 30)
  have HC := hide (specRepoOk_any a l cap room _ ((unhide HP).on bA))
  go_wp2_with fail
  refine (unhide HC).mono ?_
  rintro e w1 ⟨rfl, hb1⟩
  have z1 := hb1.size
  simp at z1
  have x0 := hb1.cell (p := ⟨w.heap.size, 0, none⟩) (by simp; omega)
  have x1 := hb1.cell (p := ⟨w.heap.size, 1, none⟩) (by simp; omega)
  simp at x0 x1
  have hrow : w1.heap[w.heap.size + 1]? = some (.cells #[] 30 (0, 0)) := (hb1.block (w.heap.size + 1) (by simp)).trans (by
    have := blk_alloc_new (w.alloc (.cells #[.slice a l.length cap, .int .i64 room] 25)) (.cells #[] 30)
    simpa using this)
  have HL0 := hide (show Lst (w.heap.size + 1) w1 (.slice (some ⟨w.heap.size + 1, 0, none⟩) 0 0) [] [] from ⟨rfl, ⟨rfl, Or.inr ⟨w.heap.size + 1, 0, #[], rfl, Nat.le_refl _, hrow, Nat.zero_le _, Nat.zero_le _, rfl, rfl⟩⟩, fun i hi => absurd hi (Nat.not_lt_zero _), fun i j _ hj => absurd hj (Nat.not_lt_zero _)⟩)
  have HB1 := hide (bA.trans (hb1.mono (by simp; omega)))
  clear HC bA hb1 hrow
  cases hok : repoB ⟨l, room⟩ with
  | false =>
    have HE := hide (show stateL l room = [] by unfold stateL; rw [hok]; rfl)
    go_wp2_with fail
    go_ret
    exact ⟨⟨_, rfl, [], by rw [unhide HE]; exact (unhide HL0).base (by omega)⟩, unhide HB1⟩
  | true =>
    have HE := hide (show stateL l room = statesTo l room (2 ^ l.length) by unfold stateL; rw [hok]; rfl)
    have hl8 := (OkL.of hok).l8
    have HOK := hide hok
    have hpw := shl_one l.length hl8
    have hshl : IntKind.i64.wrap (2 ^ l.length) = ((2 ^ l.length : Nat) : Int) := by
      rw [show ((2 : Int) ^ l.length) = ((2 ^ l.length : Nat) : Int) by simp]
      generalize 2 ^ l.length = N0 at hpw ⊢
      rw [IntKind.wrap_i64]
      omega
    have hll : (l.length : Int) < 64 := by omega
    generalize hN : 2 ^ l.length = N at hpw hshl HE
    have HN := hide hN
    clear hN hok
    go_wp2_with fail
    go_loopw [3, 4] (fun v i wr => ∃ (k : Nat) (vs : List Value), k ≤ N ∧ i = .int .i64 k ∧ Hid (Lst (w.heap.size + 1) wr v (statesTo l room k) vs) ∧ Hid (Below (w.heap.size + 1) w1 wr)) (fun _ i _ => N - (intOf i).toNat)
    case atStart => exact ⟨0, [], Nat.zero_le _, rfl, unhide HL0, Below.refl _ _⟩
    case round =>
      rename World => wo
      obtain ⟨k, vs, hk, rfl, HL, HB⟩ := hrel
      rw [← (unhide HB).cell (p := ⟨w.heap.size, _, none⟩) (by simp)] at x0 x1
      have zo := (unhide HB).size
      by_cases hlt : k < N
      · have j1 : (k : Int) < (N : Int) := by omega
        have hk256 : k < 256 := by omega
        have bo : Below w.heap.size w wo := (unhide HB1).trans ((unhide HB).mono (by omega))
        have hok3 := ok_places (unhide HOK) (s := k) (by rw [unhide HN]; exact hlt)
        have hst := states_succ l room k
        have hsl := states_le l room k
        have hps8 := places_le k 8
        have HST := hide hst
        have HBO := hide bo
        have HX := hide (And.intro x0 x1)
        clear hst bo x0 x1
        obtain ⟨x0, x1⟩ := unhide HX
        go_upto_region 7 with fail
        refine wp_region_mix (k := 100) 3 [2] [.agg #[.slice a l.length cap, .int .i64 room], .int .i64 (k : Int), undef] (C9 wo (placesTo k 8)) (by kernel_rfl) (by kernel_rfl) (by kernel_rfl) (by kernel_rfl) (by kernel_rfl) (by kernel_rfl) ⟨(Below.refl _ _).drew, (fun y h => by cases h)⟩ ?_ ?_ ?_
        · intro full hfull i oo hi hns ho x fl us hC hb
          simp [putAll, slotOf, Act.put] at hfull
          subst hfull
          have hq := hC.below
          rw [← hq.cell (p := ⟨w.heap.size, _, none⟩) (by simp; omega)] at x0 x1
          have hC0 := hC.on (b' := fl) (Below.refl _ _)
          match i with
          | 0 => simp at ho; subst ho; simp [gwp, Region.wanted, yielded]; go_simp; first | done | exact hC0 | exact ⟨rfl, hC0⟩
          | 1 => simp at ho; subst ho; simp [gwp, Region.wanted, yielded]; go_simp; first | done | exact hC0 | exact ⟨rfl, hC0⟩
          | 2 => simp at hns
          | i + 3 => omega
        · intro full hfull us j hj oo ho x fl hC
          simp [putAll, slotOf, Act.put] at hfull
          subst hfull
          match us with
          | [] =>
            simp at hj
            subst hj
            simp at ho
            subst ho
            simp [gwp, Region.wanted, yielded, putP]
            go_simp
            refine (l2Set_any k hk256 x).mono ?_
            rintro e w' ⟨⟨y, rfl, hrow⟩, hb2⟩
            go_simp
            have hC2 := hC.on (b' := fl) hb2
            refine ⟨hC2.below, fun z hz => ?_⟩
            cases hz
            exact row_base hrow hC.below.size
          | _ :: _ => simp at hj
        · intro full hfull us x hus hC
          simp [putAll, slotOf, Act.put] at hfull
          subst hfull
          match us, hus with
          | [yv], _ =>
          obtain ⟨ya, yc, rfl, hset⟩ := SetAt.of_row (hC.list yv rfl) (by omega)
          have bx0 := hC.below
          have bx := (unhide HBO).trans (bx0.mono (unhide HBO).size)
          have HCK := hide (specStateOk_any a l cap room ya (intsOf (placesTo k 8)) yc x ((unhide HP).on bx) hset)
          have HBX0 := hide bx0
          clear hC hset bx
          simp [putP, slotOf, Act.put]
          generalize hlen : (intsOf (placesTo k 8)).length = ln at HCK ⊢
          clear hlen
          cases hh : healthB l room k with
          | false =>
            have HS2 := hide (show statesTo l room (k + 1) = statesTo l room k by rw [unhide HST, hh]; rfl)
            go_wp2_with (first
              | (go_at_call 55; refine (unhide HCK).mono ?_; rintro e w3 ⟨rfl, hb3⟩; rw [hok3, hh]; have HB3 := hide ((unhide HBX0).trans (hb3.mono (unhide HBX0).size)); clear hb3))
            go_roundw
            case rel => exact ⟨k + 1, vs, by omega, by go_num, by rw [unhide HS2]; exact (unhide HL).on (unhide HB3), (unhide HB).trans ((unhide HB3).mono (by omega))⟩
            case measure => simp [intOf]; omega
          | true =>
            have HS2 := hide (show statesTo l room (k + 1) = statesTo l room k ++ [placesTo k 8] by rw [unhide HST, hh]; rfl)
            go_wp2_with (first
              | (go_at_call 55; refine (unhide HCK).mono ?_; rintro e w3 ⟨rfl, hb3⟩; rw [hok3, hh]; have HB3 := hide ((unhide HBX0).trans (hb3.mono (unhide HBX0).size)); clear hb3)
              | (go_at_call 56; refine (l2Set_any k hk256 _).mono ?_; rintro e w4 ⟨⟨y4, rfl, hrow4⟩, hb4⟩; have HB4 := hide hb4; have HR4 := hide hrow4; clear hb4 hrow4; obtain ⟨a4, k4, rfl, _⟩ := PlAt.of_row (unhide HR4); have hL4 := ((unhide HL).on (unhide HB3)).on (unhide HB4); have hown4 := hL4.own; have HOB := hide (fun j hj => (hown4.lt j hj).1); have hz3 := (unhide HB3).size; have hz4 := (unhide HB4).size)
              | (at_builtin; refine wpList_append_own _ rfl _ _ 78 rfl (w.heap.size + 1) 30 i0 (.slice none 0 0) 1 24 Try.underlying78 hi0 hz0 hz1 hz2 rfl (by decide) _ _ _ rfl (hown4.alloc _) ⟨w4.heap.size, 0, none⟩ 1 1 [.slice a4 (placesTo k 8).length k4] rfl rfl ?c1 ?c2 ?c3 ?c4 ?c5 ?_))
            case c1 =>
              intro j u hj
              match j, hj with
              | 0, hj => simp at hj; subst hj; simp [Addr.add]
            case c2 => intro u hu; simp at hu; subst hu; rfl
            case c3 => unfold maxLen; omega
            case c4 => omega
            case c5 => simp; omega
            intro v' w5 hown5 hgrow _
            have bA5 := (Below.refl w4.heap.size w4).alloc (Nat.le_refl _) (.cells #[.slice a4 (placesTo k 8).length k4] 30)
            have hL5 := Lst.snoc (r := placesTo k 8) (u := .slice a4 (placesTo k 8).length k4) (B2 := w3.heap.size) (hL4.on bA5) (ownsRow_on (unhide HR4) bA5) (by omega) (fun i j hi hj => ((unhide HL).on (unhide HB3)).lt i j hi hj) hown5 hgrow
            have hb5 : Below (w.heap.size + 1) w1 w5 := by
              have h1 : Below (w.heap.size + 1) w1 (w4.alloc (.cells #[.slice a4 (placesTo k 8).length k4] 30)) := ((unhide HB).trans ((unhide HB3).mono (by omega))).trans (((unhide HB4).trans (bA5.mono (unhide HB4).size)).mono (by omega))
              refine ⟨hgrow.os.trans h1.os, hgrow.tape.trans h1.tape, hgrow.output.trans h1.output, Nat.le_trans h1.size hgrow.size, fun b hb => ?_⟩
              rw [hgrow.block b (by simp; omega) (fun e => ?_)]
              · exact h1.block b hb
              · have := unhide HOB b e.symm
                omega
            have HL5 := hide hL5
            have HB5 := hide hb5
            clear hL5 hb5 hown5 hgrow hL4 hown4 bA5
            go_wp2_with fail
            go_roundw
            case rel => exact ⟨k + 1, vs ++ [.slice a4 (placesTo k 8).length k4], by omega, by go_num, by rw [unhide HS2]; exact unhide HL5, unhide HB5⟩
            case measure => simp [intOf]; omega
      · have hke : k = N := by omega
        subst hke
        have j1 : ¬ (k : Int) < (k : Int) := by omega
        go_wp2_with fail
        go_ret
        exact ⟨⟨_, rfl, vs, by rw [unhide HE]; exact (unhide HL).base (by omega)⟩, (unhide HB1).trans ((unhide HB).mono (by omega))⟩
end Go.Proofs.Ytnegiggafgfmkaa

namespace Go.Proofs.Ytnegiggafgfmkaa
set_option linter.unusedVariables false
set_option linter.unusedSimpArgs false
open Go.RowKit Go.Deep

/-- Numbers that lie in memory of their own. -/
abbrev RowI (B : Nat) (w : World) (v : Value) (l : List Int) : Prop := w.ownsRow B 3 1 v l.length (l.map fun i => .int .i64 i)
theorem RowI.set {B : Nat} {w : World} {v : Value} {l : List Int} (h : RowI B w v l) (hl : l.length ≤ 1048576) : ∃ a cap, v = .slice a l.length cap ∧ SetAt w a l := by
  obtain ⟨h1, h2⟩ := h
  rcases h2 with ⟨hv, h0⟩ | ⟨g, cap, cur, hv, hB, hc, hcap, _, hsz, hx⟩
  · have : l = [] := List.length_eq_zero_iff.1 h0
    subst this
    exact ⟨none, 0, hv, by simp, Or.inl rfl⟩
  · refine ⟨some ⟨g, 0, none⟩, cap, hv, hl, Or.inr ⟨g, 0, rfl, (Array.getElem?_eq_some_iff.1 hc).1, fun i hi => ?_⟩⟩
    have e : cur.toList[i]? = some (.int .i64 (l.getD i 0)) := by
      have : (cur.toList.take (l.length * 1))[i]? = (l.map fun i => Value.int .i64 i)[i]? := by rw [hx]
      rw [List.getElem?_take, if_pos (by omega)] at this
      rw [this]
      simp [List.getD, hi]
    simp only [World.cell?, hc, Nat.zero_add]
    simpa using e

/-- Rows of numbers, each in memory of its own. -/
structure LstI (B : Nat) (w : World) (v : Value) (lss : List (List Int)) (vs : List Value) : Prop where
  len : vs.length = lss.length
  own : w.ownsRow B 30 1 v lss.length vs
  row : ∀ i, i < lss.length → RowI B w (vs.getD i undef) (lss.getD i [])
  apart : ∀ i j, i < j → j < lss.length → (vs.getD i undef).ownBlock = none ∨ (vs.getD i undef).ownBlock ≠ (vs.getD j undef).ownBlock
theorem Lst.ints {B : Nat} {w : World} {v : Value} {ls : List (List Nat)} {vs : List Value} (h : Lst B w v ls vs) : LstI B w v (ls.map intsOf) vs := by
  have e : ∀ i, i < ls.length → (ls.map intsOf).getD i [] = intsOf (ls.getD i []) := fun i hi => by simp [List.getD, hi]
  refine ⟨by simp [h.len], by simpa using h.own, fun i hi => ?_, fun i j hij hj => h.apart i j hij (by simpa using hj)⟩
  have hi : i < ls.length := by simpa using hi
  rw [e i hi]
  have := h.row i hi
  unfold RowI
  have e2 : (intsOf (ls.getD i [])).map (fun i => Value.int .i64 i) = natVs (ls.getD i []) := by simp [intsOf, natVs]
  rw [e2]
  simpa [intsOf] using this
theorem LstI.on {B : Nat} {w w' : World} {v : Value} {lss : List (List Int)} {vs : List Value} (h : LstI B w v lss vs) (hb : Below w.heap.size w w') : LstI B w' v lss vs := ⟨h.len, ownsRow_on h.own hb, fun i hi => ownsRow_on (h.row i hi) hb, h.apart⟩
theorem LstI.far {B B' : Nat} {w w' : World} {v : Value} {lss : List (List Int)} {vs : List Value} (h : LstI B w v lss vs) (hb : Below B' w w') (hlt : ∀ j, v.ownBlock = some j → j < B') (hlt' : ∀ i j, i < lss.length → (vs.getD i undef).ownBlock = some j → j < B') : LstI B w' v lss vs := by
  have key : ∀ {e : TypeId} {u : Value} {n : Nat} {xs : List Value}, w.ownsRow B e 1 u n xs → (∀ j, u.ownBlock = some j → j < B') → w'.ownsRow B e 1 u n xs := fun {e u n xs} ho hu => by
    obtain ⟨h1, h2⟩ := ho
    refine ⟨h1, h2.imp id ?_⟩
    rintro ⟨g, cap, cur, hv, hg, hc, r⟩
    exact ⟨g, cap, cur, hv, hg, (hb.block g (hu g (by rw [hv]; rfl))).trans hc, r⟩
  exact ⟨h.len, key h.own hlt, fun i hi => key (h.row i hi) (hlt' i · hi), h.apart⟩
theorem LstI.cell {B : Nat} {w : World} {v : Value} {lss : List (List Int)} {vs : List Value} (h : LstI B w v lss vs) {i : Nat} (hi : i < lss.length) : ∃ g cap, v = .slice (some ⟨g, 0, none⟩) lss.length cap ∧ B ≤ g ∧ g < w.heap.size ∧ w.cell? ⟨g, i, none⟩ = some (vs.getD i undef) := by
  rcases h.own.2 with ⟨_, h0⟩ | ⟨g, cap, cur, hv, hB, hc, hcap, _, hsz, hx⟩
  · omega
  · refine ⟨g, cap, hv, hB, (Array.getElem?_eq_some_iff.1 hc).1, ?_⟩
    have hiv : i < vs.length := by rw [h.len]; exact hi
    have e : cur.toList[i]? = some (vs.getD i undef) := by
      have : (cur.toList.take (lss.length * 1))[i]? = vs[i]? := by rw [hx]
      rw [List.getElem?_take, if_pos (by omega)] at this
      rw [this]
      simp [List.getD, hiv]
    simp only [World.cell?, hc]
    simpa using e
theorem LstI.slice {B : Nat} {w : World} {v : Value} {lss : List (List Int)} {vs : List Value} (h : LstI B w v lss vs) : ∃ a cap, v = .slice a lss.length cap := by
  rcases h.own.2 with ⟨hv, h0⟩ | ⟨g, cap, cur, hv, _⟩
  · exact ⟨none, 0, by rw [hv, h0]⟩
  · exact ⟨_, _, hv⟩
theorem RowI.nil (w : World) : RowI w.heap.size (w.alloc (.cells #[] 3)) (.slice (some ⟨w.heap.size, 0, none⟩) 0 0) [] :=
  ⟨rfl, Or.inr ⟨w.heap.size, 0, #[], rfl, Nat.le_refl _, blk_alloc_new _ _, Nat.zero_le _, Nat.zero_le _, rfl, rfl⟩⟩
end Go.Proofs.Ytnegiggafgfmkaa
