/- The program's sets of bits. Ascending places as bits, and back. The program's size of a state. -/
import Derived.Test.YthkhaemlcmkkjayGSpec
import Derived.Test.YthkhaemlcmkkjayGBase
import Derived.OwnWalk
import Derived.Deep.AppendLies
import Derived.Deep.QuietTactic
import Derived.BigQuiet
namespace Go.Proofs.Ythkhaemlcmkkjay
set_option linter.unusedVariables false
set_option linter.unusedSimpArgs false
open Go.RowKit Go.Deep

theorem wr_u64 (n : Nat) (h : n < 18446744073709551616) : IntKind.u64.wrap (n : Int) = (n : Int) := by
  rw [IntKind.wrap_u64]; omega
theorem ne_zero (n : Nat) : ((n : Int) != 0) = decide (n ≠ 0) := by
  rw [Bool.eq_iff_iff]
  simp
theorem wr_pow (p : Nat) (hp : p < 16) : IntKind.u64.wrap (2 ^ p) = ((2 ^ p : Nat) : Int) := by
  have h1 : 2 ^ p ≤ 2 ^ 15 := Nat.pow_le_pow_right (by omega) (by omega)
  have h2 := wr_u64 (2 ^ p) (by omega)
  rw [show ((2 : Int) ^ p) = ((2 ^ p : Nat) : Int) by simp]
  exact h2
theorem pow_small (p : Nat) (hp : p < 16) : 2 ^ p < 65536 := by
  have h1 : 2 ^ p ≤ 2 ^ 15 := Nat.pow_le_pow_right (by omega) (by omega)
  omega
theorem bv_nat (a : Nat) (h : a < 4611686018427387904) : (BitVec.ofInt 64 (a : Int)).toNat = a := by
  rw [BitVec.ofInt_natCast, BitVec.toNat_ofNat]; exact Nat.mod_eq_of_lt (by omega)
theorem bits_or (a b : Nat) (ha : a < 4611686018427387904) (hb : b < 4611686018427387904) : bits .or .u64 (a : Int) (b : Int) = ((a ||| b : Nat) : Int) := by
  have hx : a ||| b < 2 ^ 62 := Nat.or_lt_two_pow (by omega) (by omega)
  show IntKind.u64.wrap ((BitVec.ofInt 64 (a : Int) ||| BitVec.ofInt 64 (b : Int)).toNat : Int) = _
  rw [BitVec.toNat_or, bv_nat a ha, bv_nat b hb, wr_u64 _ (by omega)]
theorem bits_and (a b : Nat) (ha : a < 4611686018427387904) (hb : b < 4611686018427387904) : bits .and .u64 (a : Int) (b : Int) = ((a &&& b : Nat) : Int) := by
  have hx : a &&& b < 2 ^ 62 := Nat.lt_of_le_of_lt Nat.and_le_left (by omega)
  show IntKind.u64.wrap ((BitVec.ofInt 64 (a : Int) &&& BitVec.ofInt 64 (b : Int)).toNat : Int) = _
  rw [BitVec.toNat_and, bv_nat a ha, bv_nat b hb, wr_u64 _ (by omega)]

set_option maxHeartbeats 400000 in
theorem meets_any (s t : Nat) (hs : s < 65536) (ht : t < 65536) (w : World) :
    Calls Try.prog 75 #[.int .u64 (s : Int), .int .u64 (t : Int)] w fun e w' => e = .returned (.bool (decide (s &&& t ≠ 0))) ∧ w' = w := by
  have h := bits_and s t (by omega) (by omega)
  go_enter Try.func75, Try.ntmps75
  go_wp2_with fail
  go_ret
  exact ⟨ret_bool (ne_zero _), rfl⟩

set_option maxHeartbeats 400000 in
theorem with_any (s p : Nat) (hs : s < 65536) (hp : p < 16) (w : World) :
    Calls Try.prog 47 #[.int .u64 (s : Int), .int .i64 (p : Int)] w fun e w' => e = .returned (.int .u64 ((s ||| 2 ^ p : Nat) : Int)) ∧ w' = w := by
  have hps := pow_small p hp
  have hw := wr_pow p hp
  have h := bits_or s (2 ^ p) (by omega) (by omega)
  generalize 2 ^ p = t at h hps hw
  have HT := hide h
  go_enter Try.func47, Try.ntmps47
  go_wp2_with fail
  go_ret
  exact ⟨rfl, rfl⟩

theorem bits_not (a b : Nat) (ha : a < 4611686018427387904) (hb : b < 4611686018427387904) : bits .andNot .u64 (a : Int) (b : Int) = ((a &&& (18446744073709551615 - b) : Nat) : Int) := by
  have hx : a &&& (18446744073709551615 - b) < 2 ^ 62 := Nat.lt_of_le_of_lt Nat.and_le_left (by omega)
  show IntKind.u64.wrap ((BitVec.ofInt 64 (a : Int) &&& ~~~ BitVec.ofInt 64 (b : Int)).toNat : Int) = _
  rw [BitVec.toNat_and, BitVec.toNat_not, bv_nat a ha, bv_nat b hb]
  rw [show 2 ^ 64 - 1 - b = 18446744073709551615 - b by omega]
  exact wr_u64 _ (by omega)

set_option maxHeartbeats 400000 in
theorem without_any (s p : Nat) (hs : s < 65536) (hp : p < 16) (w : World) :
    Calls Try.prog 63 #[.int .u64 (s : Int), .int .i64 (p : Int)] w fun e w' => e = .returned (.int .u64 ((s &&& (18446744073709551615 - 2 ^ p) : Nat) : Int)) ∧ w' = w := by
  have hps := pow_small p hp
  have hw := wr_pow p hp
  have h := bits_not s (2 ^ p) (by omega) (by omega)
  generalize 2 ^ p = t at h hps hw
  go_enter Try.func63, Try.ntmps63
  go_wp2_with fail
  go_ret
  exact ⟨rfl, rfl⟩

set_option maxHeartbeats 400000 in
theorem has_any (s p : Nat) (hs : s < 65536) (hp : p < 16) (w : World) :
    Calls Try.prog 77 #[.int .u64 (s : Int), .int .i64 (p : Int)] w fun e w' => e = .returned (.bool (decide (s &&& 2 ^ p ≠ 0))) ∧ w' = w := by
  have hps := pow_small p hp
  have hw := wr_pow p hp
  have h := meets_any s (2 ^ p) hs hps w
  generalize 2 ^ p = t at h hps hw
  go_enter Try.func77, Try.ntmps77
  go_wp2_with fail
  refine h.mono ?_
  rintro e w1 ⟨rfl, rfl⟩
  go_wp2_with fail
  go_ret
  exact ⟨ret_bool (by simp), rfl⟩

/-- The places below k that are there. -/
def placesTo (s k : Nat) : List Nat := (List.range k).filter fun i => decide (s &&& 2 ^ i ≠ 0)
theorem places_succ (s k : Nat) : placesTo s (k + 1) = if decide (s &&& 2 ^ k ≠ 0) then placesTo s k ++ [k] else placesTo s k := by
  unfold placesTo
  rw [List.range_succ, List.filter_append]
  split
  · rename_i h; simp only [List.filter_cons, List.filter_nil, h, if_true]
  · rename_i h; simp only [List.filter_cons, List.filter_nil, h]; simp
theorem places_le (s k : Nat) : (placesTo s k).length ≤ k := by
  have := List.length_filter_le (fun i => decide (s &&& 2 ^ i ≠ 0)) (List.range k)
  simpa [placesTo] using this
def natVs (l : List Nat) : List Value := l.map fun i : Nat => .int .i64 (i : Int)
theorem Try.infoInt' : (Try.prog.info? 3).map (fun i => (i.zero, i.size, i.bytes)) = some (some (.int .i64 0), 1, 8) := by kernel_rfl

set_option maxHeartbeats 2000000 in
theorem places_any (s : Nat) (hs : s < 65536) (w : World) :
    Calls Try.prog 52 #[.int .u64 (s : Int)] w fun e w' => (∃ v, e = .returned v ∧ w'.ownsRow w.heap.size 3 1 v (placesTo s 8).length (natVs (placesTo s 8))) ∧ Below w.heap.size w w' := by
  obtain ⟨i0, hi, hz0, hz1, hz2⟩ := info_parts Try.infoInt'
  go_enter Try.func52, Try.ntmps52
  go_wp2_with fail
  go_loopw [3, 5] (fun v i wr => ∃ k : Nat, i = .int .i64 k ∧ k ≤ 8 ∧ Hid (wr.ownsRow w.heap.size 3 1 v (placesTo s k).length (natVs (placesTo s k))) ∧ Hid (Below w.heap.size w wr)) (fun _ i _ => 8 - (intOf i).toNat)
  case atStart => exact ⟨0, rfl, by omega, ⟨by simp [placesTo, natVs], Or.inl ⟨rfl, by simp [placesTo]⟩⟩, Below.refl _ _⟩
  case round =>
    rename World => wo
    obtain ⟨k, rfl, hk, HO, HB⟩ := hrel
    by_cases hk8 : k < 8
    · have hk8' : (k : Int) < 8 := by omega
      go_wp2_with fail
      refine (has_any s k hs (by omega) _).mono ?_
      rintro e w2 ⟨rfl, rfl⟩
      have hsucc := places_succ s k
      have hle := places_le s k
      have hz := (unhide HB).size
      cases hf : decide (s &&& 2 ^ k ≠ 0) with
      | false =>
        rw [hf] at hsucc
        have HSU := hide hsucc
        clear hsucc
        go_wp2_with fail
        go_roundw
        case rel =>
          refine ⟨k + 1, by go_num, by omega, ?_, HB⟩
          have e : placesTo s (k + 1) = placesTo s k := by rw [unhide HSU]; rfl
          rw [e]
          exact HO
        case measure => simp [intOf]; omega
      | true =>
        rw [hf] at hsucc
        have HSU := hide hsucc
        have hown := unhide HO
        clear hsucc
        go_wp2_with (first
          | (at_builtin; refine wpList_append_own _ rfl _ _ 25 rfl w.heap.size 3 i0 (.int .i64 0) 1 8 Try.underlying25 hi hz0 hz1 hz2 rfl (by decide) _ _ _ rfl (hown.alloc _) ⟨w2.heap.size, 0, none⟩ 1 1 [.int .i64 k] rfl rfl ?c1 ?c2 ?c3 ?c4 ?c5 ?_))
        case c1 =>
          intro j u hj
          match j, hj with
          | 0, hj => simp at hj; subst hj; simp [Addr.add]
        case c2 => intro u hu; simp at hu; subst hu; rfl
        case c3 => unfold maxLen; omega
        case c4 => omega
        case c5 => simp; omega
        intro v' w3 hown' hgrow _
        have hb1 := ((unhide HB).alloc (by omega) (.cells #[.int .i64 k] 3)).grown hgrow (by simp; omega) (fun j hj => (World.ownsRow.lt hown j hj).1)
        have hown1 : w3.ownsRow w.heap.size 3 1 v' (placesTo s (k + 1)).length (natVs (placesTo s (k + 1))) := by
          have e : placesTo s (k + 1) = placesTo s k ++ [k] := by rw [unhide HSU]; rfl
          rw [e]
          simpa [natVs] using hown'
        have HO3 := hide hown1
        have HB3 := hide hb1
        clear hown hown' hgrow hown1 hb1
        go_wp2_with fail
        go_roundw
        case rel => exact ⟨k + 1, by go_num, by omega, HO3, HB3⟩
        case measure => simp [intOf]; omega
    · have hk8' : ¬ (k : Int) < 8 := by omega
      have hke : k = 8 := by omega
      subst hke
      go_wp2_with fail
      go_ret
      exact ⟨⟨_, rfl, HO⟩, HB⟩
end Go.Proofs.Ythkhaemlcmkkjay

namespace Go.Proofs.Ythkhaemlcmkkjay
set_option linter.unusedVariables false
set_option linter.unusedSimpArgs false

theorem has_test (s i : Nat) : decide (s &&& 2 ^ i ≠ 0) = s.testBit i := by
  cases h : s.testBit i with
  | false =>
    have e : s &&& 2 ^ i = 0 := Nat.eq_of_testBit_eq fun j => by
      rw [Nat.testBit_and, Nat.testBit_two_pow, Nat.zero_testBit]
      by_cases hj : i = j
      · subst hj; simp [h]
      · simp [hj]
    simp [e]
  | true =>
    have e : s &&& 2 ^ i ≠ 0 := fun e => by
      have h1 : (s &&& 2 ^ i).testBit i = true := by rw [Nat.testBit_and, Nat.testBit_two_pow, h]; simp
      rw [e, Nat.zero_testBit] at h1
      cases h1
    simp [e]
theorem filter_succ (k : Nat) : ∀ l : List Nat, l.Pairwise (· < ·) → l.filter (fun x => decide (x < k + 1)) = l.filter (fun x => decide (x < k)) ++ (if k ∈ l then [k] else [])
  | [], _ => by simp
  | x :: xs, h => by
    obtain ⟨hx, hxs⟩ := List.pairwise_cons.1 h
    have ih := filter_succ k xs hxs
    by_cases h1 : x < k
    · have h2 : x < k + 1 := by omega
      have h3 : (k ∈ x :: xs) = (k ∈ xs) := by
        simp only [List.mem_cons, eq_iff_iff]
        exact ⟨fun h => h.resolve_left (by omega), Or.inr⟩
      simp only [List.filter_cons, h1, h2, decide_true, if_true, List.cons_append, ih, h3]
    · have hn : ∀ y ∈ xs, k < y := fun y hy => by have := hx y hy; omega
      have e1 : xs.filter (fun x => decide (x < k + 1)) = [] := List.filter_eq_nil_iff.2 fun y hy => by have := hn y hy; simp; omega
      have e2 : xs.filter (fun x => decide (x < k)) = [] := List.filter_eq_nil_iff.2 fun y hy => by have := hn y hy; simp; omega
      by_cases h4 : x = k
      · subst h4
        simp [List.filter_cons, e1, e2]
      · have h5 : ¬ x < k + 1 := by omega
        have h6 : k ∉ x :: xs := by
          simp only [List.mem_cons, not_or]
          exact ⟨fun h => h4 h.symm, fun h => absurd (hn k h) (by omega)⟩
        simp only [List.filter_cons, h1, h5, e1, e2, h6]
        simp
/-- The bits of some places. -/
def bitsOf (l : List Nat) : Nat := l.foldl (fun s p => s ||| 2 ^ p) 0
theorem test_fold : ∀ (l : List Nat) (s i : Nat), (l.foldl (fun s p => s ||| 2 ^ p) s).testBit i = (s.testBit i || decide (i ∈ l))
  | [], s, i => by simp
  | p :: l, s, i => by
    rw [List.foldl_cons, test_fold l]
    rw [Nat.testBit_or, Nat.testBit_two_pow]
    by_cases h : p = i
    · subst h; simp
    · have : ¬ i = p := fun e => h e.symm
      simp [h, this]
theorem test_bits (l : List Nat) (i : Nat) : (bitsOf l).testBit i = decide (i ∈ l) := by
  unfold bitsOf
  rw [test_fold]
  simp
theorem places_upto (l : List Nat) (h : l.Pairwise (· < ·)) : ∀ k, placesTo (bitsOf l) k = l.filter (fun x => decide (x < k))
  | 0 => by simp [placesTo]
  | k + 1 => by
    rw [places_succ, filter_succ k l h, has_test, test_bits, places_upto l h k]
    by_cases hk : k ∈ l
    · simp [hk]
    · simp [hk]
/-- Ascending places are those of their bits. -/
theorem places_bits (l : List Nat) (h : l.Pairwise (· < ·)) {n : Nat} (hn : ∀ x ∈ l, x < n) : placesTo (bitsOf l) n = l := by
  rw [places_upto l h]
  exact List.filter_eq_self.2 fun x hx => by simpa using hn x hx
end Go.Proofs.Ythkhaemlcmkkjay

namespace Go.Proofs.Ythkhaemlcmkkjay
set_option linter.unusedVariables false
set_option linter.unusedSimpArgs false
open Go.RowKit Go.Deep

/-- Places that lie in memory, read alone. -/
def PlAt (w : World) (v : Value) (l : List Nat) : Prop := ∃ a cap, v = .slice a l.length cap ∧ (l = [] ∨ ∃ b, a = some ⟨b, 0, none⟩ ∧ b < w.heap.size ∧ ∀ i, i < l.length → w.cell? ⟨b, i, none⟩ = some (.int .i64 ((l.getD i 0 : Nat) : Int)))
theorem PlAt.on {w w' : World} {v : Value} {l : List Nat} (h : PlAt w v l) (hb : Below w.heap.size w w') : PlAt w' v l := by
  obtain ⟨a, cap, hv, h⟩ := h
  refine ⟨a, cap, hv, h.imp id fun ⟨b, ha, hlt, hc⟩ => ⟨b, ha, Nat.lt_of_lt_of_le hlt hb.size, fun i hi => ?_⟩⟩
  rw [World.cell?_of_block (w := w) (a := ⟨b, i, none⟩) (hb.block b hlt)]
  exact hc i hi
theorem PlAt.of_row {B : Nat} {w : World} {v : Value} {l : List Nat} (h : w.ownsRow B 3 1 v l.length (natVs l)) : PlAt w v l := by
  obtain ⟨h1, h2⟩ := h
  rcases h2 with ⟨hv, h0⟩ | ⟨g, cap, cur, hv, hB, hc, hcap, _, hsz, hx⟩
  · have : l = [] := List.length_eq_zero_iff.1 (by omega)
    subst this
    exact ⟨none, 0, hv, Or.inl rfl⟩
  · refine ⟨some ⟨g, 0, none⟩, cap, hv, ?_⟩
    by_cases h0 : l = []
    · exact Or.inl h0
    · refine Or.inr ⟨g, rfl, (Array.getElem?_eq_some_iff.1 hc).1, fun i hi => ?_⟩
      have e : cur.toList[i]? = some (.int .i64 ((l.getD i 0 : Nat) : Int)) := by
        have : (cur.toList.take (l.length * 1))[i]? = (natVs l)[i]? := by rw [hx]
        rw [List.getElem?_take, if_pos (by omega)] at this
        rw [this]
        simp [natVs, List.getD, hi]
      simp only [World.cell?, hc]
      simpa using e

def sumP (l : List PackD) (ps : List Nat) : Nat → Int
  | 0 => 0
  | k + 1 => sumP l ps k + (l.getD (ps.getD k 0) dPack).size
theorem sumP_bound {l : List PackD} {ps : List Nat} (hp : ∀ p ∈ ps, p < l.length) (hs : ∀ q, q < l.length → 0 ≤ (l.getD q dPack).size ∧ (l.getD q dPack).size ≤ 999) : ∀ k, k ≤ ps.length → 0 ≤ sumP l ps k ∧ sumP l ps k ≤ 999 * k
  | 0, _ => by simp [sumP]
  | k + 1, hk => by
    have ih := sumP_bound hp hs k (by omega)
    have hq := hs (ps.getD k 0) (hp _ (getD_mem (by omega)))
    simp only [sumP]
    omega

set_option maxHeartbeats 4000000 in
theorem size_any (s : Nat) (hs : s < 65536) (a : Option Addr) (l : List PackD) (cap : Nat) (room : Int) (mv av : Value) (hav : ∃ x y z, av = .slice x y z) (hmv : mv.oneCell' = true) (w : World) (h : PacksAt (Old w) w a l) (hp : ∀ p ∈ placesTo s 8, p < l.length) (hsz : ∀ q, q < l.length → 0 ≤ (l.getD q dPack).size ∧ (l.getD q dPack).size ≤ 999) :
    Calls Try.prog 76 #[.agg #[.slice a l.length cap, .int .i64 room, mv, av], .int .u64 (s : Int)] w fun e w' => e = .returned (.int .i64 (sumP l (placesTo s 8) (placesTo s 8).length)) ∧ Below w.heap.size w w' := by
  obtain ⟨xa, xn, xc, rfl⟩ := hav
  have hm := h.1
  unfold maxLen at hm
  have hl8 := places_le s 8
  go_enter Try.func76, Try.ntmps76
  have bA := (Below.refl w.heap.size w).alloc (Nat.le_refl _) (.cells #[.slice a l.length cap, .int .i64 room, mv, .slice xa xn xc] 68)
  have HP := hide (h.on bA)
  clear h
  go_wp2_with fail
  refine (places_any s hs _).mono ?_
  rintro e w1 ⟨⟨v, rfl, hown⟩, b1⟩
  have HPl := hide (PlAt.of_row hown)
  have x0 := b1.cell (p := ⟨w.heap.size, 0, none⟩) (by simp)
  simp at x0
  have HP1 := hide ((unhide HP).on b1)
  have HB1 := hide (bA.trans (b1.mono (by simp)))
  obtain ⟨pa, pc, rfl, hpl⟩ := unhide HPl
  have hbnd := sumP_bound hp hsz
  have HBN := hide hbnd
  clear HP b1 bA hown HPl hbnd
  generalize hps : placesTo s 8 = ps at hp hpl HBN hl8 ⊢
  have HPS := hide hps
  clear hps
  go_wp2_with fail
  go_loopw [5, 11] (fun m i wr => ∃ k : Nat, k ≤ ps.length ∧ i = .int .i64 k ∧ m = .int .i64 (sumP l ps k) ∧ wr = w1) (fun _ i _ => ps.length - (intOf i).toNat)
  case atStart => exact ⟨0, Nat.zero_le _, rfl, rfl, rfl⟩
  case round =>
    rename World => wo
    obtain ⟨k, hk, rfl, rfl, rfl⟩ := hrel
    by_cases hlt : k < ps.length
    · rcases hpl with hpl | ⟨b, rfl, _, hpl⟩
      · rw [hpl] at hlt; simp at hlt
      have c0 := hpl k hlt
      have hq := hp _ (getD_mem (d := 0) hlt)
      have hbd := unhide HBN k hk
      have hss := hsz _ hq
      have hsum : sumP l ps (k + 1) = sumP l ps k + (l.getD (ps.getD k 0) dPack).size := rfl
      generalize ps.getD k 0 = q at c0 hq hss hsum
      rcases (unhide HP1).2 with hnil | ⟨pb, po, rfl, hpS, hpk⟩
      · rw [hnil] at hq; simp at hq
      obtain ⟨a1, c1, a2, c2, a3, c3, hcells, _⟩ := hpk q hq
      have n2 := hcells.size
      generalize (l.getD q dPack).size = z at n2 hss hsum
      generalize sumP l ps k = t at hbd hsum ⊢
      have j1 : (k : Int) < (ps.length : Int) := by omega
      have j2 : (q : Int) < (l.length : Int) := by omega
      have hws : IntKind.i64.wrap (t + z) = t + z := by rw [IntKind.wrap_i64]; omega
      have HSUM := hide hsum
      clear hcells hpk hpl hsum
      go_wp2_with fail
      go_roundw
      case rel => exact ⟨k + 1, by omega, by go_num, by rw [unhide HSUM], by first | rfl | trivial⟩
      case measure => simp [intOf]; omega
    · have hkk : k = ps.length := by omega
      subst hkk
      have j1 : ¬ ((ps.length : Nat) : Int) < (ps.length : Int) := by omega
      go_wp2_with fail
      go_ret
      exact ⟨by rw [unhide HPS]; rfl, unhide HB1⟩
end Go.Proofs.Ythkhaemlcmkkjay
