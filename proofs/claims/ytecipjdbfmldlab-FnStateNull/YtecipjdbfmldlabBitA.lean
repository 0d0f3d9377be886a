/- The program's sets of bits. -/
import Derived.Test.YtecipjdbfmldlabSpecC
import Derived.Test.YtecipjdbfmldlabMem
import Derived.OwnWalk
import Derived.Deep.AppendLies
namespace Go.Proofs.Ytecipjdbfmldlab
set_option linter.unusedVariables false
set_option linter.unusedSimpArgs false
open Go.RowKit Go.Deep

theorem wr_u64 (n : Nat) (h : n < 18446744073709551616) : IntKind.u64.wrap (n : Int) = (n : Int) := by
  rw [IntKind.wrap_u64]; omega
theorem ne_zero (n : Nat) : ((n : Int) != 0) = decide (n ≠ 0) := by
  rw [Bool.eq_iff_iff]
  simp
theorem wr_pow (p : Nat) (hp : p < 16) : IntKind.u64.wrap (2 ^ p) = ((2 ^ p : Nat) : Int) := by
  have h1 : 2 ^ p ≤ 2 ^ 15 := Nat.pow_le_pow_right (by omega) (by omega)
  have h2 := wr_u64 (2 ^ p) (by omega)
  rw [show ((2 : Int) ^ p) = ((2 ^ p : Nat) : Int) by simp]
  exact h2
theorem pow_small (p : Nat) (hp : p < 16) : 2 ^ p < 65536 := by
  have h1 : 2 ^ p ≤ 2 ^ 15 := Nat.pow_le_pow_right (by omega) (by omega)
  omega
theorem bv_nat (a : Nat) (h : a < 4611686018427387904) : (BitVec.ofInt 64 (a : Int)).toNat = a := by
  rw [BitVec.ofInt_natCast, BitVec.toNat_ofNat]; exact Nat.mod_eq_of_lt (by omega)
theorem bits_or (a b : Nat) (ha : a < 4611686018427387904) (hb : b < 4611686018427387904) : bits .or .u64 (a : Int) (b : Int) = ((a ||| b : Nat) : Int) := by
  have hx : a ||| b < 2 ^ 62 := Nat.or_lt_two_pow (by omega) (by omega)
  show IntKind.u64.wrap ((BitVec.ofInt 64 (a : Int) ||| BitVec.ofInt 64 (b : Int)).toNat : Int) = _
  rw [BitVec.toNat_or, bv_nat a ha, bv_nat b hb, wr_u64 _ (by omega)]
theorem bits_and (a b : Nat) (ha : a < 4611686018427387904) (hb : b < 4611686018427387904) : bits .and .u64 (a : Int) (b : Int) = ((a &&& b : Nat) : Int) := by
  have hx : a &&& b < 2 ^ 62 := Nat.lt_of_le_of_lt Nat.and_le_left (by omega)
  show IntKind.u64.wrap ((BitVec.ofInt 64 (a : Int) &&& BitVec.ofInt 64 (b : Int)).toNat : Int) = _
  rw [BitVec.toNat_and, bv_nat a ha, bv_nat b hb, wr_u64 _ (by omega)]

set_option maxHeartbeats 400000 in
theorem meets_any (s t : Nat) (hs : s < 65536) (ht : t < 65536) (w : World) :
    Calls Try.prog 63 #[.int .u64 (s : Int), .int .u64 (t : Int)] w fun e w' => e = .returned (.bool (decide (s &&& t ≠ 0))) ∧ w' = w := by
  have h := bits_and s t (by omega) (by omega)
  go_enter Try.func63, Try.ntmps63
  go_wp2_with fail
  go_ret
  exact ⟨ret_bool (ne_zero _), rfl⟩

set_option maxHeartbeats 400000 in
theorem with_any (s p : Nat) (hs : s < 65536) (hp : p < 16) (w : World) :
    Calls Try.prog 46 #[.int .u64 (s : Int), .int .i64 (p : Int)] w fun e w' => e = .returned (.int .u64 ((s ||| 2 ^ p : Nat) : Int)) ∧ w' = w := by
  have hps := pow_small p hp
  have hw := wr_pow p hp
  have h := bits_or s (2 ^ p) (by omega) (by omega)
  generalize 2 ^ p = t at h hps hw
  have HT := hide h
  go_enter Try.func46, Try.ntmps46
  go_wp2_with fail
  go_ret
  exact ⟨rfl, rfl⟩

theorem bits_not (a b : Nat) (ha : a < 4611686018427387904) (hb : b < 4611686018427387904) : bits .andNot .u64 (a : Int) (b : Int) = ((a &&& (18446744073709551615 - b) : Nat) : Int) := by
  have hx : a &&& (18446744073709551615 - b) < 2 ^ 62 := Nat.lt_of_le_of_lt Nat.and_le_left (by omega)
  show IntKind.u64.wrap ((BitVec.ofInt 64 (a : Int) &&& ~~~ BitVec.ofInt 64 (b : Int)).toNat : Int) = _
  rw [BitVec.toNat_and, BitVec.toNat_not, bv_nat a ha, bv_nat b hb]
  rw [show 2 ^ 64 - 1 - b = 18446744073709551615 - b by omega]
  exact wr_u64 _ (by omega)

set_option maxHeartbeats 400000 in
theorem without_any (s p : Nat) (hs : s < 65536) (hp : p < 16) (w : World) :
    Calls Try.prog 56 #[.int .u64 (s : Int), .int .i64 (p : Int)] w fun e w' => e = .returned (.int .u64 ((s &&& (18446744073709551615 - 2 ^ p) : Nat) : Int)) ∧ w' = w := by
  have hps := pow_small p hp
  have hw := wr_pow p hp
  have h := bits_not s (2 ^ p) (by omega) (by omega)
  generalize 2 ^ p = t at h hps hw
  go_enter Try.func56, Try.ntmps56
  go_wp2_with fail
  go_ret
  exact ⟨rfl, rfl⟩

set_option maxHeartbeats 400000 in
theorem has_any (s p : Nat) (hs : s < 65536) (hp : p < 16) (w : World) :
    Calls Try.prog 58 #[.int .u64 (s : Int), .int .i64 (p : Int)] w fun e w' => e = .returned (.bool (decide (s &&& 2 ^ p ≠ 0))) ∧ w' = w := by
  have hps := pow_small p hp
  have hw := wr_pow p hp
  have h := meets_any s (2 ^ p) hs hps w
  generalize 2 ^ p = t at h hps hw
  go_enter Try.func58, Try.ntmps58
  go_wp2_with fail
  refine h.mono ?_
  rintro e w1 ⟨rfl, rfl⟩
  go_wp2_with fail
  go_ret
  exact ⟨ret_bool (by simp), rfl⟩

/-- The places below k that are there. -/
def placesTo (s k : Nat) : List Nat := (List.range k).filter fun i => decide (s &&& 2 ^ i ≠ 0)
theorem places_succ (s k : Nat) : placesTo s (k + 1) = if decide (s &&& 2 ^ k ≠ 0) then placesTo s k ++ [k] else placesTo s k := by
  unfold placesTo
  rw [List.range_succ, List.filter_append]
  split
  · rename_i h; simp only [List.filter_cons, List.filter_nil, h, if_true]
  · rename_i h; simp only [List.filter_cons, List.filter_nil, h]; simp
theorem places_le (s k : Nat) : (placesTo s k).length ≤ k := by
  have := List.length_filter_le (fun i => decide (s &&& 2 ^ i ≠ 0)) (List.range k)
  simpa [placesTo] using this
def natVs (l : List Nat) : List Value := l.map fun i : Nat => .int .i64 (i : Int)
theorem Try.infoInt' : (Try.prog.info? 3).map (fun i => (i.zero, i.size, i.bytes)) = some (some (.int .i64 0), 1, 8) := by kernel_rfl

set_option maxHeartbeats 2000000 in
theorem places_any (s : Nat) (hs : s < 65536) (w : World) :
    Calls Try.prog 41 #[.int .u64 (s : Int)] w fun e w' => (∃ v, e = .returned v ∧ w'.ownsRow w.heap.size 3 1 v (placesTo s 8).length (natVs (placesTo s 8))) ∧ Below w.heap.size w w' := by
  obtain ⟨i0, hi, hz0, hz1, hz2⟩ := info_parts Try.infoInt'
  go_enter Try.func41, Try.ntmps41
  go_wp2_with fail
  go_loopw [3, 5] (fun v i wr => ∃ k : Nat, i = .int .i64 k ∧ k ≤ 8 ∧ Hid (wr.ownsRow w.heap.size 3 1 v (placesTo s k).length (natVs (placesTo s k))) ∧ Hid (Below w.heap.size w wr)) (fun _ i _ => 8 - (intOf i).toNat)
  case atStart => exact ⟨0, rfl, by omega, ⟨by simp [placesTo, natVs], Or.inl ⟨rfl, by simp [placesTo]⟩⟩, Below.refl _ _⟩
  case round =>
    rename World => wo
    obtain ⟨k, rfl, hk, HO, HB⟩ := hrel
    by_cases hk8 : k < 8
    · have hk8' : (k : Int) < 8 := by omega
      go_wp2_with fail
      refine (has_any s k hs (by omega) _).mono ?_
      rintro e w2 ⟨rfl, rfl⟩
      have hsucc := places_succ s k
      have hle := places_le s k
      have hz := (unhide HB).size
      cases hf : decide (s &&& 2 ^ k ≠ 0) with
      | false =>
        rw [hf] at hsucc
        have HSU := hide hsucc
        clear hsucc
        go_wp2_with fail
        go_roundw
        case rel =>
          refine ⟨k + 1, by go_num, by omega, ?_, HB⟩
          have e : placesTo s (k + 1) = placesTo s k := by rw [unhide HSU]; rfl
          rw [e]
          exact HO
        case measure => simp [intOf]; omega
      | true =>
        rw [hf] at hsucc
        have HSU := hide hsucc
        have hown := unhide HO
        clear hsucc
        go_wp2_with (first
          | (at_builtin; refine wpList_append_own _ rfl _ _ 26 rfl w.heap.size 3 i0 (.int .i64 0) 1 8 Try.underlying26 hi hz0 hz1 hz2 rfl (by decide) _ _ _ rfl (hown.alloc _) ⟨w2.heap.size, 0, none⟩ 1 1 [.int .i64 k] rfl rfl ?c1 ?c2 ?c3 ?c4 ?c5 ?_))
        case c1 =>
          intro j u hj
          match j, hj with
          | 0, hj => simp at hj; subst hj; simp [Addr.add]
        case c2 => intro u hu; simp at hu; subst hu; rfl
        case c3 => unfold maxLen; omega
        case c4 => omega
        case c5 => simp; omega
        intro v' w3 hown' hgrow _
        have hb1 := ((unhide HB).alloc (by omega) (.cells #[.int .i64 k] 3)).grown hgrow (by simp; omega) (fun j hj => (World.ownsRow.lt hown j hj).1)
        have hown1 : w3.ownsRow w.heap.size 3 1 v' (placesTo s (k + 1)).length (natVs (placesTo s (k + 1))) := by
          have e : placesTo s (k + 1) = placesTo s k ++ [k] := by rw [unhide HSU]; rfl
          rw [e]
          simpa [natVs] using hown'
        have HO3 := hide hown1
        have HB3 := hide hb1
        clear hown hown' hgrow hown1 hb1
        go_wp2_with fail
        go_roundw
        case rel => exact ⟨k + 1, by go_num, by omega, HO3, HB3⟩
        case measure => simp [intOf]; omega
    · have hk8' : ¬ (k : Int) < 8 := by omega
      have hke : k = 8 := by omega
      subst hke
      go_wp2_with fail
      go_ret
      exact ⟨⟨_, rfl, HO⟩, HB⟩
end Go.Proofs.Ytecipjdbfmldlab
