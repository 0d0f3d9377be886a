/- StateList of both sides. -/
import Derived.Test.YthkhaemlcmkkjasGreatGStL
namespace Go.Proofs.YthkhaemlcmkkjasGreat
set_option linter.unusedVariables false
set_option linter.unusedSimpArgs false
open Go.RowKit Go.Deep

theorem places_stop {n k : Nat} (h : n >>> k = 0) (hk : k ≤ 8) (hn : n < 256) : placesTo n k = placesTo n 8 := by
  have hz : ∀ i, k ≤ i → n.testBit i = false := fun i hi => by
    have : (n >>> k).testBit (i - k) = n.testBit i := by rw [Nat.testBit_shiftRight]; congr 1; omega
    rw [← this, h, Nat.zero_testBit]
  have step : ∀ d, k + d ≤ 8 → placesTo n (k + d) = placesTo n k := by
    intro d
    induction d with
    | zero => intro _; rfl
    | succ d ih =>
      intro hd
      rw [show k + (d + 1) = (k + d) + 1 by omega, places_succ, has_test, hz (k + d) (by omega), ih (by omega)]
      simp
  have := step (8 - k) (by omega)
  rw [show k + (8 - k) = 8 by omega] at this
  exact this.symm

set_option maxRecDepth 10000 in
set_option maxHeartbeats 2000000 in
theorem l2Set_any (n : Nat) (hn : n < 256) (w : World) :
    Calls Tryz.prog 52 #[.int .i64 (n : Int)] w fun e w' => (∃ v, e = .returned v ∧ w'.ownsRow w.heap.size 3 1 v (placesTo n 8).length (natVs (placesTo n 8))) ∧ Below w.heap.size w w' := by
  obtain ⟨i0, hi, hz0, hz1, hz2⟩ := info_parts Tryz.infoInt'
  go_enter Tryz.func52, Tryz.ntmps52
  go_wp2_with fail
  go_loopw [0, 3, 4] (fun nv v i wr => ∃ k : Nat, nv = .int .i64 ((n >>> k : Nat) : Int) ∧ i = .int .i64 k ∧ k ≤ 8 ∧ Hid (wr.ownsRow w.heap.size 3 1 v (placesTo n k).length (natVs (placesTo n k))) ∧ Hid (Below w.heap.size w wr)) (fun _ _ i _ => 8 - (intOf i).toNat)
  case atStart =>
    refine ⟨0, by simp, rfl, by omega, ?_, (Below.refl _ _).alloc (Nat.le_refl _) _⟩
    refine ⟨by simp [placesTo, natVs], Or.inr ⟨w.heap.size, 0, #[], rfl, Nat.le_refl _, blk_alloc_new _ _, Nat.zero_le _, Nat.zero_le _, rfl, rfl⟩⟩
  case round =>
    rename World => wo
    obtain ⟨k, rfl, rfl, hk, HO, HB⟩ := hrel
    by_cases hpos : 0 < n >>> k
    · have hk8 : k < 8 := by
        rcases Nat.lt_or_ge k 8 with h | h
        · exact h
        · have : n >>> k = 0 := by
            rw [Nat.shiftRight_eq_div_pow]
            exact Nat.div_eq_of_lt (Nat.lt_of_lt_of_le hn (Nat.pow_le_pow_right (n := 2) (by omega) h))
          omega
      have hp1 : (0 : Int) < ((n >>> k : Nat) : Int) := by omega
      have hsh : n >>> (k + 1) = (n >>> k) / 2 := by rw [Nat.shiftRight_succ]
      have hbit : (decide (n &&& 2 ^ k ≠ 0)) = decide ((n >>> k) % 2 = 1) := by
        rw [has_test, Nat.testBit, Nat.one_and_eq_mod_two]
        rcases Nat.mod_two_eq_zero_or_one (n >>> k) with h | h <;> simp [h]
      have hsucc := places_succ n k
      rw [hbit] at hsucc
      have hle := places_le n k
      have hzb := (unhide HB).size
      have hmle : n >>> k < 256 := Nat.lt_of_le_of_lt (by rw [Nat.shiftRight_eq_div_pow]; exact Nat.div_le_self _ _) hn
      generalize n >>> k = m at hpos hp1 hsh hbit hsucc hmle ⊢
      have hmm : Int.tmod (m : Int) 2 = ((m % 2 : Nat) : Int) := by rw [Int.tmod_eq_emod_of_nonneg (by omega)]; omega
      have hdd : Int.tdiv (m : Int) 2 = ((m / 2 : Nat) : Int) := by rw [Int.tdiv_eq_ediv_of_nonneg (by omega)]; omega
      have hwm : IntKind.i64.wrap (Int.tmod (m : Int) 2) = ((m % 2 : Nat) : Int) := by rw [hmm, IntKind.wrap_i64]; omega
      have hwd : IntKind.i64.wrap (Int.tdiv (m : Int) 2) = ((m / 2 : Nat) : Int) := by rw [hdd, IntKind.wrap_i64]; omega
      have HSH := hide hsh
      have HSU := hide hsucc
      clear hsh hsucc hbit
      by_cases hodd : m % 2 = 1
      · have ho1 : (((m % 2 : Nat) : Int) == 1) = true := by simp [hodd]
        have hown := unhide HO
        have hod' : Hid (placesTo n (k + 1) = placesTo n k ++ [k]) := by show _ = _; rw [unhide HSU]; simp [hodd]
        clear hodd
        generalize hr2 : m % 2 = r2 at ho1 hmm hwm
        go_wp2_with (first
          | (at_builtin; refine wpList_append_own _ rfl _ _ 26 rfl w.heap.size 3 i0 (.int .i64 0) 1 8 Tryz.underlying26 hi hz0 hz1 hz2 rfl (by decide) _ _ _ rfl (hown.alloc _) ⟨wo.heap.size, 0, none⟩ 1 1 [.int .i64 k] rfl rfl ?c1 ?c2 ?c3 ?c4 ?c5 ?_))
        case c1 =>
          intro j u hj
          match j, hj with
          | 0, hj => simp at hj; subst hj; simp [Addr.add]
        case c2 => intro u hu; simp at hu; subst hu; rfl
        case c3 => unfold maxLen; omega
        case c4 => omega
        case c5 => simp; omega
        intro v' w3 hown' hgrow _
        have hb1 := ((unhide HB).alloc (by omega) (.cells #[.int .i64 k] 3)).grown hgrow (by simp; omega) (fun j hj => (World.ownsRow.lt hown j hj).1)
        have hown1 : w3.ownsRow w.heap.size 3 1 v' (placesTo n (k + 1)).length (natVs (placesTo n (k + 1))) := by
          rw [unhide hod']
          simpa [natVs] using hown'
        have HO3 := hide hown1
        have HB3 := hide hb1
        clear hown hown' hgrow hown1 hb1
        go_wp2_with fail
        go_roundw
        case rel => exact ⟨k + 1, by rw [unhide HSH]; simp, by go_num, by omega, HO3, HB3⟩
        case measure => simp [intOf]; omega
      · have ho1 : (((m % 2 : Nat) : Int) == 1) = false := by
          rw [beq_eq_false_iff_ne]
          omega
        have hod' : Hid (placesTo n (k + 1) = placesTo n k) := by show _ = _; rw [unhide HSU]; simp [hodd]
        clear hodd
        generalize hr2 : m % 2 = r2 at ho1 hmm hwm
        clear hr2
        go_wp2_with fail
        go_roundw
        case rel => exact ⟨k + 1, by rw [unhide HSH]; simp, by go_num, by omega, by rw [unhide hod']; exact HO, HB⟩
        case measure => simp [intOf]; omega
    · have hp1 : ¬ (0 : Int) < ((n >>> k : Nat) : Int) := by rw [Nat.eq_zero_of_not_pos hpos]; decide
      have hst := places_stop (n := n) (k := k) (Nat.eq_zero_of_not_pos hpos) hk hn
      rw [hst] at HO
      go_wp2_with fail
      go_ret
      exact ⟨⟨_, rfl, HO⟩, HB⟩

/-- All along the statement that asks whether a state is healthy. -/
structure C9 (W : World) (ps : List Nat) (b : Bool) (us : List Value) (x : World) : Prop where
  below : Below W.heap.size W x
  list : ∀ y, us = [y] → x.ownsRow W.heap.size 3 1 y ps.length (natVs ps)
theorem C9.on {W : World} {ps : List Nat} {b b' : Bool} {us : List Value} {x y : World} (h : C9 W ps b us x) (hb : Below x.heap.size x y) : C9 W ps b' us y :=
  ⟨h.below.trans (hb.mono h.below.size), fun z hz => ownsRow_on (h.list z hz) hb⟩
theorem shl_one (n : Nat) (h : n ≤ 8) : 2 ^ n ≤ 256 := by
  have : 2 ^ n ≤ 2 ^ 8 := Nat.pow_le_pow_right (by omega) h
  omega

set_option maxRecDepth 100000 in
set_option maxHeartbeats 4000000 in
theorem specStateList_any (a : Option Addr) (l : List PackD) (cap : Nat) (room : Int) (w : World) (h : PacksAt (Old w) w a l) :
    Calls Tryz.prog 28 #[.agg #[.slice a l.length cap, .int .i64 room]] w fun e w' => (∃ v, e = .returned v ∧ ∃ vs, Lst w.heap.size w' v (stateL l room) vs) ∧ Below w.heap.size w w' := by
  have HP := hide h
  clear h
  obtain ⟨i0, hi0, hz0, hz1, hz2⟩ := info_parts Tryz.infoInts
  go_enter Tryz.func28, Tryz.ntmps28
  have bA := ((Below.refl w.heap.size w).alloc (Nat.le_refl _) (.cells #[.slice a l.length cap, .int .i64 room] 25)).alloc (by simp) (.cells #[] 26)
  have HC := hide (specRepoOk_any a l cap room _ ((unhide HP).on bA))
  go_wp2_with fail
  refine (unhide HC).mono ?_
  rintro e w1 ⟨rfl, hb1⟩
  have z1 := hb1.size
  simp at z1
  have x0 := hb1.cell (p := ⟨w.heap.size, 0, none⟩) (by simp; omega)
  have x1 := hb1.cell (p := ⟨w.heap.size, 1, none⟩) (by simp; omega)
  simp at x0 x1
  have hrow : w1.heap[w.heap.size + 1]? = some (.cells #[] 26 (0, 0)) := (hb1.block (w.heap.size + 1) (by simp)).trans (by
    have := blk_alloc_new (w.alloc (.cells #[.slice a l.length cap, .int .i64 room] 25)) (.cells #[] 26)
    simpa using this)
  have HL0 := hide (show Lst (w.heap.size + 1) w1 (.slice (some ⟨w.heap.size + 1, 0, none⟩) 0 0) [] [] from ⟨rfl, ⟨rfl, Or.inr ⟨w.heap.size + 1, 0, #[], rfl, Nat.le_refl _, hrow, Nat.zero_le _, Nat.zero_le _, rfl, rfl⟩⟩, fun i hi => absurd hi (Nat.not_lt_zero _), fun i j _ hj => absurd hj (Nat.not_lt_zero _)⟩)
  have HB1 := hide (bA.trans (hb1.mono (by simp; omega)))
  clear HC bA hb1 hrow
  cases hok : repoB ⟨l, room⟩ with
  | false =>
    have HE := hide (show stateL l room = [] by unfold stateL; rw [hok]; rfl)
    go_wp2_with fail
    go_ret
    exact ⟨⟨_, rfl, [], by rw [unhide HE]; exact (unhide HL0).base (by omega)⟩, unhide HB1⟩
  | true =>
    have HE := hide (show stateL l room = statesTo l room (2 ^ l.length) by unfold stateL; rw [hok]; rfl)
    have hl8 := (OkL.of hok).l8
    have HOK := hide hok
    have hpw := shl_one l.length hl8
    have hshl : IntKind.i64.wrap (2 ^ l.length) = ((2 ^ l.length : Nat) : Int) := by
      rw [show ((2 : Int) ^ l.length) = ((2 ^ l.length : Nat) : Int) by simp]
      generalize 2 ^ l.length = N0 at hpw ⊢
      rw [IntKind.wrap_i64]
      omega
    have hll : (l.length : Int) < 64 := by omega
    generalize hN : 2 ^ l.length = N at hpw hshl HE
    have HN := hide hN
    clear hN hok
    go_wp2_with fail
    go_loopw [3, 4] (fun v i wr => ∃ (k : Nat) (vs : List Value), k ≤ N ∧ i = .int .i64 k ∧ Hid (Lst (w.heap.size + 1) wr v (statesTo l room k) vs) ∧ Hid (Below (w.heap.size + 1) w1 wr)) (fun _ i _ => N - (intOf i).toNat)
    case atStart => exact ⟨0, [], Nat.zero_le _, rfl, unhide HL0, Below.refl _ _⟩
    case round =>
      rename World => wo
      obtain ⟨k, vs, hk, rfl, HL, HB⟩ := hrel
      rw [← (unhide HB).cell (p := ⟨w.heap.size, _, none⟩) (by simp)] at x0 x1
      have zo := (unhide HB).size
      by_cases hlt : k < N
      · have j1 : (k : Int) < (N : Int) := by omega
        have hk256 : k < 256 := by omega
        have bo : Below w.heap.size w wo := (unhide HB1).trans ((unhide HB).mono (by omega))
        have hok3 := ok_places (unhide HOK) (s := k) (by rw [unhide HN]; exact hlt)
        have hst := states_succ l room k
        have hsl := states_le l room k
        have hps8 := places_le k 8
        have HST := hide hst
        have HBO := hide bo
        have HX := hide (And.intro x0 x1)
        clear hst bo x0 x1
        obtain ⟨x0, x1⟩ := unhide HX
        go_upto_region 7 with fail
        refine wp_region_mix (k := 100) 3 [2] [.agg #[.slice a l.length cap, .int .i64 room], .int .i64 (k : Int), undef] (C9 wo (placesTo k 8)) (by kernel_rfl) (by kernel_rfl) (by kernel_rfl) (by kernel_rfl) (by kernel_rfl) (by kernel_rfl) ⟨(Below.refl _ _).drew, (fun y h => by cases h)⟩ ?_ ?_ ?_
        · intro full hfull i oo hi hns ho x fl us hC hb
          simp [putAll, slotOf, Act.put] at hfull
          subst hfull
          have hq := hC.below
          rw [← hq.cell (p := ⟨w.heap.size, _, none⟩) (by simp; omega)] at x0 x1
          have hC0 := hC.on (b' := fl) (Below.refl _ _)
          match i with
          | 0 => simp at ho; subst ho; simp [gwp, Region.wanted, yielded]; go_simp; first | done | exact hC0 | exact ⟨rfl, hC0⟩
          | 1 => simp at ho; subst ho; simp [gwp, Region.wanted, yielded]; go_simp; first | done | exact hC0 | exact ⟨rfl, hC0⟩
          | 2 => simp at hns
          | i + 3 => omega
        · intro full hfull us j hj oo ho x fl hC
          simp [putAll, slotOf, Act.put] at hfull
          subst hfull
          match us with
          | [] =>
            simp at hj
            subst hj
            simp at ho
            subst ho
            simp [gwp, Region.wanted, yielded, putP]
            go_simp
            refine (l2Set_any k hk256 x).mono ?_
            rintro e w' ⟨⟨y, rfl, hrow⟩, hb2⟩
            go_simp
            have hC2 := hC.on (b' := fl) hb2
            refine ⟨hC2.below, fun z hz => ?_⟩
            cases hz
            exact row_base hrow hC.below.size
          | _ :: _ => simp at hj
        · intro full hfull us x hus hC
          simp [putAll, slotOf, Act.put] at hfull
          subst hfull
          match us, hus with
          | [yv], _ =>
          obtain ⟨ya, yc, rfl, hset⟩ := SetAt.of_row (hC.list yv rfl) (by omega)
          have bx0 := hC.below
          have bx := (unhide HBO).trans (bx0.mono (unhide HBO).size)
          have HCK := hide (specStateOk_any a l cap room ya (intsOf (placesTo k 8)) yc x ((unhide HP).on bx) hset)
          have HBX0 := hide bx0
          clear hC hset bx
          simp [putP, slotOf, Act.put]
          generalize hlen : (intsOf (placesTo k 8)).length = ln at HCK ⊢
          clear hlen
          cases hh : healthB l room k with
          | false =>
            have HS2 := hide (show statesTo l room (k + 1) = statesTo l room k by rw [unhide HST, hh]; rfl)
            go_wp2_with (first
              | (go_at_call 15; refine (unhide HCK).mono ?_; rintro e w3 ⟨rfl, hb3⟩; rw [hok3, hh]; have HB3 := hide ((unhide HBX0).trans (hb3.mono (unhide HBX0).size)); clear hb3))
            go_roundw
            case rel => exact ⟨k + 1, vs, by omega, by go_num, by rw [unhide HS2]; exact (unhide HL).on (unhide HB3), (unhide HB).trans ((unhide HB3).mono (by omega))⟩
            case measure => simp [intOf]; omega
          | true =>
            have HS2 := hide (show statesTo l room (k + 1) = statesTo l room k ++ [placesTo k 8] by rw [unhide HST, hh]; rfl)
            go_wp2_with (first
              | (go_at_call 15; refine (unhide HCK).mono ?_; rintro e w3 ⟨rfl, hb3⟩; rw [hok3, hh]; have HB3 := hide ((unhide HBX0).trans (hb3.mono (unhide HBX0).size)); clear hb3)
              | (go_at_call 52; refine (l2Set_any k hk256 _).mono ?_; rintro e w4 ⟨⟨y4, rfl, hrow4⟩, hb4⟩; have HB4 := hide hb4; have HR4 := hide hrow4; clear hb4 hrow4; obtain ⟨a4, k4, rfl, _⟩ := PlAt.of_row (unhide HR4); have hL4 := ((unhide HL).on (unhide HB3)).on (unhide HB4); have hown4 := hL4.own; have HOB := hide (fun j hj => (hown4.lt j hj).1); have hz3 := (unhide HB3).size; have hz4 := (unhide HB4).size)
              | (at_builtin; refine wpList_append_own _ rfl _ _ 72 rfl (w.heap.size + 1) 26 i0 (.slice none 0 0) 1 24 Tryz.underlying72 hi0 hz0 hz1 hz2 rfl (by decide) _ _ _ rfl (hown4.alloc _) ⟨w4.heap.size, 0, none⟩ 1 1 [.slice a4 (placesTo k 8).length k4] rfl rfl ?c1 ?c2 ?c3 ?c4 ?c5 ?_))
            case c1 =>
              intro j u hj
              match j, hj with
              | 0, hj => simp at hj; subst hj; simp [Addr.add]
            case c2 => intro u hu; simp at hu; subst hu; rfl
            case c3 => unfold maxLen; omega
            case c4 => omega
            case c5 => simp; omega
            intro v' w5 hown5 hgrow _
            have bA5 := (Below.refl w4.heap.size w4).alloc (Nat.le_refl _) (.cells #[.slice a4 (placesTo k 8).length k4] 26)
            have hL5 := Lst.snoc (r := placesTo k 8) (u := .slice a4 (placesTo k 8).length k4) (B2 := w3.heap.size) (hL4.on bA5) (ownsRow_on (unhide HR4) bA5) (by omega) (fun i j hi hj => ((unhide HL).on (unhide HB3)).lt i j hi hj) hown5 hgrow
            have hb5 : Below (w.heap.size + 1) w1 w5 := by
              have h1 : Below (w.heap.size + 1) w1 (w4.alloc (.cells #[.slice a4 (placesTo k 8).length k4] 26)) := ((unhide HB).trans ((unhide HB3).mono (by omega))).trans (((unhide HB4).trans (bA5.mono (unhide HB4).size)).mono (by omega))
              refine ⟨hgrow.os.trans h1.os, hgrow.tape.trans h1.tape, hgrow.output.trans h1.output, Nat.le_trans h1.size hgrow.size, fun b hb => ?_⟩
              rw [hgrow.block b (by simp; omega) (fun e => ?_)]
              · exact h1.block b hb
              · have := unhide HOB b e.symm
                omega
            have HL5 := hide hL5
            have HB5 := hide hb5
            clear hL5 hb5 hown5 hgrow hL4 hown4 bA5
            go_wp2_with fail
            go_roundw
            case rel => exact ⟨k + 1, vs ++ [.slice a4 (placesTo k 8).length k4], by omega, by go_num, by rw [unhide HS2]; exact unhide HL5, unhide HB5⟩
            case measure => simp [intOf]; omega
      · have hke : k = N := by omega
        subst hke
        have j1 : ¬ (k : Int) < (k : Int) := by omega
        go_wp2_with fail
        go_ret
        exact ⟨⟨_, rfl, vs, by rw [unhide HE]; exact (unhide HL).base (by omega)⟩, (unhide HB1).trans ((unhide HB).mono (by omega))⟩
end Go.Proofs.YthkhaemlcmkkjasGreat
