/- The program's StateList. -/
import Derived.Test.YtecipjdbfmldlabStM
namespace Go.Proofs.Ytecipjdbfmldlab
set_option linter.unusedVariables false
set_option linter.unusedSimpArgs false
open Go.RowKit Go.Deep

set_option maxRecDepth 100000 in
set_option maxHeartbeats 4000000 in
theorem implStateList_any (a : Option Addr) (l : List PackD) (cap : Nat) (room : Int) (w : World) (h : PacksAt (Old w) w a l) :
    Calls Try.prog 16 #[.agg #[.slice a l.length cap, .int .i64 room]] w fun e w' => (∃ v, e = .returned v ∧ ∃ vs, Lst w.heap.size w' v (stateL l room) vs) ∧ Below w.heap.size w w' := by
  have HP := hide h
  clear h
  obtain ⟨i0, hi0, hz0, hz1, hz2⟩ := info_parts Try.infoInts
  go_enter Try.func16, Try.ntmps16
  have bA := (Below.refl w.heap.size w).alloc (Nat.le_refl _) (.cells #[.slice a l.length cap, .int .i64 room] 25)
  have HC := hide (implRepoOk_any a l cap room _ ((unhide HP).on bA))
  go_wp2_with fail
  refine (unhide HC).mono ?_
  rintro e w1 ⟨rfl, hb1⟩
  have z1 := hb1.size
  simp at z1
  have x0 := hb1.cell (p := ⟨w.heap.size, 0, none⟩) (by simp)
  have x1 := hb1.cell (p := ⟨w.heap.size, 1, none⟩) (by simp)
  simp at x0 x1
  have HB1 := hide (bA.trans (hb1.mono (by simp)))
  clear HC bA hb1
  cases hok : repoB ⟨l, room⟩ with
  | false =>
    have HE := hide (show stateL l room = [] by unfold stateL; rw [hok]; rfl)
    go_wp2_with fail
    go_ret
    exact ⟨⟨_, rfl, [], by rw [unhide HE]; exact Lst.nil _ _⟩, unhide HB1⟩
  | true =>
    have HE := hide (show stateL l room = statesTo l room (2 ^ l.length) by unfold stateL; rw [hok]; rfl)
    have okl := OkL.of hok
    have hl8 := okl.l8
    have HOK := hide hok
    have HOL := hide okl
    have HCS := hide (stockOf_any a l cap room w1 ((unhide HP).on (unhide HB1)) hl8 okl.reqs)
    clear hok okl
    go_wp2_with fail
    refine (unhide HCS).mono ?_
    rintro e w2 ⟨⟨bm, v, rfl, hAs, _⟩, hb2⟩
    have hb2' := (unhide HB1).trans (hb2.mono (unhide HB1).size)
    have hst : Stock w2 (.agg #[.slice a l.length cap, .int .i64 room, .map (some bm), v]) l room := ⟨a, cap, bm, v, rfl, (unhide HP).on hb2', hAs⟩
    obtain ⟨⟨xa, xc, rfl⟩, _⟩ := hAs
    have z2 := hb2.size
    have HB2 := hide hb2'
    have hpw := shl_one l.length hl8
    have hshl : IntKind.u64.wrap (2 ^ l.length) = ((2 ^ l.length : Nat) : Int) := by
      rw [show ((2 : Int) ^ l.length) = ((2 ^ l.length : Nat) : Int) by simp]
      generalize 2 ^ l.length = N0 at hpw ⊢
      exact wr_u64 _ (by omega)
    have hll : (l.length : Int) < 64 := by omega
    generalize hN : 2 ^ l.length = N at hpw hshl HE
    have HN := hide hN
    obtain ⟨w3, hw3⟩ : ∃ w3, w3 = w2.alloc (.cells #[.slice a l.length cap, .int .i64 room, .map (some bm), .slice xa l.length xc] 55) := ⟨_, rfl⟩
    have b23 : Below w2.heap.size w2 w3 := by rw [hw3]; exact (Below.refl _ _).alloc (Nat.le_refl _) _
    have z3 : w3.heap.size = w2.heap.size + 1 := by rw [hw3]; simp
    have y0 : w3.cell? ⟨w2.heap.size, 0, none⟩ = some (.slice a l.length cap) := by rw [hw3]; simp
    have y1 : w3.cell? ⟨w2.heap.size, 1, none⟩ = some (.int .i64 room) := by rw [hw3]; simp
    have y2 : w3.cell? ⟨w2.heap.size, 2, none⟩ = some (.map (some bm)) := by rw [hw3]; simp
    have y3 : w3.cell? ⟨w2.heap.size, 3, none⟩ = some (.slice xa l.length xc) := by rw [hw3]; simp
    have HST := hide (hst.on b23)
    have HB3 := hide ((unhide HB2).trans (b23.mono (unhide HB2).size))
    have z3' : w2.heap.size < w3.heap.size := by omega
    clear HCS hb2 hb2' hst hN b23 x0 x1 z3
    go_wp2_with fail
    rw [← hw3]
    clear hw3
    have HY := hide (And.intro y0 (And.intro y1 (And.intro y2 y3)))
    clear y0 y1 y2 y3
    go_loopw [4, 15] (fun v i wr => ∃ (k : Nat) (vs : List Value), k ≤ N ∧ i = .int .u64 k ∧ Hid (Lst w3.heap.size wr v (statesTo l room k) vs) ∧ Hid (Below w3.heap.size w3 wr)) (fun _ i _ => N - (intOf i).toNat)
    case atStart => exact ⟨0, [], Nat.zero_le _, rfl, Lst.nil _ _, Below.refl _ _⟩
    case round =>
      rename World => wo
      obtain ⟨k, vs, hk, rfl, HL, HB⟩ := hrel
      obtain ⟨y0, y1, y2, y3⟩ := unhide HY
      rw [← (unhide HB).cell (p := ⟨w2.heap.size, _, none⟩) (by simp; omega)] at y0 y1 y2 y3
      have zo := (unhide HB).size
      by_cases hlt : k < N
      · have j1 : (k : Int) < (N : Int) := by omega
        have hk256 : k < 256 := by omega
        have hk2 : k < 2 ^ l.length := by rw [unhide HN]; exact hlt
        have hpl : ∀ p ∈ placesTo k 8, p < l.length := fun p hp => by
          have hb := (mem_places k 8 p).1 hp
          rcases Nat.lt_or_ge p l.length with h1 | h1
          · exact h1
          · have h2 : k < 2 ^ p := Nat.lt_of_lt_of_le hk2 (Nat.pow_le_pow_right (by omega) h1)
            rw [Nat.testBit_lt_two_pow h2] at hb
            cases hb.2
        have HCK := hide (healthy_any l room _ k (by omega) hpl (unhide HOL) wo ((unhide HST).on (unhide HB)))
        have hst := states_succ l room k
        have hsl := states_le l room k
        have hps8 := places_le k 8
        have hw4 : IntKind.u64.wrap ((k : Int) + 1) = (k : Int) + 1 := by rw [IntKind.wrap_u64]; omega
        have HSS := hide hst
        clear hst hpl hk2
        cases hh : healthB l room k with
        | false =>
          have HS2 := hide (show statesTo l room (k + 1) = statesTo l room k by rw [unhide HSS, hh]; rfl)
          go_wp2_with (first
            | (go_at_call 30; refine (unhide HCK).mono ?_; rintro e w4 ⟨rfl, hb4⟩; rw [hh]; have HB4 := hide hb4; clear hb4))
          go_roundw
          case rel => exact ⟨k + 1, vs, by omega, by first | go_num | simp, by rw [unhide HS2]; exact (unhide HL).on (unhide HB4), (unhide HB).trans ((unhide HB4).mono (by omega))⟩
          case measure => simp [intOf]; omega
        | true =>
          have HS2 := hide (show statesTo l room (k + 1) = statesTo l room k ++ [placesTo k 8] by rw [unhide HSS, hh]; rfl)
          go_wp2_with (first
            | (go_at_call 30; refine (unhide HCK).mono ?_; rintro e w4 ⟨rfl, hb4⟩; rw [hh]; have HB4 := hide hb4; clear hb4)
            | (go_at_call 41; refine (places_any k (by omega) _).mono ?_; rintro e w5 ⟨⟨y5, rfl, hrow5⟩, hb5⟩; have HB5 := hide hb5; have HR5 := hide hrow5; clear hb5 hrow5; obtain ⟨a5, k5, rfl, _⟩ := PlAt.of_row (unhide HR5); have hL5 := ((unhide HL).on (unhide HB4)).on (unhide HB5); have hown5 := hL5.own; have HOB := hide (fun j hj => (hown5.lt j hj).1); have hz4 := (unhide HB4).size; have hz5 := (unhide HB5).size)
            | (at_builtin; refine wpList_append_own _ rfl _ _ 38 rfl w3.heap.size 26 i0 (.slice none 0 0) 1 24 Try.underlying38 hi0 hz0 hz1 hz2 rfl (by decide) _ _ _ rfl (hown5.alloc _) ⟨w5.heap.size, 0, none⟩ 1 1 [.slice a5 (placesTo k 8).length k5] rfl rfl ?c1 ?c2 ?c3 ?c4 ?c5 ?_))
          case c1 =>
            intro j u hj
            match j, hj with
            | 0, hj => simp at hj; subst hj; simp [Addr.add]
          case c2 => intro u hu; simp at hu; subst hu; rfl
          case c3 => unfold maxLen; omega
          case c4 => omega
          case c5 => simp; omega
          intro v' w6 hown6 hgrow _
          have bA6 := (Below.refl w5.heap.size w5).alloc (Nat.le_refl _) (.cells #[.slice a5 (placesTo k 8).length k5] 26)
          have hL6 := Lst.snoc (r := placesTo k 8) (u := .slice a5 (placesTo k 8).length k5) (B2 := w4.heap.size) (hL5.on bA6) (ownsRow_on (unhide HR5) bA6) (by omega) (fun i j hi hj => ((unhide HL).on (unhide HB4)).lt i j hi hj) hown6 hgrow
          have hb6 : Below w3.heap.size w3 w6 := by
            have h1 : Below w3.heap.size w3 (w5.alloc (.cells #[.slice a5 (placesTo k 8).length k5] 26)) := ((unhide HB).trans ((unhide HB4).mono (by omega))).trans (((unhide HB5).trans (bA6.mono (unhide HB5).size)).mono (by omega))
            refine ⟨hgrow.os.trans h1.os, hgrow.tape.trans h1.tape, hgrow.output.trans h1.output, Nat.le_trans h1.size hgrow.size, fun b hb => ?_⟩
            rw [hgrow.block b (by simp; omega) (fun e => ?_)]
            · exact h1.block b hb
            · have := unhide HOB b e.symm
              omega
          have HL6 := hide hL6
          have HB6 := hide hb6
          clear hL6 hb6 hown6 hgrow hL5 hown5 bA6
          go_wp2_with fail
          go_roundw
          case rel => exact ⟨k + 1, vs ++ [.slice a5 (placesTo k 8).length k5], by omega, by first | go_num | simp, by rw [unhide HS2]; exact unhide HL6, unhide HB6⟩
          case measure => simp [intOf]; omega
      · have hke : k = N := by omega
        subst hke
        have j1 : ¬ (k : Int) < (k : Int) := by omega
        go_wp2_with fail
        go_ret
        exact ⟨⟨_, rfl, vs, by rw [unhide HE]; exact (unhide HL).base (by have := (unhide HB3).size; omega)⟩, (unhide HB3).trans ((unhide HB).mono (unhide HB3).size)⟩
end Go.Proofs.Ytecipjdbfmldlab
