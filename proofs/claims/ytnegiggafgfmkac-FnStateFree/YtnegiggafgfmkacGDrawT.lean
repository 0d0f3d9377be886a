/- The specification's states with one more, one less, and whether one is there. The specification's draws of packs and a state. -/
import Derived.Test.YtnegiggafgfmkacGStM
import Derived.Test.YtnegiggafgfmkacGDrawK
import Derived.Test.YtnegiggafgfmkacGDrawS
namespace Go.Proofs.Ytnegiggafgfmkac
set_option linter.unusedVariables false
set_option linter.unusedSimpArgs false
open Go.RowKit Go.Deep

set_option maxHeartbeats 1000000 in
theorem l3Has_any (sa : Option Addr) (set : List Int) (sc : Nat) (n : Int) (w : World) (hs : SetAt w sa set) :
    Calls Try.prog 31 #[.slice sa set.length sc, .int .i64 n] w fun e w' => e = .returned (.bool (set.any (· == n))) ∧ w' = w := by
  obtain ⟨hsl, hset⟩ := hs
  go_enter Try.func31, Try.ntmps31
  go_wp2_with fail
  go_loopw [5] (fun i wr => ∃ k : Nat, k ≤ set.length ∧ i = .int .i64 k ∧ Hid ((set.take k).any (· == n) = false) ∧ wr = w) (fun i _ => set.length - (intOf i).toNat)
  case atStart => exact ⟨0, Nat.zero_le _, rfl, rfl, rfl⟩
  case round =>
    rename World => wo
    obtain ⟨k, hk, rfl, HN, rfl⟩ := hrel
    by_cases hlt : k < set.length
    · have j1 : (k : Int) < (set.length : Int) := by omega
      rcases hset with hnil | ⟨b, o, rfl, hbl, hsc⟩
      · rw [hnil] at hlt; simp at hlt
      have c0 := hsc k hlt
      have htk := any_take_succ (d := (0 : Int)) (f := fun x => x == n) hlt
      have hyes := fun h => any_of_take (d := (0 : Int)) (f := fun x => x == n) hlt h
      generalize set.getD k 0 = z at c0 htk hyes
      have HTK := hide htk
      have HY := hide hyes
      clear hsc htk hyes
      cases hz : (z == n) with
      | true =>
        go_wp2_with fail
        go_ret
        exact ⟨ret_bool (unhide HY hz).symm, rfl⟩
      | false =>
        go_wp2_with fail
        go_roundw
        case rel => exact ⟨k + 1, by omega, by go_num, by show _ = false; rw [unhide HTK, unhide HN, hz]; rfl, by first | rfl | trivial⟩
        case measure => simp [intOf]; omega
    · have j1 : ¬ (k : Int) < (set.length : Int) := by omega
      have hke : k = set.length := by omega
      have h1 := unhide HN
      rw [hke, List.take_length] at h1
      have HE := hide h1
      clear h1
      go_wp2_with fail
      go_ret
      exact ⟨ret_bool (unhide HE).symm, rfl⟩

set_option maxRecDepth 10000 in
set_option maxHeartbeats 2000000 in
theorem l3Take_any (sa : Option Addr) (set : List Int) (sc : Nat) (n : Int) (w : World) (hs : SetAt w sa set) :
    Calls Try.prog 32 #[.slice sa set.length sc, .int .i64 n] w fun e w' => (∃ v, e = .returned v ∧ RowI w.heap.size w' v (set.filter (· != n))) ∧ Below w.heap.size w w' := by
  obtain ⟨hsl, hset⟩ := hs
  obtain ⟨i0, hi, hz0, hz1, hz2⟩ := info_parts Try.infoInt'
  go_enter Try.func32, Try.ntmps32
  go_wp2_with fail
  go_loopw [5, 6] (fun v i wr => ∃ k : Nat, k ≤ set.length ∧ i = .int .i64 k ∧ Hid (RowI w.heap.size wr v ((set.take k).filter (· != n))) ∧ Hid (Below w.heap.size w wr)) (fun _ i _ => set.length - (intOf i).toNat)
  case atStart => exact ⟨0, Nat.zero_le _, rfl, RowI.nil w, (Below.refl _ _).alloc (Nat.le_refl _) _⟩
  case round =>
    rename World => wo
    obtain ⟨k, hk, rfl, HO, HB⟩ := hrel
    by_cases hlt : k < set.length
    · have j1 : (k : Int) < (set.length : Int) := by omega
      rcases hset with hnil | ⟨b, o, rfl, hbl, hsc⟩
      · rw [hnil] at hlt; simp at hlt
      have c0 := hsc k hlt
      have htk : (set.take (k + 1)).filter (· != n) = (set.take k).filter (· != n) ++ (if set.getD k 0 != n then [set.getD k 0] else []) := by
        rw [List.take_succ_eq_append_getElem hlt, List.filter_append]
        have : set.getD k 0 = set[k] := by simp [List.getD, hlt]
        rw [this]
        congr 1
        by_cases h : (set[k] != n) = true
        · simp [h]
        · simp at h; simp [h]
      have hle : ((set.take k).filter (· != n)).length ≤ set.length := by
        have h1 := List.length_filter_le (· != n) (set.take k)
        have h2 : (set.take k).length ≤ set.length := by simp; omega
        omega
      have hzb := (unhide HB).size
      rw [← (unhide HB).cell (p := ⟨b, _, none⟩) hbl] at c0
      generalize set.getD k 0 = z at c0 htk
      generalize hF : (set.take k).filter (· != n) = F at HO htk hle
      have HTK := hide htk
      have hbw : b < wo.heap.size := by omega
      clear hsc htk hF
      cases hzn : (z != n) with
      | false =>
        have HE := hide (show (set.take (k + 1)).filter (· != n) = F by rw [unhide HTK, hzn]; simp)
        go_wp2_with fail
        go_roundw
        case rel => exact ⟨k + 1, by omega, by go_num, by rw [unhide HE]; exact HO, HB⟩
        case measure => simp [intOf]; omega
      | true =>
        have HE := hide (show (set.take (k + 1)).filter (· != n) = F ++ [z] by rw [unhide HTK, hzn]; simp)
        have hown := unhide HO
        go_wp2_with (first
          | (at_builtin; refine wpList_append_own _ rfl _ _ 26 rfl w.heap.size 3 i0 (.int .i64 0) 1 8 Try.underlying26 hi hz0 hz1 hz2 rfl (by decide) _ _ _ rfl (hown.alloc _) ⟨wo.heap.size, 0, none⟩ 1 1 [.int .i64 z] rfl rfl ?c1 ?c2 ?c3 ?c4 ?c5 ?_))
        case c1 =>
          intro j u hj
          match j, hj with
          | 0, hj => simp at hj; subst hj; simp [Addr.add]
        case c2 => intro u hu; simp at hu; subst hu; rfl
        case c3 => unfold maxLen; omega
        case c4 => omega
        case c5 => simp; omega
        intro v' w3 hown' hgrow _
        have hb1 := ((unhide HB).alloc (by omega) (.cells #[.int .i64 z] 3)).grown hgrow (by simp; omega) (fun j hj => (World.ownsRow.lt hown j hj).1)
        have HO3 : Hid (RowI w.heap.size w3 v' (F ++ [z])) := by
          show RowI _ _ _ _
          unfold RowI
          simpa using hown'
        have HB3 := hide hb1
        clear hown hown' hgrow hb1
        go_wp2_with fail
        go_roundw
        case rel => exact ⟨k + 1, by omega, by go_num, by rw [unhide HE]; exact HO3, HB3⟩
        case measure => simp [intOf]; omega
    · have j1 : ¬ (k : Int) < (set.length : Int) := by omega
      have hke : k = set.length := by omega
      subst hke
      rw [List.take_length] at HO
      go_wp2_with fail
      go_ret
      exact ⟨⟨_, rfl, HO⟩, HB⟩

/-- A state with one more: what is built behind k places, and whether it is in already. -/
def putGo (set : List Int) (n : Int) : Nat → List Int × Bool
  | 0 => ([], false)
  | k + 1 => if (!(putGo set n k).2 && decide (n < set.getD k 0)) then ((putGo set n k).1 ++ [n] ++ [set.getD k 0], true) else ((putGo set n k).1 ++ [set.getD k 0], (putGo set n k).2)
def putZ (set : List Int) (n : Int) : List Int := if (putGo set n set.length).2 then (putGo set n set.length).1 else (putGo set n set.length).1 ++ [n]
theorem putGo_len (set : List Int) (n : Int) : ∀ k, (putGo set n k).1.length ≤ 2 * k
  | 0 => Nat.le_refl _
  | k + 1 => by
    have := putGo_len set n k
    unfold putGo
    split
    · simp; omega
    · simp; omega

set_option maxRecDepth 10000 in
set_option maxHeartbeats 4000000 in
theorem l3Put_any (sa : Option Addr) (set : List Int) (sc : Nat) (n : Int) (w : World) (hs : SetAt w sa set) :
    Calls Try.prog 33 #[.slice sa set.length sc, .int .i64 n] w fun e w' => (∃ v, e = .returned v ∧ RowI w.heap.size w' v (putZ set n)) ∧ Below w.heap.size w w' := by
  obtain ⟨hsl, hset⟩ := hs
  obtain ⟨i0, hi, hz0, hz1, hz2⟩ := info_parts Try.infoInt'
  go_enter Try.func33, Try.ntmps33
  go_wp2_with fail
  go_loopw [5, 6, 7] (fun v d i wr => ∃ k : Nat, k ≤ set.length ∧ i = .int .i64 k ∧ d = .bool (putGo set n k).2 ∧ Hid (RowI w.heap.size wr v (putGo set n k).1) ∧ Hid (Below w.heap.size w wr)) (fun _ _ i _ => set.length - (intOf i).toNat)
  case atStart => exact ⟨0, Nat.zero_le _, rfl, rfl, RowI.nil w, (Below.refl _ _).alloc (Nat.le_refl _) _⟩
  case round =>
    rename World => wo
    obtain ⟨k, hk, rfl, rfl, HO, HB⟩ := hrel
    have hlen := putGo_len set n k
    have hzb := (unhide HB).size
    by_cases hlt : k < set.length
    · have j1 : (k : Int) < (set.length : Int) := by omega
      rcases hset with hnil | ⟨b, o, rfl, hbl, hsc⟩
      · rw [hnil] at hlt; simp at hlt
      have c0 := hsc k hlt
      rw [← (unhide HB).cell (p := ⟨b, _, none⟩) hbl] at c0
      have hst : putGo set n (k + 1) = if (!(putGo set n k).2 && decide (n < set.getD k 0)) then ((putGo set n k).1 ++ [n] ++ [set.getD k 0], true) else ((putGo set n k).1 ++ [set.getD k 0], (putGo set n k).2) := rfl
      generalize set.getD k 0 = z at c0 hst
      generalize (putGo set n k).2 = dn at hst ⊢
      generalize (putGo set n k).1 = F at hst HO hlen
      have HST := hide hst
      have hbw : b < wo.heap.size := by omega
      clear hsc hst
      by_cases hput : (!dn && decide (n < z)) = true
      · have hd : dn = false := by cases dn <;> simp_all
        subst hd
        have hnz : n < z := by simpa using hput
        have HE := hide (show putGo set n (k + 1) = (F ++ [n] ++ [z], true) by rw [unhide HST]; simp [hnz])
        have hown := unhide HO
        clear hput HST
        go_wp2_with (first
          | (at_builtin; refine wpList_append_own _ rfl _ _ 26 rfl w.heap.size 3 i0 (.int .i64 0) 1 8 Try.underlying26 hi hz0 hz1 hz2 rfl (by decide) _ _ _ rfl (hown.alloc _) ⟨wo.heap.size, 0, none⟩ 1 1 [.int .i64 n] rfl rfl ?c1 ?c2 ?c3 ?c4 ?c5 ?_))
        case c1 =>
          intro j u hj
          match j, hj with
          | 0, hj => simp at hj; subst hj; simp [Addr.add]
        case c2 => intro u hu; simp at hu; subst hu; rfl
        case c3 => unfold maxLen; omega
        case c4 => omega
        case c5 => simp; omega
        intro v' w3 hown' hgrow _
        have hb1 := ((unhide HB).alloc (by omega) (.cells #[.int .i64 n] 3)).grown hgrow (by simp; omega) (fun j hj => (World.ownsRow.lt hown j hj).1)
        have hown3 : RowI w.heap.size w3 v' (F ++ [n]) := by
          unfold RowI
          simpa using hown'
        have c3 := (unhide HB)
        have hz3 := hb1.size
        have c1 : w3.cell? ⟨b, o + k, none⟩ = some (.int .i64 z) := by
          rw [hb1.cell (p := ⟨b, o + k, none⟩) hbl, ← (unhide HB).cell (p := ⟨b, o + k, none⟩) hbl]
          exact c0
        have HB3 := hide hb1
        have hown4 := hown3
        clear hown hown' hgrow hb1 c3 c0
        have hbw3 : b < w3.heap.size := by omega
        go_wp2_with (first
          | (at_builtin; refine wpList_append_own _ rfl _ _ 26 rfl w.heap.size 3 i0 (.int .i64 0) 1 8 Try.underlying26 hi hz0 hz1 hz2 rfl (by decide) _ _ _ rfl (hown4.alloc _) ⟨w3.heap.size, 0, none⟩ 1 1 [.int .i64 z] rfl rfl ?d1 ?d2 ?d3 ?d4 ?d5 ?_))
        case d1 =>
          intro j u hj
          match j, hj with
          | 0, hj => simp at hj; subst hj; simp [Addr.add]
        case d2 => intro u hu; simp at hu; subst hu; rfl
        case d3 => unfold maxLen; simp; omega
        case d4 => simp; omega
        case d5 => simp; omega
        intro v2 w4 hown5 hgrow _
        have hb1 := ((unhide HB3).alloc (by omega) (.cells #[.int .i64 z] 3)).grown hgrow (by simp; omega) (fun j hj => (World.ownsRow.lt hown4 j hj).1)
        have HO4 : Hid (RowI w.heap.size w4 v2 (F ++ [n] ++ [z])) := by
          show RowI _ _ _ _
          unfold RowI
          simpa using hown5
        have HB4 := hide hb1
        clear hown3 hown4 hown5 hgrow hb1
        go_wp2_with fail
        go_roundw
        case rel => exact ⟨k + 1, by omega, by go_num, by rw [unhide HE], by rw [unhide HE]; exact HO4, HB4⟩
        case measure => simp [intOf]; omega
      · have HE := hide (show putGo set n (k + 1) = (F ++ [z], dn) by rw [unhide HST, if_neg hput])
        have hown := unhide HO
        have hbw3 := hbw
        clear HST
        cases dn with
        | true =>
          clear hput
          go_wp2_with (first
            | (at_builtin; refine wpList_append_own _ rfl _ _ 26 rfl w.heap.size 3 i0 (.int .i64 0) 1 8 Try.underlying26 hi hz0 hz1 hz2 rfl (by decide) _ _ _ rfl (hown.alloc _) ⟨wo.heap.size, 0, none⟩ 1 1 [.int .i64 z] rfl rfl ?e1 ?e2 ?e3 ?e4 ?e5 ?_))
          case e1 =>
            intro j u hj
            match j, hj with
            | 0, hj => simp at hj; subst hj; simp [Addr.add]
          case e2 => intro u hu; simp at hu; subst hu; rfl
          case e3 => unfold maxLen; omega
          case e4 => omega
          case e5 => simp; omega
          intro v' w3 hown' hgrow _
          have hb1 := ((unhide HB).alloc (by omega) (.cells #[.int .i64 z] 3)).grown hgrow (by simp; omega) (fun j hj => (World.ownsRow.lt hown j hj).1)
          have HO4 : Hid (RowI w.heap.size w3 v' (F ++ [z])) := by
            show RowI _ _ _ _
            unfold RowI
            simpa using hown'
          have HB4 := hide hb1
          clear hown hown' hgrow hb1
          go_wp2_with fail
          go_roundw
          case rel => exact ⟨k + 1, by omega, by go_num, by rw [unhide HE], by rw [unhide HE]; exact HO4, HB4⟩
          case measure => simp [intOf]; omega
        | false =>
          have hnz : ¬ n < z := by simpa using hput
          clear hput
          go_wp2_with (first
            | (at_builtin; refine wpList_append_own _ rfl _ _ 26 rfl w.heap.size 3 i0 (.int .i64 0) 1 8 Try.underlying26 hi hz0 hz1 hz2 rfl (by decide) _ _ _ rfl (hown.alloc _) ⟨wo.heap.size, 0, none⟩ 1 1 [.int .i64 z] rfl rfl ?f1 ?f2 ?f3 ?f4 ?f5 ?_))
          case f2 => first | rfl | (intro u hu; simp at hu; subst hu; rfl)
          case f3 => unfold maxLen; omega
          case f4 => omega
          case f5 => first | omega | (simp; omega)
          intro v' w3 hown' hgrow _
          have hb1 := ((unhide HB).alloc (by omega) (.cells #[.int .i64 z] 3)).grown hgrow (by simp; omega) (fun j hj => (World.ownsRow.lt hown j hj).1)
          have HO4 : Hid (RowI w.heap.size w3 v' (F ++ [z])) := by
            show RowI _ _ _ _
            unfold RowI
            simpa using hown'
          have HB4 := hide hb1
          clear hown hown' hgrow hb1
          go_wp2_with fail
          go_roundw
          case rel => exact ⟨k + 1, by omega, by go_num, by rw [unhide HE], by rw [unhide HE]; exact HO4, HB4⟩
          case measure => simp [intOf]; omega
    · have j1 : ¬ (k : Int) < (set.length : Int) := by omega
      have hke : k = set.length := by omega
      subst hke
      have hpz : putZ set n = if (putGo set n set.length).2 then (putGo set n set.length).1 else (putGo set n set.length).1 ++ [n] := rfl
      generalize (putGo set n set.length).2 = dn at hpz ⊢
      generalize (putGo set n set.length).1 = F at hpz HO hlen
      have HPZ := hide hpz
      clear hpz
      cases dn with
      | true =>
        go_wp2_with fail
        go_ret
        exact ⟨⟨_, rfl, by rw [unhide HPZ]; exact unhide HO⟩, unhide HB⟩
      | false =>
        have hown := unhide HO
        go_wp2_with (first
          | (at_builtin; refine wpList_append_own _ rfl _ _ 26 rfl w.heap.size 3 i0 (.int .i64 0) 1 8 Try.underlying26 hi hz0 hz1 hz2 rfl (by decide) _ _ _ rfl (hown.alloc _) ⟨wo.heap.size, 0, none⟩ 1 1 [.int .i64 n] rfl rfl ?g1 ?g2 ?g3 ?g4 ?g5 ?_))
        case g2 => first | rfl | (intro u hu; simp at hu; subst hu; rfl)
        case g3 => unfold maxLen; omega
        case g4 => omega
        case g5 => first | omega | (simp; omega)
        intro v' w3 hown' hgrow _
        have hb1 := ((unhide HB).alloc (by omega) (.cells #[.int .i64 n] 3)).grown hgrow (by simp; omega) (fun j hj => (World.ownsRow.lt hown j hj).1)
        have HO4 : Hid (RowI w.heap.size w3 v' (F ++ [n])) := by
          show RowI _ _ _ _
          unfold RowI
          simpa using hown'
        have HB4 := hide hb1
        clear hown hown' hgrow hb1
        go_wp2_with fail
        go_ret
        exact ⟨⟨_, rfl, by rw [unhide HPZ]; exact unhide HO4⟩, unhide HB4⟩
theorem putZ_len (set : List Int) (n : Int) : (putZ set n).length ≤ 2 * set.length + 1 := by
  have := putGo_len set n set.length
  unfold putZ
  split
  · omega
  · simp; omega
end Go.Proofs.Ytnegiggafgfmkac

namespace Go.Proofs.Ytnegiggafgfmkac
set_option linter.unusedVariables false
set_option linter.unusedSimpArgs false
set_option maxRecDepth 10000
open Go.RowKit Go.Deep

set_option maxHeartbeats 8000000 in
theorem DrawStateOk_V (a : Option Addr) (n c : Nat) (w : World) (h : CodeAt w.heap.size w a n) (hn : n ≤ 1048576) (hc : n ≤ c) (hc2 : c ≤ maxLen) :
    Calls Try.prog 9 #[.slice a n c] w fun e w' => (∃ (v : Value) (room : Int) (u : Value), e = .returned (.tuple #[.agg #[v, .int .i64 room], u]) ∧ V2 w.heap.size w' 60000 v ∧ ∃ set, RowI 0 w' u set ∧ set.length ≤ 200002) ∧ Below w.heap.size w w' := by
  have b0 := (Below.refl w.heap.size w).alloc (Nat.le_refl _) (.cells #[.slice none 0 0, .int .i64 0] 25)
  have hcode := h.below b0 (Nat.le_refl _)
  have HF0 := hide (show (w.alloc (.cells #[.slice none 0 0, .int .i64 0] 25)).heap[w.heap.size]? = some (repoCells (.slice none 0 0) 0) from blk_alloc_new _ _)
  go_enter Try.func9, Try.ntmps9
  go_wp2_with fail
  refine (l6Open_any a n c _ hcode hn hc hc2).mono ?_
  rintro e w1 ⟨rfl, R1, b1⟩
  simp only [nblk_alloc] at R1 b1
  have hz1 := b1.size
  simp at hz1
  have res1 := (b1.block w.heap.size (by omega)).trans (unhide HF0)
  have B1 : Below w.heap.size w w1 := b0.trans (b1.mono (by omega))
  have hrl := R1.lt
  clear b0 b1 hcode HF0
  go_wp2_with fail
  refine (l71Any_V (w.heap.size + 1) (w.heap.size + 1) 0 6 _ R1 (by omega) (by omega)).mono ?_
  rintro e w2 ⟨⟨v, room, rfl, hV⟩, R2, W2⟩
  obtain ⟨va, vn, vc, rfl, _, hvN, _⟩ := SlBy.slice hV
  have hz2 := W2.size
  have res2 := W2.blk res1 repoNotRd
  have B2 := B1.trans (W2.bel (B' := w.heap.size) (by omega) (by omega))
  have bp := (Below.refl w2.heap.size w2).alloc (Nat.le_refl _) (.cells #[.slice va vn vc, .int .i64 room] 25)
  have pv2 : (w2.alloc (.cells #[.slice va vn vc, .int .i64 room] 25)).heap[w2.heap.size]? = some (repoCells (.slice va vn vc) room) := blk_alloc_new _ _
  have res3 := (bp.block w.heap.size (by omega)).trans res2
  have R3 := R2.below bp
  have V3 := V2.ev hV (Ev.of_below (B := 0) (s := w1.heap.size) (N := 60000) bp)
  have B3 := B2.trans (bp.mono (by omega))
  obtain ⟨l, hll, hP3⟩ := V2.packs V3
  subst hll
  have HR3 := hide R3
  have HV3 := hide V3
  have HB3 := hide B3
  have HRS3 := hide res3
  have HPV3 := hide pv2
  have HP3 := hide hP3
  have hz3 : w2.heap.size < (w2.alloc (.cells #[.slice va l.length vc, .int .i64 room] 25)).heap.size := by simp
  clear R1 W2 res1 B1 hV R2 res2 B2 bp pv2 res3 R3 V3 B3 hP3
  go_wp2_with fail
  generalize hw3 : w2.alloc (.cells #[.slice va l.length vc, .int .i64 room] 25) = w3 at HR3 HV3 HB3 HRS3 HPV3 HP3 hz3 ⊢
  clear hw3
  refine (l71Set_V (w.heap.size + 1) (w.heap.size + 1) _ va l vc room w3 (unhide HR3) (by omega) (unhide HP3) (by omega)).mono ?_
  rintro e w4 ⟨⟨u, rfl, set, hrow, hsl⟩, R4, W4⟩
  have hz4 := W4.size
  have HV4 := hide (V2.ev (unhide HV3) (Ev.of_wrote (s := w1.heap.size) (N := 60000) W4))
  have HRS4 := hide (W4.blk (unhide HRS3) repoNotRd)
  have HPV4 := hide (W4.blk (unhide HPV3) repoNotRd)
  have HB4 := hide ((unhide HB3).trans (W4.bel (B' := w.heap.size) (by omega) (by have := (unhide HB3).size; omega)))
  have HRW4 := hide hrow
  have HR4 := hide R4
  obtain ⟨sa, sc, hu, _⟩ := RowI.set hrow (by omega)
  subst hu
  clear hrow R4 W4 HR3 HV3 HB3 HRS3 HPV3 HP3
  have hwz := (unhide HB4).size
  by_cases hemp : l.length = 0
  · have hg0 : ¬ (0 : Int) < (l.length : Int) := by omega
    clear hemp
    obtain ⟨p0, p1, _⟩ := two (unhide HPV4)
    obtain ⟨r0, r1, rf⟩ := two (unhide HRS4)
    have rf0 := rf 0
    have rf1 := rf 1
    have HFO := hide (fin_own (room := room) (unhide HRS4) (unhide HV4) (unhide HB4) (Nat.le_refl _))
    have HRO := hide (RowI.repo (unhide HRW4) (unhide HRS4) (.slice va l.length vc) (.int .i64 room))
    clear rf
    go_wp2_with fail
    obtain ⟨f1, f2, f3, f4⟩ := unhide HFO
    exact bodyPost_ret (v := .tuple #[.agg #[.slice va l.length vc, .int .i64 room], .slice sa set.length sc]) (by simp [results, Try.results9, go_sem, f3, f4]) rfl ⟨⟨_, _, _, rfl, V2.down f1 (by omega), set, unhide HRO, by omega⟩, f2⟩
  · have hg0 : (0 : Int) < (l.length : Int) := by omega
    have hgn : 0 < l.length := by omega
    clear hemp
    obtain ⟨p0, p1, _⟩ := two (unhide HPV4)
    go_wp2_with fail
    refine (pick_any (w.heap.size + 1) (w.heap.size + 1) _ 2 _ (unhide HR4) (by omega) (by omega) (by omega)).mono ?_
    rintro e w5 ⟨⟨r, rfl, hr0, hr1⟩, R5, W5⟩
    have hz5 := W5.size
    have HV5 := hide (V2.ev (unhide HV4) (Ev.of_wrote (s := w1.heap.size) (N := 60000) W5))
    have HRS5 := hide (W5.blk (unhide HRS4) repoNotRd)
    have HPV5 := hide (W5.blk (unhide HPV4) repoNotRd)
    have HB5 := hide ((unhide HB4).trans (W5.bel (B' := w.heap.size) (by omega) (by have := (unhide HB4).size; omega)))
    have HRW5 := hide (RowI.wrote (unhide HRW4) W5)
    have HR5 := hide R5
    clear HV4 HRS4 HPV4 HB4 HRW4 HR4 R5 W5 p0 p1
    by_cases hr : r = 0
    · subst hr
      obtain ⟨p0, p1, _⟩ := two (unhide HPV5)
      go_wp2_with fail
      refine (pick_any (w.heap.size + 1) (w.heap.size + 1) _ (l.length : Int) _ (unhide HR5) (by omega) (by omega) (by omega)).mono ?_
      rintro e w6 ⟨⟨q, rfl, hq0, hq1⟩, R6, W6⟩
      obtain ⟨qn, rfl⟩ : ∃ qn : Nat, q = (qn : Int) := ⟨q.toNat, by omega⟩
      have hz6 := W6.size
      have HV6 := hide (V2.ev (unhide HV5) (Ev.of_wrote (s := w1.heap.size) (N := 60000) W6))
      have HRS6 := hide (W6.blk (unhide HRS5) repoNotRd)
      have HPV6 := hide (W6.blk (unhide HPV5) repoNotRd)
      have HB6 := hide ((unhide HB5).trans (W6.bel (B' := w.heap.size) (by omega) (by have := (unhide HB5).size; omega)))
      have HRW6 := hide (RowI.wrote (unhide HRW5) W6)
      clear HV5 HRS5 HPV5 HB5 HRW5 HR5 R6 W6 p0 p1
      have HHS := hide (show SetAt w6 sa set from by
        obtain ⟨a', c', e', hs'⟩ := RowI.set (unhide HRW6) (by omega)
        simp at e'
        obtain ⟨rfl, _⟩ := e'
        exact hs')
      go_wp2_with fail
      refine (l3Has_any sa set sc (qn : Int) w6 (unhide HHS)).mono ?_
      rintro e w6' ⟨rfl, hww⟩
      obtain rfl := hww.symm
      cases hhas : set.any (· == (qn : Int)) with
      | true =>
        obtain ⟨p0, p1, _⟩ := two (unhide HPV6)
        obtain ⟨_, _, _, hsa⟩ := RowI.set (unhide HRW6) (by omega)
        have hset6 : SetAt w6 sa set := by
          obtain ⟨a', c', e', hs'⟩ := RowI.set (unhide HRW6) (by omega)
          simp at e'
          obtain ⟨rfl, _⟩ := e'
          exact hs'
        have HS6 := hide hset6
        have HPP := hide (And.intro p0 p1)
        have hpw : w2.heap.size < w6.heap.size := by omega
        clear hset6 hsa p0 p1
        obtain ⟨p0, p1⟩ := unhide HPP
        go_upto_region 7 with fail
        refine wp_region_mix (k := 100) 4 [3] [.agg #[.slice va l.length vc, .int .i64 room], .slice sa set.length sc, .int .i64 (qn : Int), undef] (CA w6) (by kernel_rfl) (by kernel_rfl) (by kernel_rfl) (by kernel_rfl) (by kernel_rfl) (by kernel_rfl) ⟨(Below.refl _ _).drew, (fun y h => by cases h)⟩ ?_ ?_ ?_
        · intro full hfull i oo hi hns ho x fl us hC hb
          simp [putAll, slotOf, Act.put] at hfull
          subst hfull
          have hq := hC.below
          rw [← hq.cell (p := ⟨w2.heap.size, _, none⟩) hpw] at p0 p1
          have hC0 := hC.on (b' := fl) (Below.refl _ _)
          match i with
          | 0 => simp at ho; subst ho; simp [gwp, Region.wanted, yielded]; go_simp; first | done | exact hC0 | exact ⟨rfl, hC0⟩
          | 1 => simp at ho; subst ho; simp [gwp, Region.wanted, yielded]; go_simp; first | done | exact hC0 | exact ⟨rfl, hC0⟩
          | 2 => simp at ho; subst ho; simp [gwp, Region.wanted, yielded]; go_simp; first | done | exact hC0 | exact ⟨rfl, hC0⟩
          | 3 => simp at hns
          | i + 4 => omega
        · intro full hfull us j hj oo ho x fl hC
          simp [putAll, slotOf, Act.put] at hfull
          subst hfull
          match us with
          | [] =>
            simp at hj
            subst hj
            simp at ho
            subst ho
            simp [gwp, Region.wanted, yielded, putP]
            go_simp
            refine (l3Take_any sa set sc (qn : Int) x ((unhide HS6).on hC.below)).mono ?_
            rintro e w' ⟨⟨y, rfl, hrow⟩, hb2⟩
            go_simp
            have hC2 := hC.on (b' := fl) hb2
            refine ⟨hC2.below, fun z hz => ?_⟩
            cases hz
            exact ⟨set.filter (· != (qn : Int)), row_base hrow (Nat.zero_le _), (by have := List.length_filter_le (· != (qn : Int)) set; omega)⟩
          | _ :: _ => simp at hj
        · intro full hfull us x hus hC
          simp [putAll, slotOf, Act.put] at hfull
          subst hfull
          match us, hus with
          | [yv], _ =>
          obtain ⟨s2, hrow2, hlen2⟩ := hC.row yv rfl
          have bx := hC.below
          obtain ⟨ya, yc, hy, _⟩ := RowI.set hrow2 (by omega)
          subst hy
          have res7 := (bx.block w.heap.size (by omega)).trans (unhide HRS6)
          have V7 := V2.ev (unhide HV6) (Ev.of_below (B := 0) (s := w1.heap.size) (N := 60000) bx)
          have B7 := (unhide HB6).trans (bx.mono (unhide HB6).size)
          obtain ⟨r0, r1, rf⟩ := two res7
          have rf0 := rf 0
          have rf1 := rf 1
          have HFO := hide (fin_own (room := room) res7 V7 B7 (Nat.le_refl _))
          have HRO := hide (RowI.repo hrow2 res7 (.slice va l.length vc) (.int .i64 room))
          clear rf hC bx res7 V7 B7 hrow2
          simp [putP, slotOf, Act.put]
          go_wp2_with fail
          obtain ⟨f1, f2, f3, f4⟩ := unhide HFO
          exact bodyPost_ret (v := .tuple #[.agg #[.slice va l.length vc, .int .i64 room], .slice ya s2.length yc]) (by simp [results, Try.results9, go_sem, f3, f4]) rfl ⟨⟨_, _, _, rfl, V2.down f1 (by omega), s2, unhide HRO, by omega⟩, f2⟩
      | false =>
        obtain ⟨p0, p1, _⟩ := two (unhide HPV6)
        obtain ⟨_, _, _, hsa⟩ := RowI.set (unhide HRW6) (by omega)
        have hset6 : SetAt w6 sa set := by
          obtain ⟨a', c', e', hs'⟩ := RowI.set (unhide HRW6) (by omega)
          simp at e'
          obtain ⟨rfl, _⟩ := e'
          exact hs'
        have HS6 := hide hset6
        have HPP := hide (And.intro p0 p1)
        have hpw : w2.heap.size < w6.heap.size := by omega
        clear hset6 hsa p0 p1
        obtain ⟨p0, p1⟩ := unhide HPP
        go_upto_region 8 with fail
        refine wp_region_mix (k := 100) 4 [3] [.agg #[.slice va l.length vc, .int .i64 room], .slice sa set.length sc, .int .i64 (qn : Int), undef] (CA w6) (by kernel_rfl) (by kernel_rfl) (by kernel_rfl) (by kernel_rfl) (by kernel_rfl) (by kernel_rfl) ⟨(Below.refl _ _).drew, (fun y h => by cases h)⟩ ?_ ?_ ?_
        · intro full hfull i oo hi hns ho x fl us hC hb
          simp [putAll, slotOf, Act.put] at hfull
          subst hfull
          have hq := hC.below
          rw [← hq.cell (p := ⟨w2.heap.size, _, none⟩) hpw] at p0 p1
          have hC0 := hC.on (b' := fl) (Below.refl _ _)
          match i with
          | 0 => simp at ho; subst ho; simp [gwp, Region.wanted, yielded]; go_simp; first | done | exact hC0 | exact ⟨rfl, hC0⟩
          | 1 => simp at ho; subst ho; simp [gwp, Region.wanted, yielded]; go_simp; first | done | exact hC0 | exact ⟨rfl, hC0⟩
          | 2 => simp at ho; subst ho; simp [gwp, Region.wanted, yielded]; go_simp; first | done | exact hC0 | exact ⟨rfl, hC0⟩
          | 3 => simp at hns
          | i + 4 => omega
        · intro full hfull us j hj oo ho x fl hC
          simp [putAll, slotOf, Act.put] at hfull
          subst hfull
          match us with
          | [] =>
            simp at hj
            subst hj
            simp at ho
            subst ho
            simp [gwp, Region.wanted, yielded, putP]
            go_simp
            refine (l3Put_any sa set sc (qn : Int) x ((unhide HS6).on hC.below)).mono ?_
            rintro e w' ⟨⟨y, rfl, hrow⟩, hb2⟩
            go_simp
            have hC2 := hC.on (b' := fl) hb2
            refine ⟨hC2.below, fun z hz => ?_⟩
            cases hz
            exact ⟨putZ set (qn : Int), row_base hrow (Nat.zero_le _), (by have := putZ_len set (qn : Int); omega)⟩
          | _ :: _ => simp at hj
        · intro full hfull us x hus hC
          simp [putAll, slotOf, Act.put] at hfull
          subst hfull
          match us, hus with
          | [yv], _ =>
          obtain ⟨s2, hrow2, hlen2⟩ := hC.row yv rfl
          have bx := hC.below
          obtain ⟨ya, yc, hy, _⟩ := RowI.set hrow2 (by omega)
          subst hy
          have res7 := (bx.block w.heap.size (by omega)).trans (unhide HRS6)
          have V7 := V2.ev (unhide HV6) (Ev.of_below (B := 0) (s := w1.heap.size) (N := 60000) bx)
          have B7 := (unhide HB6).trans (bx.mono (unhide HB6).size)
          obtain ⟨r0, r1, rf⟩ := two res7
          have rf0 := rf 0
          have rf1 := rf 1
          have HFO := hide (fin_own (room := room) res7 V7 B7 (Nat.le_refl _))
          have HRO := hide (RowI.repo hrow2 res7 (.slice va l.length vc) (.int .i64 room))
          clear rf hC bx res7 V7 B7 hrow2
          simp [putP, slotOf, Act.put]
          go_wp2_with fail
          obtain ⟨f1, f2, f3, f4⟩ := unhide HFO
          exact bodyPost_ret (v := .tuple #[.agg #[.slice va l.length vc, .int .i64 room], .slice ya s2.length yc]) (by simp [results, Try.results9, go_sem, f3, f4]) rfl ⟨⟨_, _, _, rfl, V2.down f1 (by omega), s2, unhide HRO, by omega⟩, f2⟩
    · have hrb : (r == 0) = false := by simp [hr]
      obtain ⟨p0, p1, _⟩ := two (unhide HPV5)
      obtain ⟨r0, r1, rf⟩ := two (unhide HRS5)
      have rf0 := rf 0
      have rf1 := rf 1
      have HFO := hide (fin_own (room := room) (unhide HRS5) (unhide HV5) (unhide HB5) (Nat.le_refl _))
      have HRO := hide (RowI.repo (unhide HRW5) (unhide HRS5) (.slice va l.length vc) (.int .i64 room))
      clear rf
      go_wp2_with fail
      obtain ⟨f1, f2, f3, f4⟩ := unhide HFO
      exact bodyPost_ret (v := .tuple #[.agg #[.slice va l.length vc, .int .i64 room], .slice sa set.length sc]) (by simp [results, Try.results9, go_sem, f3, f4]) rfl ⟨⟨_, _, _, rfl, V2.down f1 (by omega), set, unhide HRO, by omega⟩, f2⟩
end Go.Proofs.Ytnegiggafgfmkac
