/- The specification's states with one more, one less, and whether one is there. -/
import Derived.Test.YthkhaemlcmkkjaxGreatGStL
namespace Go.Proofs.YthkhaemlcmkkjaxGreat
set_option linter.unusedVariables false
set_option linter.unusedSimpArgs false
open Go.RowKit Go.Deep

set_option maxHeartbeats 1000000 in
theorem l3Has_any (sa : Option Addr) (set : List Int) (sc : Nat) (n : Int) (w : World) (hs : SetAt w sa set) :
    Calls Tryz.prog 34 #[.slice sa set.length sc, .int .i64 n] w fun e w' => e = .returned (.bool (set.any (· == n))) ∧ w' = w := by
  obtain ⟨hsl, hset⟩ := hs
  go_enter Tryz.func34, Tryz.ntmps34
  go_wp2_with fail
  go_loopw [5] (fun i wr => ∃ k : Nat, k ≤ set.length ∧ i = .int .i64 k ∧ Hid ((set.take k).any (· == n) = false) ∧ wr = w) (fun i _ => set.length - (intOf i).toNat)
  case atStart => exact ⟨0, Nat.zero_le _, rfl, rfl, rfl⟩
  case round =>
    rename World => wo
    obtain ⟨k, hk, rfl, HN, rfl⟩ := hrel
    by_cases hlt : k < set.length
    · have j1 : (k : Int) < (set.length : Int) := by omega
      rcases hset with hnil | ⟨b, o, rfl, hbl, hsc⟩
      · rw [hnil] at hlt; simp at hlt
      have c0 := hsc k hlt
      have htk := any_take_succ (d := (0 : Int)) (f := fun x => x == n) hlt
      have hyes := fun h => any_of_take (d := (0 : Int)) (f := fun x => x == n) hlt h
      generalize set.getD k 0 = z at c0 htk hyes
      have HTK := hide htk
      have HY := hide hyes
      clear hsc htk hyes
      cases hz : (z == n) with
      | true =>
        go_wp2_with fail
        go_ret
        exact ⟨ret_bool (unhide HY hz).symm, rfl⟩
      | false =>
        go_wp2_with fail
        go_roundw
        case rel => exact ⟨k + 1, by omega, by go_num, by show _ = false; rw [unhide HTK, unhide HN, hz]; rfl, by first | rfl | trivial⟩
        case measure => simp [intOf]; omega
    · have j1 : ¬ (k : Int) < (set.length : Int) := by omega
      have hke : k = set.length := by omega
      have h1 := unhide HN
      rw [hke, List.take_length] at h1
      have HE := hide h1
      clear h1
      go_wp2_with fail
      go_ret
      exact ⟨ret_bool (unhide HE).symm, rfl⟩

set_option maxRecDepth 10000 in
set_option maxHeartbeats 2000000 in
theorem l3Take_any (sa : Option Addr) (set : List Int) (sc : Nat) (n : Int) (w : World) (hs : SetAt w sa set) :
    Calls Tryz.prog 35 #[.slice sa set.length sc, .int .i64 n] w fun e w' => (∃ v, e = .returned v ∧ RowI w.heap.size w' v (set.filter (· != n))) ∧ Below w.heap.size w w' := by
  obtain ⟨hsl, hset⟩ := hs
  obtain ⟨i0, hi, hz0, hz1, hz2⟩ := info_parts Tryz.infoInt'
  go_enter Tryz.func35, Tryz.ntmps35
  go_wp2_with fail
  go_loopw [5, 6] (fun v i wr => ∃ k : Nat, k ≤ set.length ∧ i = .int .i64 k ∧ Hid (RowI w.heap.size wr v ((set.take k).filter (· != n))) ∧ Hid (Below w.heap.size w wr)) (fun _ i _ => set.length - (intOf i).toNat)
  case atStart => exact ⟨0, Nat.zero_le _, rfl, RowI.nil w, (Below.refl _ _).alloc (Nat.le_refl _) _⟩
  case round =>
    rename World => wo
    obtain ⟨k, hk, rfl, HO, HB⟩ := hrel
    by_cases hlt : k < set.length
    · have j1 : (k : Int) < (set.length : Int) := by omega
      rcases hset with hnil | ⟨b, o, rfl, hbl, hsc⟩
      · rw [hnil] at hlt; simp at hlt
      have c0 := hsc k hlt
      have htk : (set.take (k + 1)).filter (· != n) = (set.take k).filter (· != n) ++ (if set.getD k 0 != n then [set.getD k 0] else []) := by
        rw [List.take_succ_eq_append_getElem hlt, List.filter_append]
        have : set.getD k 0 = set[k] := by simp [List.getD, hlt]
        rw [this]
        congr 1
        by_cases h : (set[k] != n) = true
        · simp [h]
        · simp at h; simp [h]
      have hle : ((set.take k).filter (· != n)).length ≤ set.length := by
        have h1 := List.length_filter_le (· != n) (set.take k)
        have h2 : (set.take k).length ≤ set.length := by simp; omega
        omega
      have hzb := (unhide HB).size
      rw [← (unhide HB).cell (p := ⟨b, _, none⟩) hbl] at c0
      generalize set.getD k 0 = z at c0 htk
      generalize hF : (set.take k).filter (· != n) = F at HO htk hle
      have HTK := hide htk
      have hbw : b < wo.heap.size := by omega
      clear hsc htk hF
      cases hzn : (z != n) with
      | false =>
        have HE := hide (show (set.take (k + 1)).filter (· != n) = F by rw [unhide HTK, hzn]; simp)
        go_wp2_with fail
        go_roundw
        case rel => exact ⟨k + 1, by omega, by go_num, by rw [unhide HE]; exact HO, HB⟩
        case measure => simp [intOf]; omega
      | true =>
        have HE := hide (show (set.take (k + 1)).filter (· != n) = F ++ [z] by rw [unhide HTK, hzn]; simp)
        have hown := unhide HO
        go_wp2_with (first
          | (at_builtin; refine wpList_append_own _ rfl _ _ 25 rfl w.heap.size 3 i0 (.int .i64 0) 1 8 Tryz.underlying25 hi hz0 hz1 hz2 rfl (by decide) _ _ _ rfl (hown.alloc _) ⟨wo.heap.size, 0, none⟩ 1 1 [.int .i64 z] rfl rfl ?c1 ?c2 ?c3 ?c4 ?c5 ?_))
        case c1 =>
          intro j u hj
          match j, hj with
          | 0, hj => simp at hj; subst hj; simp [Addr.add]
        case c2 => intro u hu; simp at hu; subst hu; rfl
        case c3 => unfold maxLen; omega
        case c4 => omega
        case c5 => simp; omega
        intro v' w3 hown' hgrow _
        have hb1 := ((unhide HB).alloc (by omega) (.cells #[.int .i64 z] 3)).grown hgrow (by simp; omega) (fun j hj => (World.ownsRow.lt hown j hj).1)
        have HO3 : Hid (RowI w.heap.size w3 v' (F ++ [z])) := by
          show RowI _ _ _ _
          unfold RowI
          simpa using hown'
        have HB3 := hide hb1
        clear hown hown' hgrow hb1
        go_wp2_with fail
        go_roundw
        case rel => exact ⟨k + 1, by omega, by go_num, by rw [unhide HE]; exact HO3, HB3⟩
        case measure => simp [intOf]; omega
    · have j1 : ¬ (k : Int) < (set.length : Int) := by omega
      have hke : k = set.length := by omega
      subst hke
      rw [List.take_length] at HO
      go_wp2_with fail
      go_ret
      exact ⟨⟨_, rfl, HO⟩, HB⟩

/-- A state with one more: what is built behind k places, and whether it is in already. -/
def putGo (set : List Int) (n : Int) : Nat → List Int × Bool
  | 0 => ([], false)
  | k + 1 => if (!(putGo set n k).2 && decide (n < set.getD k 0)) then ((putGo set n k).1 ++ [n] ++ [set.getD k 0], true) else ((putGo set n k).1 ++ [set.getD k 0], (putGo set n k).2)
def putZ (set : List Int) (n : Int) : List Int := if (putGo set n set.length).2 then (putGo set n set.length).1 else (putGo set n set.length).1 ++ [n]
theorem putGo_len (set : List Int) (n : Int) : ∀ k, (putGo set n k).1.length ≤ 2 * k
  | 0 => Nat.le_refl _
  | k + 1 => by
    have := putGo_len set n k
    unfold putGo
    split
    · simp; omega
    · simp; omega

set_option maxRecDepth 10000 in
set_option maxHeartbeats 4000000 in
theorem l3Put_any (sa : Option Addr) (set : List Int) (sc : Nat) (n : Int) (w : World) (hs : SetAt w sa set) :
    Calls Tryz.prog 38 #[.slice sa set.length sc, .int .i64 n] w fun e w' => (∃ v, e = .returned v ∧ RowI w.heap.size w' v (putZ set n)) ∧ Below w.heap.size w w' := by
  obtain ⟨hsl, hset⟩ := hs
  obtain ⟨i0, hi, hz0, hz1, hz2⟩ := info_parts Tryz.infoInt'
  go_enter Tryz.func38, Tryz.ntmps38
  go_wp2_with fail
  go_loopw [5, 6, 7] (fun v d i wr => ∃ k : Nat, k ≤ set.length ∧ i = .int .i64 k ∧ d = .bool (putGo set n k).2 ∧ Hid (RowI w.heap.size wr v (putGo set n k).1) ∧ Hid (Below w.heap.size w wr)) (fun _ _ i _ => set.length - (intOf i).toNat)
  case atStart => exact ⟨0, Nat.zero_le _, rfl, rfl, RowI.nil w, (Below.refl _ _).alloc (Nat.le_refl _) _⟩
  case round =>
    rename World => wo
    obtain ⟨k, hk, rfl, rfl, HO, HB⟩ := hrel
    have hlen := putGo_len set n k
    have hzb := (unhide HB).size
    by_cases hlt : k < set.length
    · have j1 : (k : Int) < (set.length : Int) := by omega
      rcases hset with hnil | ⟨b, o, rfl, hbl, hsc⟩
      · rw [hnil] at hlt; simp at hlt
      have c0 := hsc k hlt
      rw [← (unhide HB).cell (p := ⟨b, _, none⟩) hbl] at c0
      have hst : putGo set n (k + 1) = if (!(putGo set n k).2 && decide (n < set.getD k 0)) then ((putGo set n k).1 ++ [n] ++ [set.getD k 0], true) else ((putGo set n k).1 ++ [set.getD k 0], (putGo set n k).2) := rfl
      generalize set.getD k 0 = z at c0 hst
      generalize (putGo set n k).2 = dn at hst ⊢
      generalize (putGo set n k).1 = F at hst HO hlen
      have HST := hide hst
      have hbw : b < wo.heap.size := by omega
      clear hsc hst
      by_cases hput : (!dn && decide (n < z)) = true
      · have hd : dn = false := by cases dn <;> simp_all
        subst hd
        have hnz : n < z := by simpa using hput
        have HE := hide (show putGo set n (k + 1) = (F ++ [n] ++ [z], true) by rw [unhide HST]; simp [hnz])
        have hown := unhide HO
        clear hput HST
        go_wp2_with (first
          | (at_builtin; refine wpList_append_own _ rfl _ _ 25 rfl w.heap.size 3 i0 (.int .i64 0) 1 8 Tryz.underlying25 hi hz0 hz1 hz2 rfl (by decide) _ _ _ rfl (hown.alloc _) ⟨wo.heap.size, 0, none⟩ 1 1 [.int .i64 n] rfl rfl ?c1 ?c2 ?c3 ?c4 ?c5 ?_))
        case c1 =>
          intro j u hj
          match j, hj with
          | 0, hj => simp at hj; subst hj; simp [Addr.add]
        case c2 => intro u hu; simp at hu; subst hu; rfl
        case c3 => unfold maxLen; omega
        case c4 => omega
        case c5 => simp; omega
        intro v' w3 hown' hgrow _
        have hb1 := ((unhide HB).alloc (by omega) (.cells #[.int .i64 n] 3)).grown hgrow (by simp; omega) (fun j hj => (World.ownsRow.lt hown j hj).1)
        have hown3 : RowI w.heap.size w3 v' (F ++ [n]) := by
          unfold RowI
          simpa using hown'
        have c3 := (unhide HB)
        have hz3 := hb1.size
        have c1 : w3.cell? ⟨b, o + k, none⟩ = some (.int .i64 z) := by
          rw [hb1.cell (p := ⟨b, o + k, none⟩) hbl, ← (unhide HB).cell (p := ⟨b, o + k, none⟩) hbl]
          exact c0
        have HB3 := hide hb1
        have hown4 := hown3
        clear hown hown' hgrow hb1 c3 c0
        have hbw3 : b < w3.heap.size := by omega
        go_wp2_with (first
          | (at_builtin; refine wpList_append_own _ rfl _ _ 25 rfl w.heap.size 3 i0 (.int .i64 0) 1 8 Tryz.underlying25 hi hz0 hz1 hz2 rfl (by decide) _ _ _ rfl (hown4.alloc _) ⟨w3.heap.size, 0, none⟩ 1 1 [.int .i64 z] rfl rfl ?d1 ?d2 ?d3 ?d4 ?d5 ?_))
        case d1 =>
          intro j u hj
          match j, hj with
          | 0, hj => simp at hj; subst hj; simp [Addr.add]
        case d2 => intro u hu; simp at hu; subst hu; rfl
        case d3 => unfold maxLen; simp; omega
        case d4 => simp; omega
        case d5 => simp; omega
        intro v2 w4 hown5 hgrow _
        have hb1 := ((unhide HB3).alloc (by omega) (.cells #[.int .i64 z] 3)).grown hgrow (by simp; omega) (fun j hj => (World.ownsRow.lt hown4 j hj).1)
        have HO4 : Hid (RowI w.heap.size w4 v2 (F ++ [n] ++ [z])) := by
          show RowI _ _ _ _
          unfold RowI
          simpa using hown5
        have HB4 := hide hb1
        clear hown3 hown4 hown5 hgrow hb1
        go_wp2_with fail
        go_roundw
        case rel => exact ⟨k + 1, by omega, by go_num, by rw [unhide HE], by rw [unhide HE]; exact HO4, HB4⟩
        case measure => simp [intOf]; omega
      · have HE := hide (show putGo set n (k + 1) = (F ++ [z], dn) by rw [unhide HST, if_neg hput])
        have hown := unhide HO
        have hbw3 := hbw
        clear HST
        cases dn with
        | true =>
          clear hput
          go_wp2_with (first
            | (at_builtin; refine wpList_append_own _ rfl _ _ 25 rfl w.heap.size 3 i0 (.int .i64 0) 1 8 Tryz.underlying25 hi hz0 hz1 hz2 rfl (by decide) _ _ _ rfl (hown.alloc _) ⟨wo.heap.size, 0, none⟩ 1 1 [.int .i64 z] rfl rfl ?e1 ?e2 ?e3 ?e4 ?e5 ?_))
          case e1 =>
            intro j u hj
            match j, hj with
            | 0, hj => simp at hj; subst hj; simp [Addr.add]
          case e2 => intro u hu; simp at hu; subst hu; rfl
          case e3 => unfold maxLen; omega
          case e4 => omega
          case e5 => simp; omega
          intro v' w3 hown' hgrow _
          have hb1 := ((unhide HB).alloc (by omega) (.cells #[.int .i64 z] 3)).grown hgrow (by simp; omega) (fun j hj => (World.ownsRow.lt hown j hj).1)
          have HO4 : Hid (RowI w.heap.size w3 v' (F ++ [z])) := by
            show RowI _ _ _ _
            unfold RowI
            simpa using hown'
          have HB4 := hide hb1
          clear hown hown' hgrow hb1
          go_wp2_with fail
          go_roundw
          case rel => exact ⟨k + 1, by omega, by go_num, by rw [unhide HE], by rw [unhide HE]; exact HO4, HB4⟩
          case measure => simp [intOf]; omega
        | false =>
          have hnz : ¬ n < z := by simpa using hput
          clear hput
          go_wp2_with (first
            | (at_builtin; refine wpList_append_own _ rfl _ _ 25 rfl w.heap.size 3 i0 (.int .i64 0) 1 8 Tryz.underlying25 hi hz0 hz1 hz2 rfl (by decide) _ _ _ rfl (hown.alloc _) ⟨wo.heap.size, 0, none⟩ 1 1 [.int .i64 z] rfl rfl ?f1 ?f2 ?f3 ?f4 ?f5 ?_))
          case f2 => first | rfl | (intro u hu; simp at hu; subst hu; rfl)
          case f3 => unfold maxLen; omega
          case f4 => omega
          case f5 => first | omega | (simp; omega)
          intro v' w3 hown' hgrow _
          have hb1 := ((unhide HB).alloc (by omega) (.cells #[.int .i64 z] 3)).grown hgrow (by simp; omega) (fun j hj => (World.ownsRow.lt hown j hj).1)
          have HO4 : Hid (RowI w.heap.size w3 v' (F ++ [z])) := by
            show RowI _ _ _ _
            unfold RowI
            simpa using hown'
          have HB4 := hide hb1
          clear hown hown' hgrow hb1
          go_wp2_with fail
          go_roundw
          case rel => exact ⟨k + 1, by omega, by go_num, by rw [unhide HE], by rw [unhide HE]; exact HO4, HB4⟩
          case measure => simp [intOf]; omega
    · have j1 : ¬ (k : Int) < (set.length : Int) := by omega
      have hke : k = set.length := by omega
      subst hke
      have hpz : putZ set n = if (putGo set n set.length).2 then (putGo set n set.length).1 else (putGo set n set.length).1 ++ [n] := rfl
      generalize (putGo set n set.length).2 = dn at hpz ⊢
      generalize (putGo set n set.length).1 = F at hpz HO hlen
      have HPZ := hide hpz
      clear hpz
      cases dn with
      | true =>
        go_wp2_with fail
        go_ret
        exact ⟨⟨_, rfl, by rw [unhide HPZ]; exact unhide HO⟩, unhide HB⟩
      | false =>
        have hown := unhide HO
        go_wp2_with (first
          | (at_builtin; refine wpList_append_own _ rfl _ _ 25 rfl w.heap.size 3 i0 (.int .i64 0) 1 8 Tryz.underlying25 hi hz0 hz1 hz2 rfl (by decide) _ _ _ rfl (hown.alloc _) ⟨wo.heap.size, 0, none⟩ 1 1 [.int .i64 n] rfl rfl ?g1 ?g2 ?g3 ?g4 ?g5 ?_))
        case g2 => first | rfl | (intro u hu; simp at hu; subst hu; rfl)
        case g3 => unfold maxLen; omega
        case g4 => omega
        case g5 => first | omega | (simp; omega)
        intro v' w3 hown' hgrow _
        have hb1 := ((unhide HB).alloc (by omega) (.cells #[.int .i64 n] 3)).grown hgrow (by simp; omega) (fun j hj => (World.ownsRow.lt hown j hj).1)
        have HO4 : Hid (RowI w.heap.size w3 v' (F ++ [n])) := by
          show RowI _ _ _ _
          unfold RowI
          simpa using hown'
        have HB4 := hide hb1
        clear hown hown' hgrow hb1
        go_wp2_with fail
        go_ret
        exact ⟨⟨_, rfl, by rw [unhide HPZ]; exact unhide HO4⟩, unhide HB4⟩
theorem putZ_len (set : List Int) (n : Int) : (putZ set n).length ≤ 2 * set.length + 1 := by
  have := putGo_len set n set.length
  unfold putZ
  split
  · omega
  · simp; omega
end Go.Proofs.YthkhaemlcmkkjaxGreat
