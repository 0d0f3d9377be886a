/- The walk of the law FnStateList: of every two codes it answers true, and writes nothing that was there. -/
import Derived.Test.YtnegiggafgfmkabDrawUL
import Derived.Test.YtnegiggafgfmkabPureL
import Derived.Test.YtnegiggafgfmkabLdRows
import Derived.Test.YtnegiggafgfmkabGStM
namespace Go.Proofs.Ytnegiggafgfmkab
set_option linter.unusedVariables false
set_option linter.unusedSimpArgs false
open Go.RowKit Go.Deep

theorem statesI_lists {B : Nat} {w : World} {v : Value} {l : List PackD} {room : Int} (h : ∃ vs, Lst B w v (stateL l room) vs) : ∃ a cap, v = .slice a (statesI l room).length cap ∧ (statesI l room).length ≤ cap ∧ cap ≤ maxLen ∧ (a = none → cap = 0) ∧ ListsAt w a (statesI l room) := by
  obtain ⟨vs, h⟩ := h
  have h1 := statesI_len l room
  refine LstI.lists h.ints (by omega) fun i hi => ?_
  have hm := (statesI_mem l room _).1 (getD_mem (d := ([] : List Int)) hi)
  have := set_short8 (ok_form hm)
  omega
theorem statesI_ok {l : List PackD} {room : Int} {k : Nat} (hk : k < (statesI l room).length) : okZ l room ((statesI l room).getD k []) = true := (statesI_mem l room _).1 (getD_mem hk)
theorem statesI_once {l : List PackD} {room : Int} {k : Nat} (hk : k < (statesI l room).length) : ((statesI l room).take k).any (fun x => decide (x = (statesI l room).getD k [])) = false := by
  rw [List.any_eq_false]
  intro x hx
  simp only [decide_eq_true_eq]
  intro e
  obtain ⟨i, hi, hxi⟩ := List.getElem_of_mem hx
  simp at hi
  rw [List.getElem_take] at hxi
  have hnd := List.pairwise_iff_getElem.1 (statesI_nodup l room) i k (by omega) hk (by omega)
  apply hnd
  rw [hxi, e]
  simp [List.getD, hk]
theorem statesI_has (l : List PackD) (room : Int) (set : List Int) : (statesI l room).any (fun x => decide (x = set)) = okZ l room set := by
  rw [Bool.eq_iff_iff, List.any_eq_true, ← statesI_mem]
  constructor
  · rintro ⟨x, hx, h⟩
    simp at h
    rw [← h]
    exact hx
  · intro h
    exact ⟨set, h, by simp⟩

set_option maxRecDepth 100000 in
set_option maxHeartbeats 8000000 in
theorem list_any (a : Option Addr) (n c : Nat) (a2 : Option Addr) (n2 c2 : Nat) (w : World) (h : CodeAt w.heap.size w a n) (hc : n ≤ c) (hc2 : c ≤ maxLen) (hd : n2 ≤ c2) (hd2 : c2 ≤ maxLen) (h2 : CodeAt w.heap.size w a2 n2) :
    Calls Try.prog 5 #[.slice a n c, .slice a2 n2 c2] w fun e w' => e = .returned (.bool true) ∧ Below w.heap.size w w' := by
  have hmx := hc2
  unfold maxLen at hmx
  have hmd := hd2
  unfold maxLen at hmd
  by_cases hbig : 1048576 < n
  · have hb' : (1048576 : Int) < (n : Int) := by omega
    go_enter Try.func5, Try.ntmps5
    go_wp2_with fail
    go_ret
    exact ⟨rfl, Below.refl _ _⟩
  have hb' : ¬ (1048576 : Int) < (n : Int) := by omega
  by_cases hbig2 : 1048576 < n2
  · have hb2' : (1048576 : Int) < (n2 : Int) := by omega
    go_enter Try.func5, Try.ntmps5
    go_wp2_with fail
    go_ret
    exact ⟨rfl, Below.refl _ _⟩
  have hb2' : ¬ (1048576 : Int) < (n2 : Int) := by omega
  go_enter Try.func5, Try.ntmps5
  go_wp2_with fail
  refine (DrawStateList_V a n c w h (by omega) hc hc2).mono ?_
  rintro e w1 ⟨⟨v, room, rfl, hV⟩, b1⟩
  obtain ⟨va, vn, vc, rfl, _⟩ := SlBy.slice hV
  obtain ⟨l, rfl, hP⟩ := V2.packs hV
  have HP1 := hide hP
  have HB1 := hide b1
  have HC2 := hide h2
  clear hV hP b1 h h2
  go_upto_region 4 with fail
  obtain ⟨w2, hw2⟩ : ∃ w2, w2 = w1.alloc (.cells #[.slice va l.length vc, .int .i64 room] 25) := ⟨_, rfl⟩
  rw [← hw2]
  have b2 : Below w1.heap.size w1 w2 := by rw [hw2]; exact (Below.refl _ _).alloc (Nat.le_refl _) _
  have x0 : w2.cell? ⟨w1.heap.size, 0, none⟩ = some (.slice va l.length vc) := by rw [hw2]; simp
  have x1 : w2.cell? ⟨w1.heap.size, 1, none⟩ = some (.int .i64 room) := by rw [hw2]; simp
  have hlt2 : w1.heap.size < w2.heap.size := by rw [hw2]; simp
  have HP2 := hide ((unhide HP1).on b2)
  have HB2 := hide ((unhide HB1).trans (b2.mono (unhide HB1).size))
  clear hw2 b2 HP1 HB1
  go_wp2_with fail
  refine (specStateList_any va l vc room w2 (unhide HP2)).mono ?_
  rintro e w3 ⟨⟨v5, rfl, hl5⟩, b3⟩
  obtain ⟨pa, pc, rfl, _, _, _, hW5⟩ := statesI_lists hl5
  have HP3 := hide ((unhide HP2).on b3)
  have HB3 := hide ((unhide HB2).trans (b3.mono (unhide HB2).size))
  have hlt3 : w1.heap.size < w3.heap.size := Nat.lt_of_lt_of_le hlt2 b3.size
  rw [← b3.cell (p := ⟨w1.heap.size, _, none⟩) hlt2] at x0 x1
  have HW3 := hide hW5
  clear HP2 HB2 b3 hlt2 hl5 hW5
  go_wp2_with fail
  refine (implStateList_any va l vc room w3 (unhide HP3)).mono ?_
  rintro e w4 ⟨⟨v6, rfl, hl6⟩, b4⟩
  obtain ⟨la, lc, rfl, hlc1, hlc2, hlc3, hL6⟩ := statesI_lists hl6
  have HP4 := hide ((unhide HP3).on b4)
  have HB4 := hide ((unhide HB3).trans (b4.mono (unhide HB3).size))
  have hlt4 : w1.heap.size < w4.heap.size := Nat.lt_of_lt_of_le hlt3 b4.size
  rw [← b4.cell (p := ⟨w1.heap.size, _, none⟩) hlt3] at x0 x1
  have HW4 := hide ((unhide HW3).on b4)
  have HL4 := hide hL6
  clear HP3 HB3 b4 hlt3 hl6 hL6 HW3
  have hL8 := statesI_len l room
  have HOKS : Hid (∀ k, k < (statesI l room).length → okZ l room ((statesI l room).getD k []) = true) := fun k hk => statesI_ok hk
  have HONE : Hid (∀ k, k < (statesI l room).length → ((statesI l room).take k).any (fun x => decide (x = (statesI l room).getD k [])) = false) := fun k hk => statesI_once hk
  have HHAS : Hid (∀ set, (statesI l room).any (fun x => decide (x = set)) = okZ l room set) := fun set => statesI_has l room set
  generalize statesI l room = L at *
  go_wp2_with fail
  refine (ldRows_same la L lc pa pc w4 (unhide HL4) (unhide HW4)).mono ?_
  rintro e w5 ⟨rfl, b5⟩
  have HP5 := hide ((unhide HP4).on b5)
  have HB5 := hide ((unhide HB4).trans (b5.mono (unhide HB4).size))
  have hlt5 : w1.heap.size < w5.heap.size := Nat.lt_of_lt_of_le hlt4 b5.size
  rw [← b5.cell (p := ⟨w1.heap.size, _, none⟩) hlt4] at x0 x1
  have HL5 := hide ((unhide HL4).on b5)
  clear HP4 HB4 b5 hlt4 HL4 HW4
  go_wp2_with fail
  go_loopw [8] (fun i wr => ∃ k : Nat, k ≤ L.length ∧ i = .int .i64 k ∧ Hid (Below w5.heap.size w5 wr)) (fun i _ => L.length - (intOf i).toNat)
  case atStart => exact ⟨0, Nat.zero_le _, rfl, Below.refl _ _⟩
  case round =>
    rename World => wo
    obtain ⟨k, hk, rfl, HO⟩ := hrel
    have hlto : w1.heap.size < wo.heap.size := Nat.lt_of_lt_of_le hlt5 (unhide HO).size
    rw [← (unhide HO).cell (p := ⟨w1.heap.size, _, none⟩) hlt5] at x0 x1
    by_cases hlt : k < L.length
    · have j1 : (k : Int) < (L.length : Int) := by omega
      have j0 : (0 : Int) ≤ (k : Int) := by omega
      have jc : (k : Int) ≤ (lc : Int) := by omega
      rcases ((unhide HL5).on (unhide HO)).2 with hnil | ⟨lb, lo, rfl, hbl, hrk⟩
      · rw [hnil] at hlt; simp at hlt
      obtain ⟨ra, rc, c0, hs⟩ := hrk k hlt
      have hok := unhide HOKS k hlt
      have hone := unhide HONE k hlt
      have HTK := hide (((unhide HL5).on (unhide HO)).take k)
      generalize L.getD k [] = row at c0 hs hok hone
      have HCI := hide (fun x (hx : Below wo.heap.size wo x) => implStateOk_any va l vc room ra row rc x (((unhide HP5).on (unhide HO)).on hx) (hs.on hx))
      have HCH := hide (fun x (hx : Below wo.heap.size wo x) => ldHas_any (some ⟨lb, lo, none⟩) (L.take k) lc ra row rc x ((unhide HTK).on hx) (hs.on hx))
      have e1 : (L.take k).length = k := by simp; omega
      rw [hok] at HCI
      rw [hone, e1] at HCH
      clear hrk hs hok hone e1 HTK
      go_upto_region 11 with fail
      refine wp_region_mix (k := 100) 16 [] [.agg #[.slice va l.length vc, .int .i64 room], .slice (some ⟨lb, lo, none⟩) L.length lc, .int .i64 (k : Int), .pointer (some ⟨lb, lo + k, none⟩), .slice ra row.length rc, .bool true, .bool false, .bool false, .slice (some ⟨lb, lo, none⟩) L.length lc, .int .i64 (k : Int), .slice (some ⟨lb, lo, none⟩) k lc, .slice (some ⟨lb, lo, none⟩) L.length lc, .int .i64 (k : Int), .pointer (some ⟨lb, lo + k, none⟩), .slice ra row.length rc, .bool false] (C0 wo) (by kernel_rfl) (by kernel_rfl) (by kernel_rfl) (by kernel_rfl) (by kernel_rfl) (by kernel_rfl) ⟨(Below.refl _ _).drew⟩ ?_ ?_ ?_
      · intro full hfull i oo hi hns ho x fl us hC hb
        simp [putAll, slotOf, Act.put] at hfull
        subst hfull
        have bx := hC.below
        rw [← bx.cell (p := ⟨w1.heap.size, _, none⟩) hlto] at x0 x1
        rw [← bx.cell (p := ⟨lb, _, none⟩) hbl] at c0
        have hC0 := hC.on (b' := fl) (Below.refl _ _)
        match i with
        | 0 => simp at ho; subst ho; simp [gwp, Region.wanted, yielded]; go_simp; first | done | exact hC0 | exact ⟨rfl, hC0⟩ | (simp; exact hC0) | rfl | (intro h; omega) | (simp; omega)
        | 1 => simp at ho; subst ho; simp [gwp, Region.wanted, yielded]; go_simp; first | done | exact hC0 | exact ⟨rfl, hC0⟩ | (simp; exact hC0) | rfl | (intro h; omega) | (simp; omega)
        | 2 => simp at ho; subst ho; simp [gwp, Region.wanted, yielded]; go_simp; first | done | exact hC0 | exact ⟨rfl, hC0⟩ | (simp; exact hC0) | rfl | (intro h; omega) | (simp; omega)
        | 3 => simp at ho; subst ho; simp [gwp, Region.wanted, yielded]; go_simp; first | done | exact hC0 | exact ⟨rfl, hC0⟩ | (simp; exact hC0) | rfl | (intro h; omega) | (simp; omega)
        | 4 => simp at ho; subst ho; simp [gwp, Region.wanted, yielded]; go_simp; first | done | exact hC0 | exact ⟨rfl, hC0⟩ | (simp; exact hC0) | rfl | (intro h; omega) | (simp; omega)
        | 5 =>
          simp at ho; subst ho; simp [gwp, Region.wanted, yielded]; go_simp
          refine (unhide HCI x bx).mono ?_
          rintro e w' ⟨rfl, hb2⟩
          go_simp
          first | done | exact hC.on hb2 | exact ⟨rfl, hC.on hb2⟩ | (simp; exact hC.on hb2)
        | 6 => simp at ho; subst ho; simp [gwp, Region.wanted, yielded]; go_simp; first | done | exact hC0 | exact ⟨rfl, hC0⟩ | (simp; exact hC0) | rfl | (intro h; omega) | (simp; omega)
        | 7 => simp at ho; subst ho; simp [gwp, Region.wanted, yielded]; go_simp; first | done | exact hC0 | exact ⟨rfl, hC0⟩ | (simp; exact hC0) | rfl | (intro h; omega) | (simp; omega)
        | 8 => simp at ho; subst ho; simp [gwp, Region.wanted, yielded]; go_simp; first | done | exact hC0 | exact ⟨rfl, hC0⟩ | (simp; exact hC0) | rfl | (intro h; omega) | (simp; omega)
        | 9 => simp at ho; subst ho; simp [gwp, Region.wanted, yielded]; go_simp; first | done | exact hC0 | exact ⟨rfl, hC0⟩ | (simp; exact hC0) | rfl | (intro h; omega) | (simp; omega)
        | 10 => simp at ho; subst ho; simp [gwp, Region.wanted, yielded]; go_simp; first | done | exact hC0 | exact ⟨rfl, hC0⟩ | (simp; exact hC0) | rfl | (intro h; omega) | (simp; omega)
        | 11 => simp at ho; subst ho; simp [gwp, Region.wanted, yielded]; go_simp; first | done | exact hC0 | exact ⟨rfl, hC0⟩ | (simp; exact hC0) | rfl | (intro h; omega) | (simp; omega)
        | 12 => simp at ho; subst ho; simp [gwp, Region.wanted, yielded]; go_simp; first | done | exact hC0 | exact ⟨rfl, hC0⟩ | (simp; exact hC0) | rfl | (intro h; omega) | (simp; omega)
        | 13 => simp at ho; subst ho; simp [gwp, Region.wanted, yielded]; go_simp; first | done | exact hC0 | exact ⟨rfl, hC0⟩ | (simp; exact hC0) | rfl | (intro h; omega) | (simp; omega)
        | 14 => simp at ho; subst ho; simp [gwp, Region.wanted, yielded]; go_simp; first | done | exact hC0 | exact ⟨rfl, hC0⟩ | (simp; exact hC0) | rfl | (intro h; omega) | (simp; omega)
        | 15 =>
          simp at ho; subst ho; simp [gwp, Region.wanted, yielded]; go_simp
          refine (unhide HCH x bx).mono ?_
          rintro e w' ⟨rfl, hb2⟩
          go_simp
          first | done | exact hC.on hb2 | exact ⟨rfl, hC.on hb2⟩ | (simp; exact hC.on hb2)
        | i + 16 => omega
      · intro full hfull us j hj
        simp at hj
      · intro full hfull us wz hus hC
        simp [putAll, slotOf, Act.put] at hfull
        subst hfull
        match us, hus with
        | [], _ =>
        have bz := hC.below
        clear hC
        simp [putP]
        have HZ := hide ((unhide HO).trans (bz.mono (unhide HO).size))
        clear bz HO HCI HCH
        go_wp2_with fail
        go_roundw
        case rel => exact ⟨k + 1, by omega, by go_num, HZ⟩
        case measure => simp [intOf]; omega
    · have j1 : ¬ (k : Int) < (L.length : Int) := by omega
      have HBo := hide ((unhide HB5).trans ((unhide HO).mono (unhide HB5).size))
      have HPo := hide ((unhide HP5).on (unhide HO))
      have HLo := hide ((unhide HL5).on (unhide HO))
      have hcode := (unhide HC2).below (unhide HBo) (Nat.le_refl _)
      have hz := (unhide HBo).size
      have HCD := hide (DrawStateOk_V a2 n2 c2 wo hcode (by omega) hd hd2)
      clear HO HP5 HB5 HL5 HOKS HONE hcode
      go_wp2_with fail
      refine (unhide HCD).mono ?_
      rintro e w6 ⟨⟨v6, room6, u6, rfl, hV6, set, hrow, hsl⟩, b6⟩
      obtain ⟨va6, vn6, vc6, rfl, _⟩ := SlBy.slice hV6
      obtain ⟨sa, sc, hu, hset⟩ := RowI.set hrow (by omega)
      subst hu
      have HB6 := hide ((unhide HBo).trans (b6.mono (unhide HBo).size))
      have HP6 := hide ((unhide HPo).on b6)
      have HL6 := hide ((unhide HLo).on b6)
      have HS6 := hide hset
      rw [← b6.cell (p := ⟨w1.heap.size, _, none⟩) hlto] at x0 x1
      have hlt6 : w1.heap.size < w6.heap.size := Nat.lt_of_lt_of_le hlto b6.size
      clear HBo HPo HLo HCD hV6 hrow hset b6
      go_upto_region 14 with fail
      obtain ⟨w7, hw7⟩ : ∃ w7, w7 = w6.alloc (.cells #[.slice va6 vn6 vc6, .int .i64 room6] 25) := ⟨_, rfl⟩
      rw [← hw7]
      have b7 : Below w6.heap.size w6 w7 := by rw [hw7]; exact (Below.refl _ _).alloc (Nat.le_refl _) _
      rw [← b7.cell (p := ⟨w1.heap.size, _, none⟩) hlt6] at x0 x1
      have hlt7 : w1.heap.size < w7.heap.size := Nat.lt_of_lt_of_le hlt6 b7.size
      have HB7 := hide ((unhide HB6).trans (b7.mono (unhide HB6).size))
      have HCI := hide (fun x (hx : Below w7.heap.size w7 x) => implStateOk_any va l vc room sa set sc x (((unhide HP6).on b7).on hx) (((unhide HS6).on b7).on hx))
      have HCH := hide (fun x (hx : Below w7.heap.size w7 x) => ldHas_any la L lc sa set sc x (((unhide HL6).on b7).on hx) (((unhide HS6).on b7).on hx))
      rw [unhide HHAS set] at HCH
      generalize okZ l room set = ok at HCI HCH
      clear hw7 HB6 HHAS
      refine wp_region_mix (k := 100) 7 [] [.slice la L.length lc, .slice sa set.length sc, .bool ok, .agg #[.slice va l.length vc, .int .i64 room], .slice sa set.length sc, .bool ok, .bool true] (C0 w7) (by kernel_rfl) (by kernel_rfl) (by kernel_rfl) (by kernel_rfl) (by kernel_rfl) (by kernel_rfl) ⟨(Below.refl _ _).drew⟩ ?_ ?_ ?_
      · intro full hfull i oo hi hns ho x fl us hC hb
        simp [putAll, slotOf, Act.put] at hfull
        subst hfull
        have bx := hC.below
        rw [← bx.cell (p := ⟨w1.heap.size, _, none⟩) hlt7] at x0 x1
        have hC0 := hC.on (b' := fl) (Below.refl _ _)
        match i with
        | 0 => simp at ho; subst ho; simp [gwp, Region.wanted, yielded]; go_simp; first | done | exact hC0 | exact ⟨rfl, hC0⟩ | (simp; exact hC0) | rfl | (intro h; omega) | (simp; omega)
        | 1 => simp at ho; subst ho; simp [gwp, Region.wanted, yielded]; go_simp; first | done | exact hC0 | exact ⟨rfl, hC0⟩ | (simp; exact hC0) | rfl | (intro h; omega) | (simp; omega)
        | 2 =>
          simp at ho; subst ho; simp [gwp, Region.wanted, yielded]; go_simp
          refine (unhide HCH x bx).mono ?_
          rintro e w' ⟨rfl, hb2⟩
          go_simp
          first | done | exact hC.on hb2 | exact ⟨rfl, hC.on hb2⟩ | (simp; exact hC.on hb2)
        | 3 => simp at ho; subst ho; simp [gwp, Region.wanted, yielded]; go_simp; first | done | exact hC0 | exact ⟨rfl, hC0⟩ | (simp; exact hC0) | rfl | (intro h; omega) | (simp; omega)
        | 4 => simp at ho; subst ho; simp [gwp, Region.wanted, yielded]; go_simp; first | done | exact hC0 | exact ⟨rfl, hC0⟩ | (simp; exact hC0) | rfl | (intro h; omega) | (simp; omega)
        | 5 =>
          simp at ho; subst ho; simp [gwp, Region.wanted, yielded]; go_simp
          refine (unhide HCI x bx).mono ?_
          rintro e w' ⟨rfl, hb2⟩
          go_simp
          first | done | exact hC.on hb2 | exact ⟨rfl, hC.on hb2⟩ | (simp; exact hC.on hb2)
        | 6 => simp at ho; subst ho; simp [gwp, Region.wanted, yielded]; go_simp; first | done | exact hC0 | exact ⟨rfl, hC0⟩ | (simp; exact hC0) | rfl | (intro h; omega) | (simp; omega)
        | i + 7 => omega
      · intro full hfull us j hj
        simp at hj
      · intro full hfull us wz hus hC
        simp [putAll, slotOf, Act.put] at hfull
        subst hfull
        match us, hus with
        | [], _ =>
        have bz := hC.below
        clear hC
        simp [putP]
        have HZ := hide ((unhide HB7).trans (bz.mono (unhide HB7).size))
        clear bz HB7 HCI HCH
        go_wp2_with fail
        go_ret
        exact ⟨rfl, unhide HZ⟩
end Go.Proofs.Ytnegiggafgfmkab
