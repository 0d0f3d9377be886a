/- The walk of the law FnStepRoom: of every code it answers true, and writes nothing that was there. -/
import Derived.Test.YthkhaemlcmkkjacGCv
import Derived.Test.YthkhaemlcmkkjacGPd
import Derived.Test.YthkhaemlcmkkjacGIm
import Derived.Test.YthkhaemlcmkkjacLdInts
import Derived.Test.YthkhaemlcmkkjacFormS
namespace Go.Proofs.Ythkhaemlcmkkjac
set_option linter.unusedVariables false
set_option linter.unusedSimpArgs false
open Go.RowKit Go.Deep

set_option maxRecDepth 100000 in
set_option maxHeartbeats 8000000 in
theorem steproom_any (a : Option Addr) (n c : Nat) (w : World) (h : CodeAt w.heap.size w a n) (hc : n ≤ c) (hc2 : c ≤ maxLen) :
    Calls Try.prog 8 #[.slice a n c] w fun e w' => e = .returned (.bool true) ∧ Below w.heap.size w w' := by
  have hmx := hc2
  unfold maxLen at hmx
  by_cases hbig : 1048576 < n
  · have hb' : (1048576 : Int) < (n : Int) := by omega
    go_enter Try.func8, Try.ntmps8
    go_wp2_with fail
    go_ret
    exact ⟨rfl, Below.refl _ _⟩
  have hb' : ¬ (1048576 : Int) < (n : Int) := by omega
  go_enter Try.func8, Try.ntmps8
  go_wp2_with fail
  refine (DrawStepDo_V a n c w h (by omega) hc hc2).mono ?_
  rintro e w1 ⟨⟨v, room, u, s, rfl, hV, set, hrow, hsl⟩, b1⟩
  obtain ⟨va, vn, vc, rfl, _⟩ := SlBy.slice hV
  obtain ⟨l, rfl, hP⟩ := V2.packs hV
  obtain ⟨sa, sc, hu, hset⟩ := RowI.set hrow (by omega)
  subst hu
  have HSC : Hid (sa = none → sc = 0) := row_cap0 hrow
  have HC1 := hide (V2.caps hV hP)
  have HP1 := hide hP
  have HS1 := hide hset
  have HB1 := hide b1
  clear hV hrow hP hset b1 h
  go_upto_region 4 with fail
  obtain ⟨w2, hw2⟩ : ∃ w2, w2 = (w1.alloc (.cells #[.slice va l.length vc, .int .i64 room] 25)).alloc (.cells #[.int .i64 s.kind, .int .i64 s.inn, .int .i64 s.out] 43) := ⟨_, rfl⟩
  rw [← hw2]
  have b2 : Below w1.heap.size w1 w2 := by rw [hw2]; exact ((Below.refl _ _).alloc (Nat.le_refl _) _).alloc (by simp) _
  have x0 : w2.cell? ⟨w1.heap.size, 0, none⟩ = some (.slice va l.length vc) := by rw [hw2]; simp
  have x1 : w2.cell? ⟨w1.heap.size, 1, none⟩ = some (.int .i64 room) := by rw [hw2]; simp
  have y0 : w2.cell? ⟨w1.heap.size + 1, 0, none⟩ = some (.int .i64 s.kind) := by rw [hw2]; simp
  have y1 : w2.cell? ⟨w1.heap.size + 1, 1, none⟩ = some (.int .i64 s.inn) := by rw [hw2]; simp
  have y2 : w2.cell? ⟨w1.heap.size + 1, 2, none⟩ = some (.int .i64 s.out) := by rw [hw2]; simp
  have hlt2 : w1.heap.size + 1 < w2.heap.size := by rw [hw2]; simp
  have HP2 := hide ((unhide HP1).on b2)
  have HC2 := hide ((unhide HC1).on b2)
  have HS2 := hide ((unhide HS1).on b2)
  have HB2 := hide ((unhide HB1).trans (b2.mono (unhide HB1).size))
  clear hw2 b2 HP1 HS1 HB1 HC1
  have hdl := do_len (l := l) (room := room) (set := set) (s := s)
  go_wp2_with fail
  refine (specStepDo_any va l vc room sa set sc s w2 (unhide HP2) (unhide HC2) (unhide HS2) (unhide HSC) (by omega)).mono ?_
  rintro e w3 ⟨⟨v3, rfl, hr3⟩, b3⟩
  rw [do_same] at hr3 ⊢
  obtain ⟨pa, pc, rfl, hS3⟩ := RowI.set hr3 (by omega)
  have HW3 := hide hS3
  have HP3 := hide ((unhide HP2).on b3)
  have HS3 := hide ((unhide HS2).on b3)
  have HC3 := hide ((unhide HC2).on b3)
  have HB3 := hide ((unhide HB2).trans (b3.mono (unhide HB2).size))
  have hlt3 : w1.heap.size + 1 < w3.heap.size := Nat.lt_of_lt_of_le hlt2 b3.size
  rw [← b3.cell (p := ⟨w1.heap.size, _, none⟩) (show w1.heap.size < w2.heap.size by omega)] at x0 x1
  rw [← b3.cell (p := ⟨w1.heap.size + 1, _, none⟩) hlt2] at y0 y1 y2
  clear HB2 b3 hlt2 HP2 HS2 HC2
  clear hr3 hS3
  have HOD : Hid (implDo l room set s = implDo l room set s) := rfl
  go_wp2_with fail
  refine (implStepDo_any va l vc room sa set sc s w3 (unhide HP3) (unhide HS3)).mono ?_
  rintro e w4 ⟨⟨v4, rfl, hr4⟩, b4⟩
  obtain ⟨ta, tc, rfl, hS4⟩ := RowI.set hr4 (by omega)
  have HT4 := hide hS4
  have HP4 := hide ((unhide HP3).on b4)
  have HS4 := hide ((unhide HS3).on b4)
  have HC4 := hide ((unhide HC3).on b4)
  have HW4 := hide ((unhide HW3).on b4)
  have HB4 := hide ((unhide HB3).trans (b4.mono (unhide HB3).size))
  have hlt4 : w1.heap.size + 1 < w4.heap.size := Nat.lt_of_lt_of_le hlt3 b4.size
  rw [← b4.cell (p := ⟨w1.heap.size, _, none⟩) (show w1.heap.size < w3.heap.size by omega)] at x0 x1
  rw [← b4.cell (p := ⟨w1.heap.size + 1, _, none⟩) hlt3] at y0 y1 y2
  clear HB3 b4 hlt3 HP3 HS3 HC3 HW3
  clear hr4 hS4
  generalize hod : implDo l room set s = od at *
  replace HOD := hide hod
  clear hod
  go_wp2_with fail
  refine (ldIntsZ_any ta (od.getD []) tc pa (od.getD []) pc w4 (unhide HT4) (unhide HW4)).mono ?_
  rintro e w5 ⟨rfl, b5⟩
  have HP5 := hide ((unhide HP4).on b5)
  have HS5 := hide ((unhide HS4).on b5)
  have HC5 := hide ((unhide HC4).on b5)
  have HW5 := hide ((unhide HW4).on b5)
  have HT5 := hide ((unhide HT4).on b5)
  have HB5 := hide ((unhide HB4).trans (b5.mono (unhide HB4).size))
  have hlt5 : w1.heap.size + 1 < w5.heap.size := Nat.lt_of_lt_of_le hlt4 b5.size
  rw [← b5.cell (p := ⟨w1.heap.size, _, none⟩) (show w1.heap.size < w4.heap.size by omega)] at x0 x1
  rw [← b5.cell (p := ⟨w1.heap.size + 1, _, none⟩) hlt4] at y0 y1 y2
  clear HB4 b5 hlt4 HP4 HS4 HC4 HW4 HT4
  simp only [decide_true]
  cases od with
  | none =>
    go_wp2_with fail
    refine (ldIntsZ_any ta _ tc pa _ pc w5 (unhide HT5) (unhide HW5)).mono ?_
    rintro e w6 ⟨rfl, b6⟩
    have HB6 := hide ((unhide HB5).trans (b6.mono (unhide HB5).size))
    clear b6 HB5 HP5 HS5 HC5 HT5 HW5
    simp only [decide_true]
    go_wp2_with fail
    go_ret
    exact ⟨by simp, unhide HB6⟩
  | some t =>
    simp only [Option.getD_some, Option.isSome_some] at *
    by_cases hk : s.kind = 2
    · rw [hk] at y0
      go_wp2_with fail
      refine (ldIntsZ_any ta _ tc pa _ pc w5 (unhide HT5) (unhide HW5)).mono ?_
      rintro e w6 ⟨rfl, b6⟩
      have HB6 := hide ((unhide HB5).trans (b6.mono (unhide HB5).size))
      clear b6 HB5 HP5 HS5 HC5 HT5 HW5
      simp only [decide_true]
      go_wp2_with fail
      go_ret
      exact ⟨by simp, unhide HB6⟩
    · have hkb : (s.kind == 2) = false := by simpa using hk
      obtain ⟨m, hms, hd⟩ := do_parts (unhide HOD)
      have hk2 : m.step.kind ≠ 2 := by rw [← hms]; exact hk
      have hroom := hd.room hk2
      obtain ⟨hn0, hn1⟩ := hd.inn_lt hk2
      rw [← hms] at hroom hn0 hn1
      have hokr := okz_form hd.ok
      obtain ⟨i, hi⟩ : ∃ i : Nat, s.inn = (i : Int) := ⟨s.inn.toNat, by omega⟩
      rw [hi] at hroom hn0 hn1 y1
      simp only [Int.toNat_natCast] at hroom
      have hil : i < l.length := by omega
      have hz0 := size_sane hokr hil
      rcases (unhide HP5).2 with hnil | ⟨pb, po, rfl, hpS, hpk⟩
      · rw [hnil] at hil; simp at hil
      obtain ⟨_, _, _, _, _, _, hce, _⟩ := hpk i hil
      have n2 := hce.size
      have hpw : pb < w5.heap.size := hpS
      have HSZ := hide (fun x (hx : Below w5.heap.size w5 x) => implStateSize_any (some ⟨pb, po, none⟩) l vc room sa set sc x ((unhide HP5).on hx) ((unhide HS5).on hx))
      generalize sizeZ l room set = zz at HSZ hroom hz0
      generalize (l.getD i dPack).size = psz at n2 hroom hz0
      clear hpk hce hd hi hokr HOD hms hk2
      have hwr : IntKind.i64.wrap (zz + psz) = zz + psz := by rw [IntKind.wrap_i64]; omega
      have hlw1 : w1.heap.size < w5.heap.size := by omega
      go_upto_region 8 with fail
      refine wp_region_mix (k := 100) 14 [] [.agg #[.slice (some ⟨pb, po, none⟩) l.length vc, .int .i64 room], .slice sa set.length sc, .int .i64 zz, .pointer (some ⟨w1.heap.size, 0, none⟩), .slice (some ⟨pb, po, none⟩) l.length vc, .pointer (some ⟨w1.heap.size + 1, 1, none⟩), .int .i64 (i : Int), .pointer (some ⟨pb, po + i * 6, none⟩), .pointer (some ⟨pb, po + i * 6 + 2, none⟩), .int .i64 psz, .int .i64 (zz + psz), .pointer (some ⟨w1.heap.size, 1, none⟩), .int .i64 room, .bool true] (C0 w5) (by kernel_rfl) (by kernel_rfl) (by kernel_rfl) (by kernel_rfl) (by kernel_rfl) (by kernel_rfl) ⟨(Below.refl _ _).drew⟩ ?_ ?_ ?_
      · intro full hfull i oo hi hns ho x fl us hC hb
        simp [putAll, slotOf, Act.put] at hfull
        subst hfull
        have bx := hC.below
        rw [← bx.cell (p := ⟨w1.heap.size, _, none⟩) hlw1] at x0 x1
        rw [← bx.cell (p := ⟨w1.heap.size + 1, _, none⟩) hlt5] at y0 y1 y2
        rw [← bx.cell (p := ⟨pb, _, none⟩) hpw] at n2
        have hC0 := hC.on (b' := fl) (Below.refl _ _)
        match i with
        | 0 => simp at ho; subst ho; simp [gwp, Region.wanted, yielded]; go_simp; first | done | exact hC0 | exact ⟨rfl, hC0⟩ | (simp; exact hC0) | rfl | (intro h; omega) | (simp; omega)
        | 1 => simp at ho; subst ho; simp [gwp, Region.wanted, yielded]; go_simp; first | done | exact hC0 | exact ⟨rfl, hC0⟩ | (simp; exact hC0) | rfl | (intro h; omega) | (simp; omega)
        | 2 =>
          simp at ho; subst ho; simp [gwp, Region.wanted, yielded]; go_simp
          refine (unhide HSZ x bx).mono ?_
          rintro e w' ⟨rfl, hb2⟩
          go_simp
          first | done | exact hC.on hb2 | exact ⟨rfl, hC.on hb2⟩ | (simp; exact hC.on hb2)
        | 3 => simp at ho; subst ho; simp [gwp, Region.wanted, yielded]; go_simp; first | done | exact hC0 | exact ⟨rfl, hC0⟩ | (simp; exact hC0) | rfl | (intro h; omega) | (simp; omega)
        | 4 => simp at ho; subst ho; simp [gwp, Region.wanted, yielded]; go_simp; first | done | exact hC0 | exact ⟨rfl, hC0⟩ | (simp; exact hC0) | rfl | (intro h; omega) | (simp; omega)
        | 5 => simp at ho; subst ho; simp [gwp, Region.wanted, yielded]; go_simp; first | done | exact hC0 | exact ⟨rfl, hC0⟩ | (simp; exact hC0) | rfl | (intro h; omega) | (simp; omega)
        | 6 => simp at ho; subst ho; simp [gwp, Region.wanted, yielded]; go_simp; first | done | exact hC0 | exact ⟨rfl, hC0⟩ | (simp; exact hC0) | rfl | (intro h; omega) | (simp; omega)
        | 7 => simp at ho; subst ho; simp [gwp, Region.wanted, yielded]; go_simp; first | done | exact hC0 | exact ⟨rfl, hC0⟩ | (simp; exact hC0) | rfl | (intro h; omega) | (simp; omega)
        | 8 => simp at ho; subst ho; simp [gwp, Region.wanted, yielded]; go_simp; first | done | exact hC0 | exact ⟨rfl, hC0⟩ | (simp; exact hC0) | rfl | (intro h; omega) | (simp; omega)
        | 9 => simp at ho; subst ho; simp [gwp, Region.wanted, yielded]; go_simp; first | done | exact hC0 | exact ⟨rfl, hC0⟩ | (simp; exact hC0) | rfl | (intro h; omega) | (simp; omega)
        | 10 => simp at ho; subst ho; simp [gwp, Region.wanted, yielded]; go_simp; first | done | exact hC0 | exact ⟨rfl, hC0⟩ | (simp; exact hC0) | rfl | (intro h; omega) | (simp; omega)
        | 11 => simp at ho; subst ho; simp [gwp, Region.wanted, yielded]; go_simp; first | done | exact hC0 | exact ⟨rfl, hC0⟩ | (simp; exact hC0) | rfl | (intro h; omega) | (simp; omega)
        | 12 => simp at ho; subst ho; simp [gwp, Region.wanted, yielded]; go_simp; first | done | exact hC0 | exact ⟨rfl, hC0⟩ | (simp; exact hC0) | rfl | (intro h; omega) | (simp; omega)
        | 13 => simp at ho; subst ho; simp [gwp, Region.wanted, yielded]; go_simp; first | done | exact hC0 | exact ⟨rfl, hC0⟩ | (simp; exact hC0) | rfl | (intro h; omega) | (simp; omega)
        | i + 14 => omega
      · intro full hfull us j hj
        simp at hj
      · intro full hfull us wz hus hC
        simp [putAll, slotOf, Act.put] at hfull
        subst hfull
        match us, hus with
        | [], _ =>
        have bz := hC.below
        clear hC
        simp [putP]
        have HB6 := hide ((unhide HB5).trans (bz.mono (unhide HB5).size))
        clear bz HB5
        go_wp2_with fail
        go_ret
        exact ⟨by simp, unhide HB6⟩
end Go.Proofs.Ythkhaemlcmkkjac
