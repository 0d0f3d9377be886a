/- The walk of the law FnStepMore: of every code it answers true, and writes nothing that was there. -/
import Derived.Test.YthkhaemlcmkkjadGCv
import Derived.Test.YthkhaemlcmkkjadGPd
import Derived.Test.YthkhaemlcmkkjadGIm
import Derived.Test.YthkhaemlcmkkjadLdInts
import Derived.Test.YthkhaemlcmkkjadTupM
import Derived.Test.YthkhaemlcmkkjadLdRoom
namespace Go.Proofs.Ythkhaemlcmkkjad
set_option linter.unusedVariables false
set_option linter.unusedSimpArgs false
open Go.RowKit Go.Deep

set_option maxRecDepth 100000 in
set_option maxHeartbeats 8000000 in
theorem more_any (a : Option Addr) (n c : Nat) (a2 : Option Addr) (n2 c2 : Nat) (w : World) (h : CodeAt w.heap.size w a n) (hc : n ≤ c) (hc2 : c ≤ maxLen) (hd : n2 ≤ c2) (hd2 : c2 ≤ maxLen) :
    Calls Try.prog 4 #[.slice a n c, .slice a2 n2 c2] w fun e w' => e = .returned (.bool true) ∧ Below w.heap.size w w' := by
  have hmx := hc2
  unfold maxLen at hmx
  have hmd := hd2
  unfold maxLen at hmd
  by_cases hbig : 1048576 < n
  · have hb' : (1048576 : Int) < (n : Int) := by omega
    go_enter Try.func4, Try.ntmps4
    go_wp2_with fail
    go_ret
    exact ⟨rfl, Below.refl _ _⟩
  have hb' : ¬ (1048576 : Int) < (n : Int) := by omega
  by_cases hbig2 : 1048576 < n2
  · have hb2' : (1048576 : Int) < (n2 : Int) := by omega
    go_enter Try.func4, Try.ntmps4
    go_wp2_with fail
    go_ret
    exact ⟨rfl, Below.refl _ _⟩
  have hb2' : ¬ (1048576 : Int) < (n2 : Int) := by omega
  go_enter Try.func4, Try.ntmps4
  go_wp2_with fail
  refine (DrawStepDo_V a n c w h (by omega) hc hc2).mono ?_
  rintro e w1 ⟨⟨v, room, u, s, rfl, hV, set, hrow, hsl⟩, b1⟩
  obtain ⟨va, vn, vc, rfl, _⟩ := SlBy.slice hV
  obtain ⟨l, rfl, hP⟩ := V2.packs hV
  obtain ⟨sa, sc, hu, hset⟩ := RowI.set hrow (by omega)
  subst hu
  have HSC : Hid (sa = none → sc = 0) := row_cap0 hrow
  have HC1 := hide (V2.caps hV hP)
  have HP1 := hide hP
  have HS1 := hide hset
  have HB1 := hide b1
  clear hV hrow hP hset b1 h
  go_upto_region 4 with fail
  obtain ⟨w2, hw2⟩ : ∃ w2, w2 = (w1.alloc (.cells #[.slice va l.length vc, .int .i64 room] 25)).alloc (.cells #[.int .i64 s.kind, .int .i64 s.inn, .int .i64 s.out] 28) := ⟨_, rfl⟩
  rw [← hw2]
  have b2 : Below w1.heap.size w1 w2 := by rw [hw2]; exact ((Below.refl _ _).alloc (Nat.le_refl _) _).alloc (by simp) _
  have x0 : w2.cell? ⟨w1.heap.size, 0, none⟩ = some (.slice va l.length vc) := by rw [hw2]; simp
  have x1 : w2.cell? ⟨w1.heap.size, 1, none⟩ = some (.int .i64 room) := by rw [hw2]; simp
  have y0 : w2.cell? ⟨w1.heap.size + 1, 0, none⟩ = some (.int .i64 s.kind) := by rw [hw2]; simp
  have y1 : w2.cell? ⟨w1.heap.size + 1, 1, none⟩ = some (.int .i64 s.inn) := by rw [hw2]; simp
  have y2 : w2.cell? ⟨w1.heap.size + 1, 2, none⟩ = some (.int .i64 s.out) := by rw [hw2]; simp
  have hlt2 : w1.heap.size + 1 < w2.heap.size := by rw [hw2]; simp
  have HP2 := hide ((unhide HP1).on b2)
  have HC2 := hide ((unhide HC1).on b2)
  have HS2 := hide ((unhide HS1).on b2)
  have HB2 := hide ((unhide HB1).trans (b2.mono (unhide HB1).size))
  clear hw2 b2 HP1 HS1 HB1 HC1
  have hdl := do_len (l := l) (room := room) (set := set) (s := s)
  go_wp2_with fail
  refine (specStepDo_any va l vc room sa set sc s w2 (unhide HP2) (unhide HC2) (unhide HS2) (unhide HSC) (by omega)).mono ?_
  rintro e w3 ⟨⟨v3, rfl, hr3⟩, b3⟩
  rw [do_same] at hr3 ⊢
  obtain ⟨pa, pc, rfl, hS3⟩ := RowI.set hr3 (by omega)
  have HW3 := hide hS3
  have HP3 := hide ((unhide HP2).on b3)
  have HS3 := hide ((unhide HS2).on b3)
  have HC3 := hide ((unhide HC2).on b3)
  have HB3 := hide ((unhide HB2).trans (b3.mono (unhide HB2).size))
  have hlt3 : w1.heap.size + 1 < w3.heap.size := Nat.lt_of_lt_of_le hlt2 b3.size
  rw [← b3.cell (p := ⟨w1.heap.size, _, none⟩) (show w1.heap.size < w2.heap.size by omega)] at x0 x1
  rw [← b3.cell (p := ⟨w1.heap.size + 1, _, none⟩) hlt2] at y0 y1 y2
  clear HB2 b3 hlt2 HP2 HS2 HC2
  clear hr3 hS3
  have HOD : Hid (implDo l room set s = implDo l room set s) := rfl
  go_wp2_with fail
  refine (implStepDo_any va l vc room sa set sc s w3 (unhide HP3) (unhide HS3)).mono ?_
  rintro e w4 ⟨⟨v4, rfl, hr4⟩, b4⟩
  obtain ⟨ta, tc, rfl, hS4⟩ := RowI.set hr4 (by omega)
  have HT4 := hide hS4
  have HP4 := hide ((unhide HP3).on b4)
  have HS4 := hide ((unhide HS3).on b4)
  have HC4 := hide ((unhide HC3).on b4)
  have HW4 := hide ((unhide HW3).on b4)
  have HB4 := hide ((unhide HB3).trans (b4.mono (unhide HB3).size))
  have hlt4 : w1.heap.size + 1 < w4.heap.size := Nat.lt_of_lt_of_le hlt3 b4.size
  rw [← b4.cell (p := ⟨w1.heap.size, _, none⟩) (show w1.heap.size < w3.heap.size by omega)] at x0 x1
  rw [← b4.cell (p := ⟨w1.heap.size + 1, _, none⟩) hlt3] at y0 y1 y2
  clear HB3 b4 hlt3 HP3 HS3 HC3 HW3
  clear hr4 hS4
  generalize hod : implDo l room set s = od at *
  replace HOD := hide hod
  clear hod
  go_wp2_with fail
  refine (ldIntsZ_any ta (od.getD []) tc pa (od.getD []) pc w4 (unhide HT4) (unhide HW4)).mono ?_
  rintro e w5 ⟨rfl, b5⟩
  have HP5 := hide ((unhide HP4).on b5)
  have HS5 := hide ((unhide HS4).on b5)
  have HC5 := hide ((unhide HC4).on b5)
  have HW5 := hide ((unhide HW4).on b5)
  have HT5 := hide ((unhide HT4).on b5)
  have HB5 := hide ((unhide HB4).trans (b5.mono (unhide HB4).size))
  have hlt5 : w1.heap.size + 1 < w5.heap.size := Nat.lt_of_lt_of_le hlt4 b5.size
  rw [← b5.cell (p := ⟨w1.heap.size, _, none⟩) (show w1.heap.size < w4.heap.size by omega)] at x0 x1
  rw [← b5.cell (p := ⟨w1.heap.size + 1, _, none⟩) hlt4] at y0 y1 y2
  clear HB4 b5 hlt4 HP4 HS4 HC4 HW4 HT4
  simp only [decide_true]
  cases od with
  | none =>
    go_wp2_with fail
    refine (ldIntsZ_any ta _ tc pa _ pc w5 (unhide HT5) (unhide HW5)).mono ?_
    rintro e w6 ⟨rfl, b6⟩
    have HB6 := hide ((unhide HB5).trans (b6.mono (unhide HB5).size))
    clear b6 HB5 HP5 HS5 HC5 HT5 HW5
    simp only [decide_true]
    go_wp2_with fail
    go_ret
    exact ⟨by simp, unhide HB6⟩
  | some t =>
    simp only [Option.getD_some, Option.isSome_some] at *
    obtain ⟨hr0, hr1⟩ : 0 ≤ room ∧ room ≤ 999 := by
      obtain ⟨m, _, hd⟩ := do_parts (unhide HOD)
      have := formr (okz_form hd.ok)
      unfold repoB inB at this
      simp only [Bool.and_eq_true, decide_eq_true_eq] at this
      exact this.1.1.2
    have hmod : Int.tmod (n2 : Int) 40 = ((n2 % 40 : Nat) : Int) := by rw [Int.tmod_eq_emod_of_nonneg (by omega)]; omega
    have hm1 : (0 : Int) ≤ ((n2 % 40 : Nat) : Int) := by omega
    have hm2 : ((n2 % 40 : Nat) : Int) ≤ 999 := by omega
    generalize ((n2 % 40 : Nat) : Int) = more at hmod hm1 hm2
    have HZ := hide (roomZ_le hr1 hm1)
    have HCR := hide (fun x => ldRoom_any (.slice va l.length vc) room more hr0 hr1 hm1 hm2 x ⟨_, _, _, rfl⟩)
    have HOK2 := hide (do_more (unhide HOD) (unhide HZ).1 (unhide HZ).2)
    generalize roomZ room more = room2 at HOK2 HCR
    have HDO := hide (fun x (hx : Below w5.heap.size w5 x) => implStepDo_any va l vc room2 sa set sc s x ((unhide HP5).on hx) ((unhide HS5).on hx))
    rw [unhide HOK2] at HDO
    clear HZ HOK2 HOD hr0 hr1 hm1 hm2
    go_upto_region 8 with fail
    refine wp_region_headE 12 (by kernel_rfl) (by kernel_rfl) (by kernel_rfl) (by kernel_rfl) (by kernel_rfl) (TM (.agg #[.slice va l.length vc, .int .i64 room]) (.slice a2 n2 c2) (n2 : Int) more (.agg #[.slice va l.length vc, .int .i64 room2]) (.slice sa set.length sc) (.agg #[.int .i64 s.kind, .int .i64 s.inn, .int .i64 s.out]) w5.heap.size (some t)) (fun _ x => Hid (Below w5.heap.size w5 x)) (fun x y => Below x.heap.size x y) (fun i v x y h hb => TM_on h hb) (Below.refl _ _).drew ?_ ?_
    · intro i oo him hi ac x n hn ha HC hd
      have hC := unhide HC
      match i with
      | 0 =>
        simp at hi
        subst hi
        have e5 : ac.tmps[5]? = some (.pointer (some ⟨w1.heap.size, 0, none⟩)) := (ha.slot 5 (slots_no (by kernel_rfl))).trans rfl
        rw [← hC.cell (p := ⟨w1.heap.size, _, none⟩) (by simp; omega)] at x0 x1
        go_simp
        exact ⟨_, rfl, rfl, (by first | exact HC | exact True.intro), Below.refl _ _⟩
      | 1 =>
        simp at hi
        subst hi
        have e1 : ac.tmps[1]? = some (.slice a2 n2 c2) := (ha.slot 1 (slots_no (by kernel_rfl))).trans rfl
        go_simp
        exact ⟨_, rfl, rfl, (by first | exact HC | exact True.intro), Below.refl _ _⟩
      | 2 =>
        simp at hi
        subst hi
        have d1 := hd ⟨1, .data⟩ (by simp) rfl
        rw [valOf_at (d := 65) rfl] at d1
        have d1' : ac.tmps[65]?.getD undef = .slice a2 n2 c2 := d1
        go_simp
        exact ⟨_, rfl, rfl, (by first | exact HC | exact True.intro), Below.refl _ _⟩
      | 3 =>
        simp at hi
        subst hi
        have d2 := hd ⟨2, .data⟩ (by simp) rfl
        rw [valOf_at (d := 66) rfl] at d2
        have d2' : ac.tmps[66]?.getD undef = .int .i64 (n2 : Int) := d2
        go_simp
        exact ⟨_, rfl, rfl, (by first | exact HC | exact True.intro), Below.refl _ _⟩
      | 4 =>
        simp at hi
        subst hi
        have d0 := hd ⟨0, .data⟩ (by simp) rfl
        rw [valOf_at (d := 64) rfl] at d0
        have d0' : ac.tmps[64]?.getD undef = .agg #[.slice va l.length vc, .int .i64 room] := d0
        have d3 := hd ⟨3, .data⟩ (by simp) rfl
        rw [valOf_at (d := 67) rfl] at d3
        have d3' : ac.tmps[67]?.getD undef = .int .i64 more := d3
        go_simp
        refine (unhide HCR x).mono ?_
        rintro e y ⟨rfl, b3⟩
        exact ⟨_, rfl, rfl, hC.trans (b3.mono hC.size), b3⟩
      | 5 =>
        simp at hi
        subst hi
        have e6 : ac.tmps[6]? = some (.slice sa set.length sc) := (ha.slot 6 (slots_no (by kernel_rfl))).trans rfl
        go_simp
        exact ⟨_, rfl, rfl, (by first | exact HC | exact True.intro), Below.refl _ _⟩
      | 6 =>
        simp at hi
        subst hi
        have e7 : ac.tmps[7]? = some (.pointer (some ⟨w1.heap.size + 1, 0, none⟩)) := (ha.slot 7 (slots_no (by kernel_rfl))).trans rfl
        rw [← hC.cell (p := ⟨w1.heap.size + 1, _, none⟩) hlt5] at y0 y1 y2
        go_simp
        exact ⟨_, rfl, rfl, (by first | exact HC | exact True.intro), Below.refl _ _⟩
      | 7 =>
        simp at hi
        subst hi
        have d4 := hd ⟨4, .data⟩ (by simp) rfl
        rw [valOf_at (d := 68) rfl] at d4
        have d4' : ac.tmps[68]?.getD undef = .agg #[.slice va l.length vc, .int .i64 room2] := d4
        have d5 := hd ⟨5, .data⟩ (by simp) rfl
        rw [valOf_at (d := 69) rfl] at d5
        have d5' : ac.tmps[69]?.getD undef = .slice sa set.length sc := d5
        have d6 := hd ⟨6, .data⟩ (by simp) rfl
        rw [valOf_at (d := 70) rfl] at d6
        have d6' : ac.tmps[70]?.getD undef = .agg #[.int .i64 s.kind, .int .i64 s.inn, .int .i64 s.out] := d6
        go_simp
        refine (unhide HDO x hC).mono ?_
        rintro e y ⟨⟨v3, rfl, hr3⟩, b3⟩
        exact ⟨_, rfl, ⟨v3, rfl, row_down hr3 hC.size⟩, hC.trans (b3.mono hC.size), b3⟩
      | 8 =>
        simp at hi
        subst hi
        obtain ⟨u6, h6, r6⟩ := hd ⟨7, .data⟩ (by simp) rfl
        rw [valOf_at (d := 71) rfl] at h6
        have HR6 := hide r6
        clear r6
        go_simp
        exact ⟨_, rfl, ⟨u6, rfl, unhide HR6⟩, (by first | exact HC | exact True.intro), Below.refl _ _⟩
      | 9 =>
        simp at hi
        subst hi
        obtain ⟨u7, h7, r7⟩ := hd ⟨8, .data⟩ (by simp) rfl
        rw [valOf_at (d := 63) rfl] at h7
        have HR7 := hide r7
        clear r7
        go_simp
        exact ⟨_, rfl, unhide HR7, (by first | exact HC | exact True.intro), Below.refl _ _⟩
      | 10 =>
        simp at hi
        subst hi
        obtain ⟨u7, h7, r7⟩ := hd ⟨8, .data⟩ (by simp) rfl
        rw [valOf_at (d := 63) rfl] at h7
        clear r7
        go_simp
        exact ⟨_, rfl, rfl, (by first | exact HC | exact True.intro), Below.refl _ _⟩
      | 11 =>
        simp at hi
        subst hi
        have r8 := hd ⟨9, .data⟩ (by simp) rfl
        rw [valOf_at (d := 72) rfl] at r8
        have HR8 := hide r8
        clear r8
        go_simp
        exact ⟨_, rfl, unhide HR8, (by first | exact HC | exact True.intro), Below.refl _ _⟩
      | i + 12 => omega
    · intro ac w6 ha hT b6
      replace b6 := unhide b6
      have t28 : ac.tmps[73]?.getD undef = .bool true := by have := hT 10 (by omega); rwa [valOf_at (d := 73) rfl] at this
      have r27 : RowI w5.heap.size w6 (ac.tmps[12]?.getD undef) t := by have := hT 11 (by omega); rwa [valOf_at (d := 12) rfl] at this
      have hl := ha.list
      simp [slotOf, List.range_succ] at hl
      rw [hl]
      clear hl ha hT
      rw [t28]
      clear t28
      generalize ac.tmps[12]?.getD undef = u27 at r27
      obtain ⟨ba, bc, hu, hS6⟩ := RowI.set r27 (by omega)
      subst hu
      have HBK := hide hS6
      have HT6 := hide ((unhide HT5).on b6)
      have HB6 := hide ((unhide HB5).trans (b6.mono (unhide HB5).size))
      clear r27 hS6 b6 HB5 HT5 HDO HCR hmod
      go_wp2_with fail
      refine (ldIntsZ_any ba t bc ta t tc w6 (unhide HBK) (unhide HT6)).mono ?_
      rintro e w7 ⟨rfl, b7⟩
      have HB7 := hide ((unhide HB6).trans (b7.mono (unhide HB6).size))
      clear b7 HB6
      simp only [decide_true]
      go_wp2_with fail
      go_ret
      exact ⟨by simp, unhide HB7⟩
end Go.Proofs.Ythkhaemlcmkkjad
