/- The walk of the law FnPlanDo: of every code and every cut it answers true, and writes nothing that was there. -/
import Derived.Test.YthkhaemlcmkkjadDrawZ
import Derived.Test.YthkhaemlcmkkjadGPl
import Derived.Test.YthkhaemlcmkkjadSlS
import Derived.Test.YthkhaemlcmkkjadLdInts
namespace Go.Proofs.Ythkhaemlcmkkjad
set_option linter.unusedVariables false
set_option linter.unusedSimpArgs false
open Go.RowKit Go.Deep

set_option maxRecDepth 100000 in
set_option maxHeartbeats 8000000 in
theorem plando_law (a : Option Addr) (n c : Nat) (a2 : Option Addr) (n2 c2 : Nat) (w : World) (h : CodeAt w.heap.size w a n) (hc : n ≤ c) (hc2 : c ≤ maxLen) (hd : n2 ≤ c2) (hd2 : c2 ≤ maxLen) :
    Calls Try.prog 7 #[.slice a n c, .slice a2 n2 c2] w fun e w' => e = .returned (.bool true) ∧ Below w.heap.size w w' := by
  have hmx := hc2
  unfold maxLen at hmx
  have hmd := hd2
  unfold maxLen at hmd
  by_cases hbig : 1048576 < n
  · have hb' : (1048576 : Int) < (n : Int) := by omega
    go_enter Try.func7, Try.ntmps7
    go_wp2_with fail
    go_ret
    exact ⟨rfl, Below.refl _ _⟩
  have hb' : ¬ (1048576 : Int) < (n : Int) := by omega
  by_cases hbig2 : 1048576 < n2
  · have hb2' : (1048576 : Int) < (n2 : Int) := by omega
    go_enter Try.func7, Try.ntmps7
    go_wp2_with fail
    go_ret
    exact ⟨rfl, Below.refl _ _⟩
  have hb2' : ¬ (1048576 : Int) < (n2 : Int) := by omega
  go_enter Try.func7, Try.ntmps7
  go_wp2_with fail
  refine (DrawPlanDo_V a n c w h (by omega) hc hc2).mono ?_
  rintro e w1 ⟨⟨v, room, u, qv, rfl, hV, ⟨set, hrow, hsl⟩, ss, hst, hss⟩, b1⟩
  obtain ⟨va, vn, vc, rfl, _⟩ := SlBy.slice hV
  obtain ⟨l, rfl, hP⟩ := V2.packs hV
  obtain ⟨sa, sc, hu, hset⟩ := RowI.set hrow (by omega)
  subst hu
  obtain ⟨qa, qc, hu3, _, _, hSt⟩ := StepsAt.of_row hst (by omega)
  subst hu3
  have HSC : Hid (sa = none → sc = 0) := row_cap0 hrow
  have HPT := hide (fun k hk => steps_part (k := k) hst hk)
  have HC1 := hide (V2.caps hV hP)
  have HP1 := hide hP
  have HS1 := hide hset
  have HQ1 := hide hSt
  have HB1 := hide b1
  clear hV hrow hP hset b1 h hst hSt
  go_upto_region 4 with fail
  obtain ⟨w2, hw2⟩ : ∃ w2, w2 = w1.alloc (.cells #[.slice va l.length vc, .int .i64 room] 25) := ⟨_, rfl⟩
  rw [← hw2]
  have b2 : Below w1.heap.size w1 w2 := by rw [hw2]; exact (Below.refl _ _).alloc (Nat.le_refl _) _
  have x0 : w2.cell? ⟨w1.heap.size, 0, none⟩ = some (.slice va l.length vc) := by rw [hw2]; simp
  have x1 : w2.cell? ⟨w1.heap.size, 1, none⟩ = some (.int .i64 room) := by rw [hw2]; simp
  have hlt2 : w1.heap.size < w2.heap.size := by rw [hw2]; simp
  have HP2 := hide ((unhide HP1).on b2)
  have HS2 := hide ((unhide HS1).on b2)
  have HC2 := hide ((unhide HC1).on b2)
  have HQ2 := hide ((unhide HQ1).on b2)
  have HB2 := hide ((unhide HB1).trans (b2.mono (unhide HB1).size))
  clear hw2 b2 HP1 HS1 HB1 HC1 HQ1
  have hl8 := planZ_len (l := l) (room := room) (set := set) (ss := ss)
  go_wp2_with fail
  refine (specPlanDo_any va l vc room sa set sc qa ss qc w2 (unhide HP2) (unhide HC2) (unhide HS2) (unhide HSC) (unhide HQ2)).mono ?_
  rintro e w3 ⟨⟨v3, rfl, hr3⟩, b3⟩
  obtain ⟨pa, pc, rfl, hS3⟩ := RowI.set hr3 (by omega)
  have HW3 := hide hS3
  have HP3 := hide ((unhide HP2).on b3)
  have HS3 := hide ((unhide HS2).on b3)
  have HC3 := hide ((unhide HC2).on b3)
  have HQ3 := hide ((unhide HQ2).on b3)
  have HB3 := hide ((unhide HB2).trans (b3.mono (unhide HB2).size))
  have hlt3 : w1.heap.size < w3.heap.size := Nat.lt_of_lt_of_le hlt2 b3.size
  rw [← b3.cell (p := ⟨w1.heap.size, _, none⟩) hlt2] at x0 x1
  clear HB2 b3 hlt2 HP2 HS2 HC2 HQ2
  clear hr3 hS3
  have HOD : Hid (planZ l room set ss = planZ l room set ss) := rfl
  go_wp2_with fail
  refine (implPlanDo_any va l vc room sa set sc qa ss qc w3 (unhide HP3) (unhide HS3) (unhide HQ3)).mono ?_
  rintro e w4 ⟨⟨v4, rfl, hr4⟩, b4⟩
  obtain ⟨ta, tc, rfl, hS4⟩ := RowI.set hr4 (by omega)
  have HT4 := hide hS4
  have HP4 := hide ((unhide HP3).on b4)
  have HS4 := hide ((unhide HS3).on b4)
  have HC4 := hide ((unhide HC3).on b4)
  have HQ4 := hide ((unhide HQ3).on b4)
  have HW4 := hide ((unhide HW3).on b4)
  have HB4 := hide ((unhide HB3).trans (b4.mono (unhide HB3).size))
  have hlt4 : w1.heap.size < w4.heap.size := Nat.lt_of_lt_of_le hlt3 b4.size
  rw [← b4.cell (p := ⟨w1.heap.size, _, none⟩) hlt3] at x0 x1
  clear HB3 b4 hlt3 HP3 HS3 HC3 HQ3 HW3
  clear hr4 hS4
  generalize hod : planZ l room set ss = od at *
  replace HOD := hide hod
  clear hod
  go_wp2_with fail
  refine (ldIntsZ_any ta (od.getD []) tc pa (od.getD []) pc w4 (unhide HT4) (unhide HW4)).mono ?_
  rintro e w5 ⟨rfl, b5⟩
  have HP5 := hide ((unhide HP4).on b5)
  have HS5 := hide ((unhide HS4).on b5)
  have HC5 := hide ((unhide HC4).on b5)
  have HQ5 := hide ((unhide HQ4).on b5)
  have HW5 := hide ((unhide HW4).on b5)
  have HT5 := hide ((unhide HT4).on b5)
  have HB5 := hide ((unhide HB4).trans (b5.mono (unhide HB4).size))
  have hlt5 : w1.heap.size < w5.heap.size := Nat.lt_of_lt_of_le hlt4 b5.size
  rw [← b5.cell (p := ⟨w1.heap.size, _, none⟩) hlt4] at x0 x1
  clear HB4 b5 hlt4 HP4 HS4 HC4 HQ4 HW4 HT4
  simp only [decide_true]
  cases od with
  | none =>
    go_wp2_with fail
    refine (ldIntsZ_any ta _ tc pa _ pc w5 (unhide HT5) (unhide HW5)).mono ?_
    rintro e w6 ⟨rfl, b6⟩
    have HB6 := hide ((unhide HB5).trans (b6.mono (unhide HB5).size))
    clear b6 HB5 HP5 HS5 HC5 HT5 HW5 HQ5
    simp only [decide_true]
    go_wp2_with fail
    go_ret
    exact ⟨by simp, unhide HB6⟩
  | some t =>
    simp only [Option.getD_some, Option.isSome_some] at *
    obtain ⟨cut, hcut⟩ : ∃ cut, cut = n2 % (ss.length + 1) := ⟨_, rfl⟩
    have hcl : cut ≤ ss.length := by rw [hcut]; have := Nat.mod_lt n2 (show 0 < ss.length + 1 by omega); omega
    have hw1 : IntKind.i64.wrap ((ss.length : Int) + 1) = (ss.length : Int) + 1 := by rw [IntKind.wrap_i64]; omega
    have hmod : Int.tmod (n2 : Int) ((ss.length : Int) + 1) = (cut : Int) := by rw [Int.tmod_eq_emod_of_nonneg (by omega), hcut]; norm_cast
    have hnz : (((ss.length : Int) + 1) == 0) = false := by rw [beq_eq_false_iff_ne]; omega
    obtain ⟨hqc, hqm, da, dc, hfr0, hdr⟩ := unhide HPT cut hcl
    obtain ⟨x, hx1, hx2, _⟩ := plan_cut (unhide HOD) cut
    have hxl : x.length ≤ 8 := by
      have := planZ_len (l := l) (room := room) (set := set) (ss := ss.take cut)
      rw [hx1] at this
      exact this
    have htl : t.length ≤ 8 := hl8
    have e1 : (ss.take cut).length = cut := by simp; omega
    have e2 : (ss.drop cut).length = ss.length - cut := by simp
    obtain ⟨dx, hdx⟩ : ∃ dx, dx = some x := ⟨_, rfl⟩
    obtain ⟨dt, hdt⟩ : ∃ dt, dt = some t := ⟨_, rfl⟩
    have HDX := hide hdx
    have HDT := hide hdt
    have HCI := hide (fun y (hy : Below w5.heap.size w5 y) => (implPlanDo_any va l vc room sa set sc qa (ss.take cut) qc y ((unhide HP5).on hy) ((unhide HS5).on hy) (((unhide HQ5).on hy).take cut)))
    rw [e1, hx1, ← hdx] at HCI
    have HFR := hide hfr0
    have HDR := hide hdr
    have hm0 : (0 : Int) ≤ (cut : Int) := by omega
    have hm1 : (cut : Int) ≤ (qc : Int) := by omega
    clear hfr0 hdr hcut e1 hdx hdt HPT hx1 hqm
    go_wp2_with fail
    go_upto_region 9 with fail
    refine wp_region_headE 10 (by kernel_rfl) (by kernel_rfl) (by kernel_rfl) (by kernel_rfl) (by kernel_rfl) (TH (.agg #[.slice va l.length vc, .int .i64 room]) (.slice sa set.length sc) (.slice qa ss.length qc) (.slice qa cut qc) (cut : Int) w5.heap.size dx) (fun _ x => Hid (Below w5.heap.size w5 x)) (fun x y => Below x.heap.size x y) (fun i v x y h hb => TH_on h hb) (Below.refl _ _).drew ?_ ?_
    · intro i oo him hi ac xx n hn ha HC hd
      have hC := unhide HC
      match i with
      | 0 =>
        simp at hi
        subst hi
        have e5 : ac.tmps[5]? = some (.pointer (some ⟨w1.heap.size, 0, none⟩)) := (ha.slot 5 (slots_no (by kernel_rfl))).trans rfl
        rw [← hC.cell (p := ⟨w1.heap.size, _, none⟩) hlt5] at x0 x1
        go_simp
        exact ⟨_, rfl, rfl, (by first | exact HC | exact True.intro), Below.refl _ _⟩
      | 1 =>
        simp at hi
        subst hi
        have e6 : ac.tmps[6]? = some (.slice sa set.length sc) := (ha.slot 6 (slots_no (by kernel_rfl))).trans rfl
        go_simp
        exact ⟨_, rfl, rfl, (by first | exact HC | exact True.intro), Below.refl _ _⟩
      | 2 =>
        simp at hi
        subst hi
        have e7 : ac.tmps[7]? = some (.slice qa ss.length qc) := (ha.slot 7 (slots_no (by kernel_rfl))).trans rfl
        go_simp
        exact ⟨_, rfl, rfl, (by first | exact HC | exact True.intro), Below.refl _ _⟩
      | 3 =>
        simp at hi
        subst hi
        have e12 : ac.tmps[12]? = some (.int .i64 (cut : Int)) := (ha.slot 12 (slots_no (by kernel_rfl))).trans rfl
        go_simp
        exact ⟨_, rfl, rfl, (by first | exact HC | exact True.intro), Below.refl _ _⟩
      | 4 =>
        simp at hi
        subst hi
        have d2 := hd ⟨2, .data⟩ (by simp) rfl
        rw [valOf_at (d := 75) rfl] at d2
        have d2' : ac.tmps[75]?.getD undef = .slice qa ss.length qc := d2
        have d3 := hd ⟨3, .data⟩ (by simp) rfl
        rw [valOf_at (d := 76) rfl] at d3
        have d3' : ac.tmps[76]?.getD undef = .int .i64 (cut : Int) := d3
        go_simp
        exact ⟨_, rfl, rfl, (by first | exact HC | exact True.intro), Below.refl _ _⟩
      | 5 =>
        simp at hi
        subst hi
        have d0 := hd ⟨0, .data⟩ (by simp) rfl
        rw [valOf_at (d := 73) rfl] at d0
        have d0' : ac.tmps[73]?.getD undef = .agg #[.slice va l.length vc, .int .i64 room] := d0
        have d1 := hd ⟨1, .data⟩ (by simp) rfl
        rw [valOf_at (d := 74) rfl] at d1
        have d1' : ac.tmps[74]?.getD undef = .slice sa set.length sc := d1
        have d4 := hd ⟨4, .data⟩ (by simp) rfl
        rw [valOf_at (d := 77) rfl] at d4
        have d4' : ac.tmps[77]?.getD undef = .slice qa cut qc := d4
        go_simp
        refine (unhide HCI xx hC).mono ?_
        rintro e y ⟨⟨v3, rfl, hr3⟩, b3⟩
        exact ⟨_, rfl, ⟨v3, rfl, row_down hr3 hC.size⟩, hC.trans (b3.mono hC.size), b3⟩
      | 6 =>
        simp at hi
        subst hi
        obtain ⟨u6, h6, r6⟩ := hd ⟨5, .data⟩ (by simp) rfl
        rw [valOf_at (d := 78) rfl] at h6
        have HR6 := hide r6
        clear r6
        go_simp
        exact ⟨_, rfl, ⟨u6, rfl, unhide HR6⟩, (by first | exact HC | exact True.intro), Below.refl _ _⟩
      | 7 =>
        simp at hi
        subst hi
        obtain ⟨u7, h7, r7⟩ := hd ⟨6, .data⟩ (by simp) rfl
        rw [valOf_at (d := 72) rfl] at h7
        have HR7 := hide r7
        clear r7
        go_simp
        exact ⟨_, rfl, unhide HR7, (by first | exact HC | exact True.intro), Below.refl _ _⟩
      | 8 =>
        simp at hi
        subst hi
        obtain ⟨u7, h7, r7⟩ := hd ⟨6, .data⟩ (by simp) rfl
        rw [valOf_at (d := 72) rfl] at h7
        clear r7
        go_simp
        exact ⟨_, rfl, rfl, (by first | exact HC | exact True.intro), Below.refl _ _⟩
      | 9 =>
        simp at hi
        subst hi
        have r8 := hd ⟨7, .data⟩ (by simp) rfl
        rw [valOf_at (d := 79) rfl] at r8
        have HR8 := hide r8
        clear r8
        go_simp
        exact ⟨_, rfl, unhide HR8, (by first | exact HC | exact True.intro), Below.refl _ _⟩
      | i + 10 => omega
    · intro ac w6 ha hT b6
      replace b6 := unhide b6
      have t28 : ac.tmps[80]?.getD undef = .bool dx.isSome := by have := hT 8 (by omega); rwa [valOf_at (d := 80) rfl] at this
      have r27 : RowI w5.heap.size w6 (ac.tmps[13]?.getD undef) (dx.getD []) := by have := hT 9 (by omega); rwa [valOf_at (d := 13) rfl] at this
      have hl := ha.list
      simp [slotOf, List.range_succ] at hl
      rw [hl]
      clear hl ha hT
      rw [t28]
      clear t28
      generalize ac.tmps[13]?.getD undef = u27 at r27
      rw [unhide HDX] at r27 ⊢
      simp only [Option.getD_some, Option.isSome_some] at r27 ⊢
      obtain ⟨ya, yc, hyv, hy6⟩ := RowI.set r27 (by omega)
      subst hyv
      have HY6 := hide hy6
      have HP6 := hide ((unhide HP5).on b6)
      have HS6 := hide ((unhide HS5).on b6)
      have HC6 := hide ((unhide HC5).on b6)
      have HQ6 := hide ((unhide HQ5).on b6)
      have HT6 := hide ((unhide HT5).on b6)
      have HW6 := hide ((unhide HW5).on b6)
      have HB6 := hide ((unhide HB5).trans (b6.mono (unhide HB5).size))
      have hlt6 : w1.heap.size < w6.heap.size := Nat.lt_of_lt_of_le hlt5 b6.size
      rw [← b6.cell (p := ⟨w1.heap.size, _, none⟩) hlt5] at x0 x1
      clear HB5 b6 hlt5 HP5 HS5 HC5 HQ5 HT5 HW5
      clear r27 hy6 HCI
      have HCJ := hide (fun y (hy : Below w6.heap.size w6 y) => (implPlanDo_any va l vc room ya x yc da (ss.drop cut) dc y ((unhide HP6).on hy) ((unhide HY6).on hy) (unhide HDR _ ((unhide HQ6).on hy))))
      rw [e2, hx2, ← unhide HDT] at HCJ
      have hfr := unhide HFR
      clear HFR HDR hx2 e2
      go_wp2_with fail
      go_upto_region 10 with fail
      refine wp_region_headE 10 (by kernel_rfl) (by kernel_rfl) (by kernel_rfl) (by kernel_rfl) (by kernel_rfl) (TH (.agg #[.slice va l.length vc, .int .i64 room]) (.slice ya x.length yc) (.slice qa ss.length qc) (.slice da (ss.length - cut) dc) (cut : Int) w6.heap.size dt) (fun _ x => Hid (Below w6.heap.size w6 x)) (fun x y => Below x.heap.size x y) (fun i v x y h hb => TH_on h hb) (Below.refl _ _).drew ?_ ?_
      · intro i oo him hi ac xx n hn ha HC hd
        have hC := unhide HC
        match i with
        | 0 =>
          simp at hi
          subst hi
          have e5 : ac.tmps[5]? = some (.pointer (some ⟨w1.heap.size, 0, none⟩)) := (ha.slot 5 (slots_no (by kernel_rfl))).trans rfl
          rw [← hC.cell (p := ⟨w1.heap.size, _, none⟩) hlt6] at x0 x1
          go_simp
          exact ⟨_, rfl, rfl, (by first | exact HC | exact True.intro), Below.refl _ _⟩
        | 1 =>
          simp at hi
          subst hi
          have e13 : ac.tmps[13]? = some (.slice ya x.length yc) := (ha.slot 13 (slots_no (by kernel_rfl))).trans rfl
          go_simp
          exact ⟨_, rfl, rfl, (by first | exact HC | exact True.intro), Below.refl _ _⟩
        | 2 =>
          simp at hi
          subst hi
          have e7 : ac.tmps[7]? = some (.slice qa ss.length qc) := (ha.slot 7 (slots_no (by kernel_rfl))).trans rfl
          go_simp
          exact ⟨_, rfl, rfl, (by first | exact HC | exact True.intro), Below.refl _ _⟩
        | 3 =>
          simp at hi
          subst hi
          have e12 : ac.tmps[12]? = some (.int .i64 (cut : Int)) := (ha.slot 12 (slots_no (by kernel_rfl))).trans rfl
          go_simp
          exact ⟨_, rfl, rfl, (by first | exact HC | exact True.intro), Below.refl _ _⟩
        | 4 =>
          simp at hi
          subst hi
          have d2 := hd ⟨2, .data⟩ (by simp) rfl
          rw [valOf_at (d := 84) rfl] at d2
          have d2' : ac.tmps[84]?.getD undef = .slice qa ss.length qc := d2
          have d3 := hd ⟨3, .data⟩ (by simp) rfl
          rw [valOf_at (d := 85) rfl] at d3
          have d3' : ac.tmps[85]?.getD undef = .int .i64 (cut : Int) := d3
          rcases hfr with ⟨rfl, rfl, hk0, ⟨rfl, rfl⟩, hn0⟩ | ⟨g, rfl, hqk, rfl, rfl⟩ | ⟨g, rfl, hqk, rfl, rfl⟩
          · simp only [hk0, hn0] at d2' d3' ⊢
            go_simp
            exact ⟨_, rfl, by first | rfl | simp [TH], (by first | exact HC | exact True.intro), Below.refl _ _⟩
          · have hqk' : qc - cut = 0 := by omega
            go_simp
            exact ⟨_, rfl, by first | rfl | simp [TH, hqk'], (by first | exact HC | exact True.intro), Below.refl _ _⟩
          · have hqk' : ¬ qc = cut := hqk
            go_simp
            exact ⟨_, rfl, by first | rfl | simp [TH, Addr.add], (by first | exact HC | exact True.intro), Below.refl _ _⟩
        | 5 =>
          simp at hi
          subst hi
          have d0 := hd ⟨0, .data⟩ (by simp) rfl
          rw [valOf_at (d := 82) rfl] at d0
          have d0' : ac.tmps[82]?.getD undef = .agg #[.slice va l.length vc, .int .i64 room] := d0
          have d1 := hd ⟨1, .data⟩ (by simp) rfl
          rw [valOf_at (d := 83) rfl] at d1
          have d1' : ac.tmps[83]?.getD undef = .slice ya x.length yc := d1
          have d4 := hd ⟨4, .data⟩ (by simp) rfl
          rw [valOf_at (d := 86) rfl] at d4
          have d4' : ac.tmps[86]?.getD undef = .slice da (ss.length - cut) dc := d4
          go_simp
          refine (unhide HCJ xx hC).mono ?_
          rintro e y ⟨⟨v3, rfl, hr3⟩, b3⟩
          exact ⟨_, rfl, ⟨v3, rfl, row_down hr3 hC.size⟩, hC.trans (b3.mono hC.size), b3⟩
        | 6 =>
          simp at hi
          subst hi
          obtain ⟨u6, h6, r6⟩ := hd ⟨5, .data⟩ (by simp) rfl
          rw [valOf_at (d := 87) rfl] at h6
          have HR6 := hide r6
          clear r6
          go_simp
          exact ⟨_, rfl, ⟨u6, rfl, unhide HR6⟩, (by first | exact HC | exact True.intro), Below.refl _ _⟩
        | 7 =>
          simp at hi
          subst hi
          obtain ⟨u7, h7, r7⟩ := hd ⟨6, .data⟩ (by simp) rfl
          rw [valOf_at (d := 81) rfl] at h7
          have HR7 := hide r7
          clear r7
          go_simp
          exact ⟨_, rfl, unhide HR7, (by first | exact HC | exact True.intro), Below.refl _ _⟩
        | 8 =>
          simp at hi
          subst hi
          obtain ⟨u7, h7, r7⟩ := hd ⟨6, .data⟩ (by simp) rfl
          rw [valOf_at (d := 81) rfl] at h7
          clear r7
          go_simp
          exact ⟨_, rfl, rfl, (by first | exact HC | exact True.intro), Below.refl _ _⟩
        | 9 =>
          simp at hi
          subst hi
          have r8 := hd ⟨7, .data⟩ (by simp) rfl
          rw [valOf_at (d := 88) rfl] at r8
          have HR8 := hide r8
          clear r8
          go_simp
          exact ⟨_, rfl, unhide HR8, (by first | exact HC | exact True.intro), Below.refl _ _⟩
        | i + 10 => omega
      · intro ac w7 ha hT b7
        replace b7 := unhide b7
        have t28 : ac.tmps[89]?.getD undef = .bool dt.isSome := by have := hT 8 (by omega); rwa [valOf_at (d := 89) rfl] at this
        have r27 : RowI w6.heap.size w7 (ac.tmps[15]?.getD undef) (dt.getD []) := by have := hT 9 (by omega); rwa [valOf_at (d := 15) rfl] at this
        have hl := ha.list
        simp [slotOf, List.range_succ] at hl
        rw [hl]
        clear hl ha hT
        rw [t28]
        clear t28
        generalize ac.tmps[15]?.getD undef = u27 at r27
        rw [unhide HDT] at r27 ⊢
        simp only [Option.getD_some, Option.isSome_some] at r27 ⊢
        obtain ⟨za, zc, hzv, hz7⟩ := RowI.set r27 (by omega)
        subst hzv
        have HZ7 := hide hz7
        have HP7 := hide ((unhide HP6).on b7)
        have HS7 := hide ((unhide HS6).on b7)
        have HC7 := hide ((unhide HC6).on b7)
        have HQ7 := hide ((unhide HQ6).on b7)
        have HT7 := hide ((unhide HT6).on b7)
        have HW7 := hide ((unhide HW6).on b7)
        have HB7 := hide ((unhide HB6).trans (b7.mono (unhide HB6).size))
        have hlt7 : w1.heap.size < w7.heap.size := Nat.lt_of_lt_of_le hlt6 b7.size
        rw [← b7.cell (p := ⟨w1.heap.size, _, none⟩) hlt6] at x0 x1
        clear HB6 b7 hlt6 HP6 HS6 HC6 HQ6 HT6 HW6
        clear r27 hz7 HCJ hfr
        go_wp2_with fail
        refine (ldIntsZ_any za t zc ta t tc w7 (unhide HZ7) (unhide HT7)).mono ?_
        rintro e w8 ⟨rfl, b8⟩
        have HB8 := hide ((unhide HB7).trans (b8.mono (unhide HB7).size))
        clear b8 HB7
        simp only [decide_true]
        go_wp2_with fail
        go_ret
        exact ⟨by simp, unhide HB8⟩
end Go.Proofs.Ythkhaemlcmkkjad
