/- The walk of the law FnPlanHealthy: of every code it answers true, and writes nothing that was there. -/
import Derived.Test.YthkhaemlcmkkjafDrawZ
import Derived.Test.YthkhaemlcmkkjafGPl
import Derived.Test.YthkhaemlcmkkjafSlS
import Derived.Test.YthkhaemlcmkkjafLdInts
import Derived.Test.YthkhaemlcmkkjafFormC
namespace Go.Proofs.Ythkhaemlcmkkjaf
set_option linter.unusedVariables false
set_option linter.unusedSimpArgs false
open Go.RowKit Go.Deep

set_option maxRecDepth 100000 in
set_option maxHeartbeats 8000000 in
theorem planhealthy_law (a : Option Addr) (n c : Nat) (w : World) (h : CodeAt w.heap.size w a n) (hc : n ≤ c) (hc2 : c ≤ maxLen) :
    Calls Try.prog 3 #[.slice a n c] w fun e w' => e = .returned (.bool true) ∧ Below w.heap.size w w' := by
  have hmx := hc2
  unfold maxLen at hmx
  by_cases hbig : 1048576 < n
  · have hb' : (1048576 : Int) < (n : Int) := by omega
    go_enter Try.func3, Try.ntmps3
    go_wp2_with fail
    go_ret
    exact ⟨rfl, Below.refl _ _⟩
  have hb' : ¬ (1048576 : Int) < (n : Int) := by omega
  go_enter Try.func3, Try.ntmps3
  go_wp2_with fail
  refine (DrawPlanDo_V a n c w h (by omega) hc hc2).mono ?_
  rintro e w1 ⟨⟨v, room, u, qv, rfl, hV, ⟨set, hrow, hsl⟩, ss, hst, hss⟩, b1⟩
  obtain ⟨va, vn, vc, rfl, _⟩ := SlBy.slice hV
  obtain ⟨l, rfl, hP⟩ := V2.packs hV
  obtain ⟨sa, sc, hu, hset⟩ := RowI.set hrow (by omega)
  subst hu
  obtain ⟨qa, qc, hu3, _, _, hSt⟩ := StepsAt.of_row hst (by omega)
  subst hu3
  have HSC : Hid (sa = none → sc = 0) := row_cap0 hrow
  have HPT := hide (fun k hk => steps_part (k := k) hst hk)
  have HC1 := hide (V2.caps hV hP)
  have HP1 := hide hP
  have HS1 := hide hset
  have HQ1 := hide hSt
  have HB1 := hide b1
  clear hV hrow hP hset b1 h hst hSt
  go_upto_region 4 with fail
  obtain ⟨w2, hw2⟩ : ∃ w2, w2 = w1.alloc (.cells #[.slice va l.length vc, .int .i64 room] 25) := ⟨_, rfl⟩
  rw [← hw2]
  have b2 : Below w1.heap.size w1 w2 := by rw [hw2]; exact (Below.refl _ _).alloc (Nat.le_refl _) _
  have x0 : w2.cell? ⟨w1.heap.size, 0, none⟩ = some (.slice va l.length vc) := by rw [hw2]; simp
  have x1 : w2.cell? ⟨w1.heap.size, 1, none⟩ = some (.int .i64 room) := by rw [hw2]; simp
  have hlt2 : w1.heap.size < w2.heap.size := by rw [hw2]; simp
  have HP2 := hide ((unhide HP1).on b2)
  have HS2 := hide ((unhide HS1).on b2)
  have HC2 := hide ((unhide HC1).on b2)
  have HQ2 := hide ((unhide HQ1).on b2)
  have HB2 := hide ((unhide HB1).trans (b2.mono (unhide HB1).size))
  clear hw2 b2 HP1 HS1 HB1 HC1 HQ1
  have hl8 := planZ_len (l := l) (room := room) (set := set) (ss := ss)
  go_wp2_with fail
  refine (specPlanDo_any va l vc room sa set sc qa ss qc w2 (unhide HP2) (unhide HC2) (unhide HS2) (unhide HSC) (unhide HQ2)).mono ?_
  rintro e w3 ⟨⟨v3, rfl, hr3⟩, b3⟩
  obtain ⟨pa, pc, rfl, hS3⟩ := RowI.set hr3 (by omega)
  have HW3 := hide hS3
  have HP3 := hide ((unhide HP2).on b3)
  have HS3 := hide ((unhide HS2).on b3)
  have HC3 := hide ((unhide HC2).on b3)
  have HQ3 := hide ((unhide HQ2).on b3)
  have HB3 := hide ((unhide HB2).trans (b3.mono (unhide HB2).size))
  have hlt3 : w1.heap.size < w3.heap.size := Nat.lt_of_lt_of_le hlt2 b3.size
  rw [← b3.cell (p := ⟨w1.heap.size, _, none⟩) hlt2] at x0 x1
  clear HB2 b3 hlt2 HP2 HS2 HC2 HQ2
  clear hr3 hS3
  have HOD : Hid (planZ l room set ss = planZ l room set ss) := rfl
  go_wp2_with fail
  refine (implPlanDo_any va l vc room sa set sc qa ss qc w3 (unhide HP3) (unhide HS3) (unhide HQ3)).mono ?_
  rintro e w4 ⟨⟨v4, rfl, hr4⟩, b4⟩
  obtain ⟨ta, tc, rfl, hS4⟩ := RowI.set hr4 (by omega)
  have HT4 := hide hS4
  have HP4 := hide ((unhide HP3).on b4)
  have HS4 := hide ((unhide HS3).on b4)
  have HC4 := hide ((unhide HC3).on b4)
  have HQ4 := hide ((unhide HQ3).on b4)
  have HW4 := hide ((unhide HW3).on b4)
  have HB4 := hide ((unhide HB3).trans (b4.mono (unhide HB3).size))
  have hlt4 : w1.heap.size < w4.heap.size := Nat.lt_of_lt_of_le hlt3 b4.size
  rw [← b4.cell (p := ⟨w1.heap.size, _, none⟩) hlt3] at x0 x1
  clear HB3 b4 hlt3 HP3 HS3 HC3 HQ3 HW3
  clear hr4 hS4
  generalize hod : planZ l room set ss = od at *
  replace HOD := hide hod
  clear hod
  go_wp2_with fail
  refine (ldIntsZ_any ta (od.getD []) tc pa (od.getD []) pc w4 (unhide HT4) (unhide HW4)).mono ?_
  rintro e w5 ⟨rfl, b5⟩
  have HP5 := hide ((unhide HP4).on b5)
  have HS5 := hide ((unhide HS4).on b5)
  have HC5 := hide ((unhide HC4).on b5)
  have HQ5 := hide ((unhide HQ4).on b5)
  have HW5 := hide ((unhide HW4).on b5)
  have HT5 := hide ((unhide HT4).on b5)
  have HB5 := hide ((unhide HB4).trans (b5.mono (unhide HB4).size))
  have hlt5 : w1.heap.size < w5.heap.size := Nat.lt_of_lt_of_le hlt4 b5.size
  rw [← b5.cell (p := ⟨w1.heap.size, _, none⟩) hlt4] at x0 x1
  clear HB4 b5 hlt4 HP4 HS4 HC4 HQ4 HW4 HT4
  simp only [decide_true]
  cases od with
  | none =>
    go_wp2_with fail
    refine (ldIntsZ_any ta _ tc pa _ pc w5 (unhide HT5) (unhide HW5)).mono ?_
    rintro e w6 ⟨rfl, b6⟩
    have HB6 := hide ((unhide HB5).trans (b6.mono (unhide HB5).size))
    clear b6 HB5 HP5 HS5 HC5 HT5 HW5 HQ5
    simp only [decide_true]
    go_wp2_with fail
    go_ret
    exact ⟨by simp, unhide HB6⟩
  | some t =>
    simp only [Option.getD_some, Option.isSome_some] at *
    have HRV := HOD
    clear HW5 HT5
    go_wp2_with fail
    go_loopw [10] (fun i wr => ∃ k : Nat, k ≤ ss.length + 1 ∧ i = .int .i64 k ∧ Hid (Below w5.heap.size w5 wr)) (fun i _ => ss.length + 1 - (intOf i).toNat)
    case atStart => exact ⟨0, Nat.zero_le _, rfl, Below.refl _ _⟩
    case round =>
      rename World => wo
      obtain ⟨k, hk, rfl, HBO⟩ := hrel
      have hzo := (unhide HBO).size
      by_cases hlt : k ≤ ss.length
      · have j1 : (k : Int) ≤ (ss.length : Int) := by omega
        have j0 : (0 : Int) ≤ (k : Int) := by omega
        have y0 := x0
        have y1 := x1
        rw [← (unhide HBO).cell (p := ⟨w1.heap.size, _, none⟩) hlt5] at y0 y1
        have hlto : w1.heap.size < wo.heap.size := by omega
        obtain ⟨hqc, hqm, _⟩ := unhide HPT k hlt
        obtain ⟨x, hx1, _, hxok⟩ := plan_cut (unhide HRV) k
        have hxl : x.length ≤ 8 := by
          have := planZ_len (l := l) (room := room) (set := set) (ss := ss.take k)
          rw [hx1] at this
          exact this
        have e1 : (ss.take k).length = k := by simp; omega
        obtain ⟨dx, hdx⟩ : ∃ dx, dx = some x := ⟨_, rfl⟩
        have HDX := hide hdx
        have HCI := hide (fun y (hy : Below wo.heap.size wo y) => (implPlanDo_any va l vc room sa set sc qa (ss.take k) qc y (((unhide HP5).on (unhide HBO)).on hy) (((unhide HS5).on (unhide HBO)).on hy) ((((unhide HQ5).on (unhide HBO)).on hy).take k)))
        rw [e1, hx1, ← hdx] at HCI
        have hm1 : (k : Int) ≤ (qc : Int) := by omega
        have HXO := hide hxok
        clear e1 hdx hx1 hqm hxok
        go_wp2_with fail
        go_upto_region 11 with fail
        refine wp_region_headE 10 (by kernel_rfl) (by kernel_rfl) (by kernel_rfl) (by kernel_rfl) (by kernel_rfl) (TH (.agg #[.slice va l.length vc, .int .i64 room]) (.slice sa set.length sc) (.slice qa ss.length qc) (.slice qa k qc) (k : Int) wo.heap.size dx) (fun _ x => Hid (Below wo.heap.size wo x)) (fun x y => Below x.heap.size x y) (fun i v x y h hb => TH_on h hb) (Below.refl _ _).drew ?_ ?_
        · intro i oo him hi ac xx n hn ha HC hd
          have hC := unhide HC
          match i with
          | 0 =>
            simp at hi
            subst hi
            have e3 : ac.tmps[3]? = some (.pointer (some ⟨w1.heap.size, 0, none⟩)) := (ha.slot 3 (slots_no (by kernel_rfl))).trans rfl
            rw [← hC.cell (p := ⟨w1.heap.size, _, none⟩) hlto] at y0 y1
            go_simp
            exact ⟨_, rfl, rfl, (by first | exact HC | exact True.intro), Below.refl _ _⟩
          | 1 =>
            simp at hi
            subst hi
            have e4 : ac.tmps[4]? = some (.slice sa set.length sc) := (ha.slot 4 (slots_no (by kernel_rfl))).trans rfl
            go_simp
            exact ⟨_, rfl, rfl, (by first | exact HC | exact True.intro), Below.refl _ _⟩
          | 2 =>
            simp at hi
            subst hi
            have e5 : ac.tmps[5]? = some (.slice qa ss.length qc) := (ha.slot 5 (slots_no (by kernel_rfl))).trans rfl
            go_simp
            exact ⟨_, rfl, rfl, (by first | exact HC | exact True.intro), Below.refl _ _⟩
          | 3 =>
            simp at hi
            subst hi
            have e10 : ac.tmps[10]? = some (.int .i64 (k : Int)) := (ha.slot 10 (slots_no (by kernel_rfl))).trans rfl
            go_simp
            exact ⟨_, rfl, rfl, (by first | exact HC | exact True.intro), Below.refl _ _⟩
          | 4 =>
            simp at hi
            subst hi
            have d2 := hd ⟨2, .data⟩ (by simp) rfl
            rw [valOf_at (d := 66) rfl] at d2
            have d2' : ac.tmps[66]?.getD undef = .slice qa ss.length qc := d2
            have d3 := hd ⟨3, .data⟩ (by simp) rfl
            rw [valOf_at (d := 67) rfl] at d3
            have d3' : ac.tmps[67]?.getD undef = .int .i64 (k : Int) := d3
            go_simp
            exact ⟨_, rfl, rfl, (by first | exact HC | exact True.intro), Below.refl _ _⟩
          | 5 =>
            simp at hi
            subst hi
            have d0 := hd ⟨0, .data⟩ (by simp) rfl
            rw [valOf_at (d := 64) rfl] at d0
            have d0' : ac.tmps[64]?.getD undef = .agg #[.slice va l.length vc, .int .i64 room] := d0
            have d1 := hd ⟨1, .data⟩ (by simp) rfl
            rw [valOf_at (d := 65) rfl] at d1
            have d1' : ac.tmps[65]?.getD undef = .slice sa set.length sc := d1
            have d4 := hd ⟨4, .data⟩ (by simp) rfl
            rw [valOf_at (d := 68) rfl] at d4
            have d4' : ac.tmps[68]?.getD undef = .slice qa k qc := d4
            go_simp
            refine (unhide HCI xx hC).mono ?_
            rintro e y ⟨⟨v3, rfl, hr3⟩, b3⟩
            exact ⟨_, rfl, ⟨v3, rfl, row_down hr3 hC.size⟩, hC.trans (b3.mono hC.size), b3⟩
          | 6 =>
            simp at hi
            subst hi
            obtain ⟨u6, h6, r6⟩ := hd ⟨5, .data⟩ (by simp) rfl
            rw [valOf_at (d := 69) rfl] at h6
            have HR6 := hide r6
            clear r6
            go_simp
            exact ⟨_, rfl, ⟨u6, rfl, unhide HR6⟩, (by first | exact HC | exact True.intro), Below.refl _ _⟩
          | 7 =>
            simp at hi
            subst hi
            obtain ⟨u7, h7, r7⟩ := hd ⟨6, .data⟩ (by simp) rfl
            rw [valOf_at (d := 63) rfl] at h7
            have HR7 := hide r7
            clear r7
            go_simp
            exact ⟨_, rfl, unhide HR7, (by first | exact HC | exact True.intro), Below.refl _ _⟩
          | 8 =>
            simp at hi
            subst hi
            obtain ⟨u7, h7, r7⟩ := hd ⟨6, .data⟩ (by simp) rfl
            rw [valOf_at (d := 63) rfl] at h7
            clear r7
            go_simp
            exact ⟨_, rfl, rfl, (by first | exact HC | exact True.intro), Below.refl _ _⟩
          | 9 =>
            simp at hi
            subst hi
            have r8 := hd ⟨7, .data⟩ (by simp) rfl
            rw [valOf_at (d := 70) rfl] at r8
            have HR8 := hide r8
            clear r8
            go_simp
            exact ⟨_, rfl, unhide HR8, (by first | exact HC | exact True.intro), Below.refl _ _⟩
          | i + 10 => omega
        · intro ac w6 ha hT b6
          replace b6 := unhide b6
          have t28 : ac.tmps[71]?.getD undef = .bool dx.isSome := by have := hT 8 (by omega); rwa [valOf_at (d := 71) rfl] at this
          have r27 : RowI wo.heap.size w6 (ac.tmps[11]?.getD undef) (dx.getD []) := by have := hT 9 (by omega); rwa [valOf_at (d := 11) rfl] at this
          have hl := ha.list
          simp [slotOf, List.range_succ] at hl
          rw [hl]
          clear hl ha hT
          rw [t28]
          clear t28
          generalize ac.tmps[11]?.getD undef = u27 at r27
          rw [unhide HDX] at r27 ⊢
          simp only [Option.getD_some, Option.isSome_some] at r27 ⊢
          obtain ⟨ya, yc, hyv, hy6⟩ := RowI.set r27 (by omega)
          subst hyv
          have HB6 := hide ((unhide HBO).trans (b6.mono (unhide HBO).size))
          have HSK := hide (implStateOk_any va l vc room ya x yc w6 (((unhide HP5).on (unhide HBO)).on b6) hy6)
          rw [unhide HXO] at HSK
          rw [← b6.cell (p := ⟨w1.heap.size, _, none⟩) hlto] at y0 y1
          clear r27 hy6 HCI b6 HBO
          go_wp2_with fail
          refine (unhide HSK).mono ?_
          rintro e w7 ⟨rfl, b7⟩
          have HB7 := hide ((unhide HB6).trans (b7.mono (unhide HB6).size))
          clear b7 HB6 HSK
          go_wp2_with fail
          go_roundw
          case rel => exact ⟨k + 1, by omega, by go_num, HB7⟩
          case measure => simp [intOf]; omega
      · have j1 : ¬ (k : Int) ≤ (ss.length : Int) := by omega
        have HB6 := hide ((unhide HB5).trans ((unhide HBO).mono (unhide HB5).size))
        clear HBO HB5
        go_wp2_with fail
        go_ret
        exact ⟨rfl, unhide HB6⟩
end Go.Proofs.Ythkhaemlcmkkjaf
