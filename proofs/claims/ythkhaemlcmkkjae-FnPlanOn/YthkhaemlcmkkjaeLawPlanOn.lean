/- The walk of the law FnPlanOn: of every code and every cut it answers true, and writes nothing that was there. -/
import Derived.Test.YthkhaemlcmkkjaeDrawPF
import Derived.Test.YthkhaemlcmkkjaeGPl
import Derived.Test.YthkhaemlcmkkjaeStepsA
import Derived.Test.YthkhaemlcmkkjaeGSf
import Derived.Test.YthkhaemlcmkkjaeGRf
import Derived.Test.YthkhaemlcmkkjaePfT
import Derived.Test.YthkhaemlcmkkjaeGForm
import Derived.Test.YthkhaemlcmkkjaeGSv
import Derived.Test.YthkhaemlcmkkjaeSlS
namespace Go.Proofs.Ythkhaemlcmkkjae
set_option linter.unusedVariables false
set_option linter.unusedSimpArgs false
open Go.RowKit Go.Deep

theorem planTo_cut {l : List PackD} {room : Int} {b : Nat} (cut : Nat) : ∀ n s : Nat, GoodS l room s → distB l room s b = n + 1 → cut ≤ n → ∃ t, GoodS l room t ∧ distB l room t b = n - cut + 1 ∧ planDo l room (setOf s) ((planTo l room b n s).take cut) = some (setOf t) ∧ (planTo l room b n s).drop cut = planTo l room b (n - cut) t := by
  induction cut with
  | zero =>
    intro n s hs h _
    exact ⟨s, hs, by simpa using h, by simp only [List.take_zero, planDo], by simp only [List.drop_zero, Nat.sub_zero]⟩
  | succ cut ih =>
    intro n s hs h hc
    obtain ⟨n', rfl⟩ : ∃ n', n = n' + 1 := ⟨n - 1, by omega⟩
    obtain ⟨m, hm⟩ := dist_step hs h
    have hmem := List.mem_of_find?_eq_some hm
    have hd : descB l room b n' s m = true := by have := List.find?_some hm; simpa using this
    unfold descB at hd
    rw [Bool.and_eq_true, decide_eq_true_eq] at hd
    rw [planTo_some hm]
    obtain ⟨t, h1, h2, h3, h4⟩ := ih n' (behindN s m) (good_forth hs hmem hd.1) hd.2 (by omega)
    refine ⟨t, h1, by rw [h2]; omega, ?_, ?_⟩
    · simp only [List.take_succ_cons, planDo]
      rw [do_forth hs hmem, hd.1, if_pos rfl]
      exact h3
    · rw [List.drop_succ_cons, h4, show n' + 1 - (cut + 1) = n' - cut by omega]
theorem find_cut {l : List PackD} {room : Int} {set dst : List Int} {P : List StepD} (h : findZ l room set dst = some P) {cut : Nat} (hc : cut ≤ P.length) : ∃ x, planZ l room set (P.take cut) = some x ∧ findZ l room x dst = some (P.drop cut) := by
  have hlen : P.length ≤ 300 := by have := find_len (l := l) (room := room) (set := set) (dst := dst); rw [h] at this; exact this
  obtain ⟨h1, h2, h3, _, h5⟩ := find_some h
  obtain ⟨hg, he⟩ := good_of h1
  obtain ⟨t, t1, t2, t3, t4⟩ := planTo_cut (l := l) (room := room) (b := setBits dst) cut P.length (setBits set) hg h3 hc
  rw [← h5] at t3 t4
  rw [he] at t3
  refine ⟨setOf t, ?_, ?_⟩
  · unfold planZ
    rw [h1, Bool.true_and, if_pos (by simp; omega)]
    exact t3
  · unfold findZ
    rw [t1.2, h2, Bool.and_self, if_pos rfl, t1.bits, t2, if_neg (by omega), Nat.add_sub_cancel, t4]
set_option maxRecDepth 100000 in
set_option maxHeartbeats 8000000 in
theorem planon_law (a : Option Addr) (n c : Nat) (a2 : Option Addr) (n2 c2 : Nat) (w : World) (h : CodeAt w.heap.size w a n) (hc : n ≤ c) (hc2 : c ≤ maxLen) (hd : n2 ≤ c2) (hd2 : c2 ≤ maxLen) :
    Calls Try.prog 5 #[.slice a n c, .slice a2 n2 c2] w fun e w' => e = .returned (.bool true) ∧ Below w.heap.size w w' := by
  have hmx := hc2
  unfold maxLen at hmx
  have hmd := hd2
  unfold maxLen at hmd
  by_cases hbig : 1048576 < n
  · have hb' : (1048576 : Int) < (n : Int) := by omega
    go_enter Try.func5, Try.ntmps5
    go_wp2_with fail
    go_ret
    exact ⟨rfl, Below.refl _ _⟩
  have hb' : ¬ (1048576 : Int) < (n : Int) := by omega
  by_cases hbig2 : 1048576 < n2
  · have hb2' : (1048576 : Int) < (n2 : Int) := by omega
    go_enter Try.func5, Try.ntmps5
    go_wp2_with fail
    go_ret
    exact ⟨rfl, Below.refl _ _⟩
  have hb2' : ¬ (1048576 : Int) < (n2 : Int) := by omega
  go_enter Try.func5, Try.ntmps5
  go_wp2_with fail
  refine (DrawPlanFind_V a n c w h (by omega) hc hc2).mono ?_
  rintro e w1 ⟨⟨v, room, u, tv, rfl, hV, ⟨set, hrow, hsl⟩, ⟨too, hrow2, hsl2⟩⟩, b1⟩
  obtain ⟨va, vn, vc, rfl, _⟩ := SlBy.slice hV
  obtain ⟨l, rfl, hP⟩ := V2.packs hV
  obtain ⟨sa, sc, hu, hset⟩ := RowI.set hrow (by omega)
  subst hu
  obtain ⟨ta, tc, hu2, hset2⟩ := RowI.set hrow2 (by omega)
  subst hu2
  have HSC : Hid (sa = none → sc = 0) := row_cap0 hrow
  have HTC : Hid (ta = none → tc = 0) := row_cap0 hrow2
  have HC1 := hide (V2.caps hV hP)
  have HP1 := hide hP
  have HS1 := hide hset
  have HT1 := hide hset2
  have HB1 := hide b1
  clear hV hrow hP hset b1 h hrow2 hset2
  go_upto_region 4 with fail
  obtain ⟨w2, hw2⟩ : ∃ w2, w2 = w1.alloc (.cells #[.slice va l.length vc, .int .i64 room] 25) := ⟨_, rfl⟩
  rw [← hw2]
  have b2 : Below w1.heap.size w1 w2 := by rw [hw2]; exact (Below.refl _ _).alloc (Nat.le_refl _) _
  have x0 : w2.cell? ⟨w1.heap.size, 0, none⟩ = some (.slice va l.length vc) := by rw [hw2]; simp
  have x1 : w2.cell? ⟨w1.heap.size, 1, none⟩ = some (.int .i64 room) := by rw [hw2]; simp
  have hlt2 : w1.heap.size < w2.heap.size := by rw [hw2]; simp
  have HP2 := hide ((unhide HP1).on b2)
  have HS2 := hide ((unhide HS1).on b2)
  have HC2 := hide ((unhide HC1).on b2)
  have HT2 := hide ((unhide HT1).on b2)
  have HB2 := hide ((unhide HB1).trans (b2.mono (unhide HB1).size))
  clear hw2 b2 HP1 HS1 HB1 HC1 HT1
  obtain ⟨od, hod⟩ : ∃ od, od = findZ l room set too := ⟨_, rfl⟩
  have hpl : (od.getD []).length ≤ 300 := by rw [hod]; exact find_len
  have HOD := hide hod
  have HC3X := hide (specPlanFind_any va l vc room sa set sc ta too tc w2 (unhide HP2) (unhide HC2) (unhide HS2) (unhide HSC) (unhide HT2))
  rw [← hod] at HC3X
  have HC4X := hide (fun x (hx : Below w2.heap.size w2 x) => implPlanFind_any va l vc room sa set sc ta too tc x ((unhide HP2).on hx) ((unhide HS2).on hx) ((unhide HT2).on hx))
  rw [← hod] at HC4X
  clear hod
  go_wp2_with fail
  refine (unhide HC3X).mono ?_
  rintro e w3 ⟨⟨v3, rfl, hr3⟩, b3⟩
  obtain ⟨pa, pc, hv3, _, _, hW3⟩ := StepsAt.of_row hr3 (by omega)
  subst hv3
  have HW3 := hide hW3
  have HC4b := hide (unhide HC4X w3 b3)
  have HP3 := hide ((unhide HP2).on b3)
  have HS3 := hide ((unhide HS2).on b3)
  have HC3 := hide ((unhide HC2).on b3)
  have HT3 := hide ((unhide HT2).on b3)
  have HB3 := hide ((unhide HB2).trans (b3.mono (unhide HB2).size))
  have hlt3 : w1.heap.size < w3.heap.size := Nat.lt_of_lt_of_le hlt2 b3.size
  rw [← b3.cell (p := ⟨w1.heap.size, _, none⟩) hlt2] at x0 x1
  clear HB2 b3 hlt2 HP2 HS2 HC2 HT2
  clear hr3 hW3 HC3X HC4X
  go_wp2_with fail
  refine (unhide HC4b).mono ?_
  rintro e w4 ⟨⟨v4, rfl, hr4⟩, b4⟩
  obtain ⟨ka, kc, hv4, hkl, hkm, hK4⟩ := StepsAt.of_row hr4 (by omega)
  subst hv4
  have HK4 := hide hK4
  have HKO4 := hide hr4
  have HP4 := hide ((unhide HP3).on b4)
  have HS4 := hide ((unhide HS3).on b4)
  have HC4 := hide ((unhide HC3).on b4)
  have HT4 := hide ((unhide HT3).on b4)
  have HW4 := hide ((unhide HW3).on b4)
  have HB4 := hide ((unhide HB3).trans (b4.mono (unhide HB3).size))
  have hlt4 : w1.heap.size < w4.heap.size := Nat.lt_of_lt_of_le hlt3 b4.size
  rw [← b4.cell (p := ⟨w1.heap.size, _, none⟩) hlt3] at x0 x1
  clear HB3 b4 hlt3 HP3 HS3 HC3 HT3 HW3
  clear hr4 hK4 HC4b
  have HLD := hide (fun x (hx : Below w4.heap.size w4 x) => ldSteps_same ka (od.getD []) kc pa pc x ((unhide HK4).on hx) ((unhide HW4).on hx))
  cases od with
  | none =>
    clear HOD
    simp only [Option.getD_none, Option.isSome_none, List.length_nil] at HLD HK4 HW4 HKO4 hkl ⊢
    go_wp2_with fail
    refine (unhide HLD w4 (Below.refl _ _)).mono ?_
    rintro e w5 ⟨rfl, b5⟩
    have HLD5 := hide (unhide HLD w5 b5)
    have HB5 := hide ((unhide HB4).trans (b5.mono (unhide HB4).size))
    clear b5 HB4 HLD
    go_wp2_with fail
    refine (unhide HLD5).mono ?_
    rintro e w6 ⟨rfl, b6⟩
    have HB6 := hide ((unhide HB5).trans (b6.mono (unhide HB5).size))
    clear b6 HB5 HLD5
    go_wp2_with fail
    go_ret
    exact ⟨by simp, unhide HB6⟩
  | some P =>
    simp only [Option.getD_some, Option.isSome_some] at HLD HK4 HW4 HKO4 hpl hkl ⊢

    go_wp2_with fail
    refine (unhide HLD w4 (Below.refl _ _)).mono ?_
    rintro e w5 ⟨rfl, b5⟩
    have HKO5 := hide (ownsRow_on (unhide HKO4) b5)
    have HP5 := hide ((unhide HP4).on b5)
    have HS5 := hide ((unhide HS4).on b5)
    have HC5 := hide ((unhide HC4).on b5)
    have HT5 := hide ((unhide HT4).on b5)
    have HW5 := hide ((unhide HW4).on b5)
    have HK5 := hide ((unhide HK4).on b5)
    have HB5 := hide ((unhide HB4).trans (b5.mono (unhide HB4).size))
    have hlt5 : w1.heap.size < w5.heap.size := Nat.lt_of_lt_of_le hlt4 b5.size
    rw [← b5.cell (p := ⟨w1.heap.size, _, none⟩) hlt4] at x0 x1
    clear HB4 b5 hlt4 HP4 HS4 HC4 HT4 HW4 HK4
    clear HLD HKO4
    obtain ⟨cut, hcut⟩ : ∃ cut, cut = n2 % (P.length + 1) := ⟨_, rfl⟩
    have hcl : cut ≤ P.length := by rw [hcut]; have := Nat.mod_lt n2 (show 0 < P.length + 1 by omega); omega
    have hw1 : IntKind.i64.wrap ((P.length : Int) + 1) = (P.length : Int) + 1 := by rw [IntKind.wrap_i64]; omega
    have hmod : Int.tmod (n2 : Int) ((P.length : Int) + 1) = (cut : Int) := by rw [Int.tmod_eq_emod_of_nonneg (by omega), hcut]; norm_cast
    have hnz : (((P.length : Int) + 1) == 0) = false := by rw [beq_eq_false_iff_ne]; omega
    obtain ⟨hqc, hqm, da, dc, hfr0, hdr⟩ := steps_part (unhide HKO5) hcl
    obtain ⟨x, hx1, hx2⟩ := find_cut (unhide HOD).symm hcl
    have hxl : x.length ≤ 8 := by
      have := planZ_len (l := l) (room := room) (set := set) (ss := P.take cut)
      rw [hx1] at this
      exact this
    have e1 : (P.take cut).length = cut := by simp; omega
    have e2 : (P.drop cut).length = P.length - cut := by simp
    obtain ⟨dx, hdx⟩ : ∃ dx, dx = some x := ⟨_, rfl⟩
    have HDX := hide hdx
    have HCI := hide (fun y (hy : Below w5.heap.size w5 y) => (implPlanDo_any va l vc room sa set sc ka (P.take cut) kc y ((unhide HP5).on hy) ((unhide HS5).on hy) (((unhide HK5).on hy).take cut)))
    rw [e1, hx1, ← hdx] at HCI
    have HFR := hide hfr0
    have HDR := hide hdr
    have HX2 := hide hx2
    have HE2 := hide e2
    have hm0 : (0 : Int) ≤ (cut : Int) := by omega
    have hm1 : (cut : Int) ≤ (kc : Int) := by omega
    have hm2 : (cut : Int) ≤ (P.length : Int) := by omega
    have hm3 : (P.length : Int) ≤ (kc : Int) := by omega
    clear hfr0 hdr hcut e1 e2 hdx hx1 hx2 hqm HKO5
    go_wp2_with fail
    go_upto_region 9 with fail
    refine wp_region_headE 10 (by kernel_rfl) (by kernel_rfl) (by kernel_rfl) (by kernel_rfl) (by kernel_rfl) (TH (.agg #[.slice va l.length vc, .int .i64 room]) (.slice sa set.length sc) (.slice ka P.length kc) (.slice ka cut kc) (cut : Int) w5.heap.size dx) (fun _ x => Hid (Below w5.heap.size w5 x)) (fun x y => Below x.heap.size x y) (fun i v x y h hb => TH_on h hb) (Below.refl _ _).drew ?_ ?_
    · intro i oo him hi ac xx n hn ha HC hd
      have hC := unhide HC
      match i with
      | 0 =>
        simp at hi
        subst hi
        have e5 : ac.tmps[5]? = some (.pointer (some ⟨w1.heap.size, 0, none⟩)) := (ha.slot 5 (slots_no (by kernel_rfl))).trans rfl
        rw [← hC.cell (p := ⟨w1.heap.size, _, none⟩) hlt5] at x0 x1
        go_simp
        exact ⟨_, rfl, rfl, (by first | exact HC | exact True.intro), Below.refl _ _⟩
      | 1 =>
        simp at hi
        subst hi
        have e6 : ac.tmps[6]? = some (.slice sa set.length sc) := (ha.slot 6 (slots_no (by kernel_rfl))).trans rfl
        go_simp
        exact ⟨_, rfl, rfl, (by first | exact HC | exact True.intro), Below.refl _ _⟩
      | 2 =>
        simp at hi
        subst hi
        have e10 : ac.tmps[10]? = some (.slice ka P.length kc) := (ha.slot 10 (slots_no (by kernel_rfl))).trans rfl
        go_simp
        exact ⟨_, rfl, rfl, (by first | exact HC | exact True.intro), Below.refl _ _⟩
      | 3 =>
        simp at hi
        subst hi
        have e12 : ac.tmps[12]? = some (.int .i64 (cut : Int)) := (ha.slot 12 (slots_no (by kernel_rfl))).trans rfl
        go_simp
        exact ⟨_, rfl, rfl, (by first | exact HC | exact True.intro), Below.refl _ _⟩
      | 4 =>
        simp at hi
        subst hi
        have d2 := hd ⟨2, .data⟩ (by simp) rfl
        rw [valOf_at (d := 75) rfl] at d2
        have d2' : ac.tmps[75]?.getD undef = .slice ka P.length kc := d2
        have d3 := hd ⟨3, .data⟩ (by simp) rfl
        rw [valOf_at (d := 76) rfl] at d3
        have d3' : ac.tmps[76]?.getD undef = .int .i64 (cut : Int) := d3
        go_simp
        exact ⟨_, rfl, rfl, (by first | exact HC | exact True.intro), Below.refl _ _⟩
      | 5 =>
        simp at hi
        subst hi
        have d0 := hd ⟨0, .data⟩ (by simp) rfl
        rw [valOf_at (d := 73) rfl] at d0
        have d0' : ac.tmps[73]?.getD undef = .agg #[.slice va l.length vc, .int .i64 room] := d0
        have d1 := hd ⟨1, .data⟩ (by simp) rfl
        rw [valOf_at (d := 74) rfl] at d1
        have d1' : ac.tmps[74]?.getD undef = .slice sa set.length sc := d1
        have d4 := hd ⟨4, .data⟩ (by simp) rfl
        rw [valOf_at (d := 77) rfl] at d4
        have d4' : ac.tmps[77]?.getD undef = .slice ka cut kc := d4
        go_simp
        refine (unhide HCI xx hC).mono ?_
        rintro e y ⟨⟨v3, rfl, hr3⟩, b3⟩
        exact ⟨_, rfl, ⟨v3, rfl, row_down hr3 hC.size⟩, hC.trans (b3.mono hC.size), b3⟩
      | 6 =>
        simp at hi
        subst hi
        obtain ⟨u6, h6, r6⟩ := hd ⟨5, .data⟩ (by simp) rfl
        rw [valOf_at (d := 78) rfl] at h6
        have HR6 := hide r6
        clear r6
        go_simp
        exact ⟨_, rfl, ⟨u6, rfl, unhide HR6⟩, (by first | exact HC | exact True.intro), Below.refl _ _⟩
      | 7 =>
        simp at hi
        subst hi
        obtain ⟨u7, h7, r7⟩ := hd ⟨6, .data⟩ (by simp) rfl
        rw [valOf_at (d := 72) rfl] at h7
        have HR7 := hide r7
        clear r7
        go_simp
        exact ⟨_, rfl, unhide HR7, (by first | exact HC | exact True.intro), Below.refl _ _⟩
      | 8 =>
        simp at hi
        subst hi
        obtain ⟨u7, h7, r7⟩ := hd ⟨6, .data⟩ (by simp) rfl
        rw [valOf_at (d := 72) rfl] at h7
        clear r7
        go_simp
        exact ⟨_, rfl, rfl, (by first | exact HC | exact True.intro), Below.refl _ _⟩
      | 9 =>
        simp at hi
        subst hi
        have r8 := hd ⟨7, .data⟩ (by simp) rfl
        rw [valOf_at (d := 79) rfl] at r8
        have HR8 := hide r8
        clear r8
        go_simp
        exact ⟨_, rfl, unhide HR8, (by first | exact HC | exact True.intro), Below.refl _ _⟩
      | i + 10 => omega
    · intro ac w6 ha hT b6
      replace b6 := unhide b6
      have t28 : ac.tmps[80]?.getD undef = .bool dx.isSome := by have := hT 8 (by omega); rwa [valOf_at (d := 80) rfl] at this
      have r27 : RowI w5.heap.size w6 (ac.tmps[13]?.getD undef) (dx.getD []) := by have := hT 9 (by omega); rwa [valOf_at (d := 13) rfl] at this
      have hl := ha.list
      simp [slotOf, List.range_succ] at hl
      rw [hl]
      clear hl ha hT
      rw [t28]
      clear t28
      generalize ac.tmps[13]?.getD undef = u27 at r27
      rw [unhide HDX] at r27 ⊢
      simp only [Option.getD_some, Option.isSome_some] at r27 ⊢
      obtain ⟨ya, yc, hyv, hy6⟩ := RowI.set r27 (by omega)
      subst hyv
      have HY6 := hide hy6
      have HP6 := hide ((unhide HP5).on b6)
      have HS6 := hide ((unhide HS5).on b6)
      have HC6 := hide ((unhide HC5).on b6)
      have HT6 := hide ((unhide HT5).on b6)
      have HW6 := hide ((unhide HW5).on b6)
      have HK6 := hide ((unhide HK5).on b6)
      have HB6 := hide ((unhide HB5).trans (b6.mono (unhide HB5).size))
      have hlt6 : w1.heap.size < w6.heap.size := Nat.lt_of_lt_of_le hlt5 b6.size
      rw [← b6.cell (p := ⟨w1.heap.size, _, none⟩) hlt5] at x0 x1
      clear HB5 b6 hlt5 HP5 HS5 HC5 HT5 HW5 HK5
      clear r27 hy6 HCI
      have HPF := hide (implPlanFind_any va l vc room ya x yc ta too tc w6 (unhide HP6) (unhide HY6) (unhide HT6))
      rw [unhide HX2] at HPF
      go_wp2_with fail
      refine (unhide HPF).mono ?_
      rintro e w7 ⟨⟨v7, rfl, hr7⟩, b7⟩
      simp only [Option.getD_some, Option.isSome_some] at hr7 ⊢
      obtain ⟨za, zc, hzv, _, _, hZ7⟩ := StepsAt.of_row hr7 (by rw [unhide HE2]; omega)
      subst hzv
      have HLS := hide (ldSteps_same za (P.drop cut) zc da dc w7 hZ7 (unhide HDR w7 ((unhide HK6).on b7)))
      have HB7 := hide ((unhide HB6).trans (b7.mono (unhide HB6).size))
      rw [unhide HE2] at HLS ⊢
      clear b7 HB6 HPF hr7 hZ7 HP6 HS6 HC6 HT6 HW6 HK6 x0 x1 hlt6
      rcases unhide HFR with ⟨rfl, rfl, hk0, ⟨rfl, rfl⟩, hn0⟩ | ⟨g, rfl, hqk, rfl, rfl⟩ | ⟨g, rfl, hqk, rfl, rfl⟩
      · rw [hn0] at HLS hm2 hm3 ⊢
        subst hk0
        simp only [Nat.zero_sub, Nat.sub_zero] at HLS ⊢
        go_wp2_with fail
        refine (unhide HLS).mono ?_
        rintro e w8 ⟨rfl, b8⟩
        have HB8 := hide ((unhide HB7).trans (b8.mono (unhide HB7).size))
        clear b8 HB7
        go_wp2_with fail
        go_ret
        exact ⟨by simp, unhide HB8⟩
      · have hL : P.length = kc := by omega
        have hn : P.length - cut = 0 := by omega
        rw [hn] at HLS ⊢
        subst hqk
        rw [hL] at hw1 hmod hnz ⊢
        clear hm1 hm2 hm3 hn hL hcl hkl hpl hqc
        have hm1 : (kc : Int) ≤ (kc : Int) := Int.le_refl _
        go_wp2_with fail
        refine (unhide HLS).mono ?_
        rintro e w8 ⟨rfl, b8⟩
        have HB8 := hide ((unhide HB7).trans (b8.mono (unhide HB7).size))
        clear b8 HB7
        go_wp2_with fail
        go_ret
        exact ⟨by simp, unhide HB8⟩
      · have hqk' : ¬ kc = cut := hqk
        go_wp2_with fail
        refine (unhide HLS).mono ?_
        rintro e w8 ⟨rfl, b8⟩
        have HB8 := hide ((unhide HB7).trans (b8.mono (unhide HB7).size))
        clear b8 HB7
        go_wp2_with fail
        go_ret
        exact ⟨by simp, unhide HB8⟩
end Go.Proofs.Ythkhaemlcmkkjae
