/- The walk of the law FnStepFrom: of every code it answers true, and writes nothing that was there. -/
import Derived.Test.YthkhaemlcmkkjacDrawUF
import Derived.Test.YthkhaemlcmkkjacSpF
import Derived.Test.YthkhaemlcmkkjacGIm
import Derived.Test.YthkhaemlcmkkjacMvE
import Derived.Test.YthkhaemlcmkkjacStepsA
import Derived.Test.YthkhaemlcmkkjacGPd
import Derived.Test.YthkhaemlcmkkjacGCv
import Derived.Test.YthkhaemlcmkkjacGStL
import Derived.Test.YthkhaemlcmkkjacTupG
namespace Go.Proofs.Ythkhaemlcmkkjac
set_option linter.unusedVariables false
set_option linter.unusedSimpArgs false
open Go.RowKit Go.Deep

set_option maxRecDepth 100000 in
set_option maxHeartbeats 8000000 in
theorem from_law_any (a : Option Addr) (n c : Nat) (w : World) (h : CodeAt w.heap.size w a n) (hc : n ≤ c) (hc2 : c ≤ maxLen) :
    Calls Try.prog 6 #[.slice a n c] w fun e w' => e = .returned (.bool true) ∧ Below w.heap.size w w' := by
  have hmx := hc2
  unfold maxLen at hmx
  by_cases hbig : 1048576 < n
  · have hb' : (1048576 : Int) < (n : Int) := by omega
    go_enter Try.func6, Try.ntmps6
    go_wp2_with fail
    go_ret
    exact ⟨rfl, Below.refl _ _⟩
  have hb' : ¬ (1048576 : Int) < (n : Int) := by omega
  go_enter Try.func6, Try.ntmps6
  go_wp2_with fail
  refine (DrawStepFrom_V a n c w h (by omega) hc hc2).mono ?_
  rintro e w1 ⟨⟨v, room, u, rfl, hV, set, hrow, hsl⟩, b1⟩
  obtain ⟨va, vn, vc, rfl, _⟩ := SlBy.slice hV
  obtain ⟨l, rfl, hP⟩ := V2.packs hV
  obtain ⟨sa, sc, hu, hset⟩ := RowI.set hrow (by omega)
  subst hu
  have HSC : Hid (sa = none → sc = 0) := row_cap0 hrow
  have HC1 := hide (V2.caps hV hP)
  have HP1 := hide hP
  have HS1 := hide hset
  have HB1 := hide b1
  clear hV hrow hP hset b1 h
  go_upto_region 4 with fail
  obtain ⟨w2, hw2⟩ : ∃ w2, w2 = w1.alloc (.cells #[.slice va l.length vc, .int .i64 room] 25) := ⟨_, rfl⟩
  rw [← hw2]
  have b2 : Below w1.heap.size w1 w2 := by rw [hw2]; exact (Below.refl _ _).alloc (Nat.le_refl _) _
  have x0 : w2.cell? ⟨w1.heap.size, 0, none⟩ = some (.slice va l.length vc) := by rw [hw2]; simp
  have x1 : w2.cell? ⟨w1.heap.size, 1, none⟩ = some (.int .i64 room) := by rw [hw2]; simp
  have hlt2 : w1.heap.size < w2.heap.size := by rw [hw2]; simp
  have HP2 := hide ((unhide HP1).on b2)
  have HS2 := hide ((unhide HS1).on b2)
  have HC2 := hide ((unhide HC1).on b2)
  have HB2 := hide ((unhide HB1).trans (b2.mono (unhide HB1).size))
  clear hw2 b2 HP1 HS1 HB1 HC1
  have hfew := from_few l room set
  have hsfew := stepsL_few l room
  go_wp2_with fail
  refine (specStepFrom_any va l vc room sa set sc w2 (unhide HP2) (unhide HC2) (unhide HS2) (unhide HSC) (by omega)).mono ?_
  rintro e w3 ⟨⟨v3, rfl, hs3⟩, b3⟩
  obtain ⟨pa, pc, rfl, _, _, hS3⟩ := StepsAt.of_row hs3 (by omega)
  have HW3 := hide hS3
  have HP3 := hide ((unhide HP2).on b3)
  have HS3 := hide ((unhide HS2).on b3)
  have HC3 := hide ((unhide HC2).on b3)
  have HB3 := hide ((unhide HB2).trans (b3.mono (unhide HB2).size))
  have hlt3 : w1.heap.size < w3.heap.size := Nat.lt_of_lt_of_le hlt2 b3.size
  rw [← b3.cell (p := ⟨w1.heap.size, _, none⟩) hlt2] at x0 x1
  clear HB2 b3 hlt2 HP2 HS2 HC2
  clear hs3 hS3
  go_wp2_with fail
  refine (implStepFrom_any va l vc room sa set sc w3 (unhide HP3) (unhide HS3)).mono ?_
  rintro e w4 ⟨⟨v4, rfl, hs4⟩, b4⟩
  obtain ⟨la, lc, rfl, _, _, hS4⟩ := StepsAt.of_row hs4 (by omega)
  have HL4 := hide hS4
  have HP4 := hide ((unhide HP3).on b4)
  have HS4 := hide ((unhide HS3).on b4)
  have HC4 := hide ((unhide HC3).on b4)
  have HW4 := hide ((unhide HW3).on b4)
  have HB4 := hide ((unhide HB3).trans (b4.mono (unhide HB3).size))
  have hlt4 : w1.heap.size < w4.heap.size := Nat.lt_of_lt_of_le hlt3 b4.size
  rw [← b4.cell (p := ⟨w1.heap.size, _, none⟩) hlt3] at x0 x1
  clear HB3 b4 hlt3 HP3 HS3 HC3 HW3
  clear hs4 hS4
  have HFA : Hid (fromL l room set = (stepsL l room).filter (fun s => (implDo l room set s).isSome)) := rfl
  generalize fromL l room set = F at *
  go_wp2_with fail
  refine (ldSteps_same la F lc pa pc w4 (unhide HL4) (unhide HW4)).mono ?_
  rintro e w5 ⟨rfl, b5⟩
  have HP5 := hide ((unhide HP4).on b5)
  have HS5 := hide ((unhide HS4).on b5)
  have HC5 := hide ((unhide HC4).on b5)
  have HL5 := hide ((unhide HL4).on b5)
  have HW5 := hide ((unhide HW4).on b5)
  have HB5 := hide ((unhide HB4).trans (b5.mono (unhide HB4).size))
  have hlt5 : w1.heap.size < w5.heap.size := Nat.lt_of_lt_of_le hlt4 b5.size
  rw [← b5.cell (p := ⟨w1.heap.size, _, none⟩) hlt4] at x0 x1
  clear HB4 b5 hlt4 HP4 HS4 HC4 HL4 HW4
  go_wp2_with fail
  refine (implStepAll_any va l vc room w5 (unhide HP5)).mono ?_
  rintro e w6 ⟨⟨v6, rfl, hs6⟩, b6⟩
  obtain ⟨aa, acp, rfl, _, _, hS6⟩ := StepsAt.of_row hs6 (by omega)
  have HA6 := hide hS6
  have HP6 := hide ((unhide HP5).on b6)
  have HS6 := hide ((unhide HS5).on b6)
  have HC6 := hide ((unhide HC5).on b6)
  have HL6 := hide ((unhide HL5).on b6)
  have HB6 := hide ((unhide HB5).trans (b6.mono (unhide HB5).size))
  have hlt6 : w1.heap.size < w6.heap.size := Nat.lt_of_lt_of_le hlt5 b6.size
  rw [← b6.cell (p := ⟨w1.heap.size, _, none⟩) hlt5] at x0 x1
  clear HB5 b6 hlt5 HP5 HS5 HC5 HL5
  clear hs6 hS6 HW5
  generalize stepsL l room = A at *
  go_wp2_with fail
  go_loopw [8, 9] (fun n i wr => ∃ k : Nat, k ≤ A.length ∧ i = .int .i64 k ∧ n = .int .i64 ((((A.take k).filter (fun s => (implDo l room set s).isSome)).length : Nat) : Int) ∧ Hid (Below w6.heap.size w6 wr)) (fun _ i _ => A.length - (intOf i).toNat)
  case atStart => exact ⟨0, Nat.zero_le _, rfl, rfl, Below.refl _ _⟩
  case round =>
    rename World => wo
    obtain ⟨k, hk, rfl, rfl, HBO⟩ := hrel
    by_cases hlt : k < A.length
    · have j1 : (k : Int) < (A.length : Int) := by omega
      have j0 : (0 : Int) ≤ (k : Int) := by omega
      rcases (unhide HA6).2 with hnil | ⟨b, o, rfl, hbl, hrk⟩
      · rw [hnil] at hlt; simp at hlt
      obtain ⟨c0, c1, c2⟩ := hrk k hlt
      have htk := filter_take_succ (fun s => (implDo l room set s).isSome) dStep A hlt
      have hat := filter_at (fun s => (implDo l room set s).isSome) dStep A hlt
      rw [← unhide HFA] at hat
      generalize A.getD k dStep = t at c0 c1 c2 htk hat
      have hN : ((A.take k).filter (fun s => (implDo l room set s).isSome)).length ≤ 100 := by
        have := List.length_filter_le (fun s => (implDo l room set s).isSome) (A.take k)
        simp at this
        omega
      generalize hNN : ((A.take k).filter (fun s => (implDo l room set s).isSome)).length = N at hat hN
      have htk2 : ((A.take (k + 1)).filter (fun s => (implDo l room set s).isSome)).length = N + (if (implDo l room set t).isSome then 1 else 0) := by
        rw [htk, List.length_append, hNN]
        split <;> simp_all
      have HTK := hide htk2
      have HAT := hide hat
      clear htk htk2 hat hNN
      have y0 := x0
      have y1 := x1
      rw [← (unhide HBO).cell (p := ⟨w1.heap.size, _, none⟩) hlt6] at y0 y1
      rw [← (unhide HBO).cell (p := ⟨b, _, none⟩) hbl] at c0 c1 c2
      have hltk : w1.heap.size < wo.heap.size := Nat.lt_of_lt_of_le hlt6 (unhide HBO).size
      have hbw : b < wo.heap.size := Nat.lt_of_lt_of_le hbl (unhide HBO).size
      have HDO := hide (fun x (hx : Below wo.heap.size wo x) => implStepDo_any va l vc room sa set sc t x (((unhide HP6).on (unhide HBO)).on hx) (((unhide HS6).on (unhide HBO)).on hx))
      generalize implDo l room set t = ds at HDO HTK HAT
      clear hrk
      go_upto_region 13 with fail
      refine wp_region_headE 11 (by kernel_rfl) (by kernel_rfl) (by kernel_rfl) (by kernel_rfl) (by kernel_rfl) (TG (.agg #[.slice va l.length vc, .int .i64 room]) (.slice sa set.length sc) (.slice (some ⟨b, o, none⟩) A.length acp) (.pointer (some ⟨b, o + k * 3, none⟩)) (.agg #[.int .i64 t.kind, .int .i64 t.inn, .int .i64 t.out]) (k : Int) wo.heap.size ds) (fun _ x => Hid (Below wo.heap.size wo x)) (fun x y => Below x.heap.size x y) (fun i v x y h hb => TG_on h hb) (Below.refl _ _).drew ?_ ?_
      · intro i oo him hi ac x n hn ha HC hd
        have hC := unhide HC
        match i with
        | 0 =>
          simp at hi
          subst hi
          have e3 : ac.tmps[3]? = some (.pointer (some ⟨w1.heap.size, 0, none⟩)) := (ha.slot 3 (slots_no (by kernel_rfl))).trans rfl
          rw [← hC.cell (p := ⟨w1.heap.size, _, none⟩) hltk] at y0 y1
          go_simp
          exact ⟨_, rfl, rfl, (by first | exact HC | exact True.intro), Below.refl _ _⟩
        | 1 =>
          simp at hi
          subst hi
          have e4 : ac.tmps[4]? = some (.slice sa set.length sc) := (ha.slot 4 (slots_no (by kernel_rfl))).trans rfl
          go_simp
          exact ⟨_, rfl, rfl, (by first | exact HC | exact True.intro), Below.refl _ _⟩
        | 2 =>
          simp at hi
          subst hi
          have e7 : ac.tmps[7]? = some (.slice (some ⟨b, o, none⟩) A.length acp) := (ha.slot 7 (slots_no (by kernel_rfl))).trans rfl
          go_simp
          exact ⟨_, rfl, rfl, (by first | exact HC | exact True.intro), Below.refl _ _⟩
        | 3 =>
          simp at hi
          subst hi
          have e9 : ac.tmps[9]? = some (.int .i64 (k : Int)) := (ha.slot 9 (slots_no (by kernel_rfl))).trans rfl
          go_simp
          exact ⟨_, rfl, rfl, (by first | exact HC | exact True.intro), Below.refl _ _⟩
        | 4 =>
          simp at hi
          subst hi
          have d2 := hd ⟨2, .data⟩ (by simp) rfl
          rw [valOf_at (d := 41) rfl] at d2
          have d2' : ac.tmps[41]?.getD undef = .slice (some ⟨b, o, none⟩) A.length acp := d2
          have d3 := hd ⟨3, .data⟩ (by simp) rfl
          rw [valOf_at (d := 42) rfl] at d3
          have d3' : ac.tmps[42]?.getD undef = .int .i64 (k : Int) := d3
          go_simp
          exact ⟨_, rfl, rfl, (by first | exact HC | exact True.intro), Below.refl _ _⟩
        | 5 =>
          simp at hi
          subst hi
          have d4 := hd ⟨4, .data⟩ (by simp) rfl
          rw [valOf_at (d := 43) rfl] at d4
          have d4' : ac.tmps[43]?.getD undef = .pointer (some ⟨b, o + k * 3, none⟩) := d4
          rw [← hC.cell (p := ⟨b, _, none⟩) hbw] at c0 c1 c2
          go_simp
          exact ⟨_, rfl, rfl, (by first | exact HC | exact True.intro), Below.refl _ _⟩
        | 6 =>
          simp at hi
          subst hi
          have d0 := hd ⟨0, .data⟩ (by simp) rfl
          rw [valOf_at (d := 39) rfl] at d0
          have d0' : ac.tmps[39]?.getD undef = .agg #[.slice va l.length vc, .int .i64 room] := d0
          have d1 := hd ⟨1, .data⟩ (by simp) rfl
          rw [valOf_at (d := 40) rfl] at d1
          have d1' : ac.tmps[40]?.getD undef = .slice sa set.length sc := d1
          have d5 := hd ⟨5, .data⟩ (by simp) rfl
          rw [valOf_at (d := 44) rfl] at d5
          have d5' : ac.tmps[44]?.getD undef = .agg #[.int .i64 t.kind, .int .i64 t.inn, .int .i64 t.out] := d5
          go_simp
          refine (unhide HDO x hC).mono ?_
          rintro e y ⟨⟨v3, rfl, hr3⟩, b3⟩
          exact ⟨_, rfl, ⟨v3, rfl, row_down hr3 hC.size⟩, hC.trans (b3.mono hC.size), b3⟩
        | 7 =>
          simp at hi
          subst hi
          obtain ⟨u6, h6, r6⟩ := hd ⟨6, .data⟩ (by simp) rfl
          rw [valOf_at (d := 45) rfl] at h6
          have HR6 := hide r6
          clear r6
          go_simp
          exact ⟨_, rfl, ⟨u6, rfl, unhide HR6⟩, (by first | exact HC | exact True.intro), Below.refl _ _⟩
        | 8 =>
          simp at hi
          subst hi
          obtain ⟨u7, h7, r7⟩ := hd ⟨7, .data⟩ (by simp) rfl
          rw [valOf_at (d := 38) rfl] at h7
          have HR7 := hide r7
          clear r7
          go_simp
          exact ⟨_, rfl, unhide HR7, (by first | exact HC | exact True.intro), Below.refl _ _⟩
        | 9 =>
          simp at hi
          subst hi
          obtain ⟨u7, h7, r7⟩ := hd ⟨7, .data⟩ (by simp) rfl
          rw [valOf_at (d := 38) rfl] at h7
          clear r7
          go_simp
          exact ⟨_, rfl, rfl, (by first | exact HC | exact True.intro), Below.refl _ _⟩
        | 10 =>
          simp at hi
          subst hi
          have r8 := hd ⟨8, .data⟩ (by simp) rfl
          rw [valOf_at (d := 46) rfl] at r8
          have HR8 := hide r8
          clear r8
          go_simp
          exact ⟨_, rfl, unhide HR8, (by first | exact HC | exact True.intro), Below.refl _ _⟩
        | i + 11 => omega
      · intro ac w3 ha hT b3
        replace b3 := unhide b3
        have t28 : ac.tmps[47]?.getD undef = .bool ds.isSome := by have := hT 9 (by omega); rwa [valOf_at (d := 47) rfl] at this
        have r27 : RowI wo.heap.size w3 (ac.tmps[10]?.getD undef) (ds.getD []) := by have := hT 10 (by omega); rwa [valOf_at (d := 10) rfl] at this
        have hl := ha.list
        simp [slotOf, List.range_succ] at hl
        rw [hl]
        clear hl ha hT
        rw [t28]
        clear t28
        generalize ac.tmps[10]?.getD undef = u27 at r27
        have HB3 := hide ((unhide HBO).trans (b3.mono (unhide HBO).size))
        rw [← b3.cell (p := ⟨b, _, none⟩) hbw] at c0 c1 c2
        clear b3 HDO HBO y0 y1 hltk hbw r27
        cases hds : ds.isSome with
        | false =>
          have HN2 := hide (show ((A.take (k + 1)).filter (fun s => (implDo l room set s).isSome)).length = N by rw [unhide HTK, hds]; rfl)
          clear hds HTK HAT c0 c1 c2
          go_wp2_with fail
          go_roundw
          case rel => exact ⟨k + 1, by omega, by go_num, by rw [unhide HN2], HB3⟩
          case measure => simp [intOf]; omega
        | true =>
          have HN2 := hide (show ((A.take (k + 1)).filter (fun s => (implDo l room set s).isSome)).length = N + 1 by rw [unhide HTK, hds]; rfl)
          obtain ⟨hnl, hna⟩ := unhide HAT hds
          have n1 : (N : Int) < (F.length : Int) := by omega
          have n0 : (0 : Int) ≤ (N : Int) := by omega
          rcases (unhide HL6).2 with hnil | ⟨fb, fo, rfl, hfl, hfk⟩
          · rw [hnil] at hnl; simp at hnl
          obtain ⟨d0, d1, d2⟩ := hfk N hnl
          rw [hna] at d0 d1 d2
          rw [← (unhide HB3).cell (p := ⟨fb, _, none⟩) hfl] at d0 d1 d2
          have hadd : IntKind.i64.wrap ((N : Int) + 1) = ((N + 1 : Nat) : Int) := by rw [IntKind.wrap_i64]; omega
          clear hds HTK HAT hfk hna
          go_wp2_with fail
          go_quiet (fail)
          have HB4 := hide (below_drewN' (unhide HB3) nq)
          go_wp2_with fail
          go_roundw
          case rel => exact ⟨k + 1, by omega, by go_num, by rw [unhide HN2]; first | rfl | go_num | simpa using hadd, HB4⟩
          case measure => simp [intOf]; omega
    · have j1 : ¬ (k : Int) < (A.length : Int) := by omega
      have hke : A.take k = A := List.take_of_length_le (by omega)
      rw [hke, ← unhide HFA]
      have HB7 := hide ((unhide HB6).trans ((unhide HBO).mono (unhide HB6).size))
      go_wp2_with fail
      go_ret
      exact ⟨by simp, unhide HB7⟩
end Go.Proofs.Ythkhaemlcmkkjac
