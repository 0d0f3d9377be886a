/- The walk of the law FnStepSwap: of every code it answers true, and writes nothing that was there. -/
import Derived.Test.YthkhaemlcmkkjarGCv
import Derived.Test.YthkhaemlcmkkjarGPd
import Derived.Test.YthkhaemlcmkkjarGIm
import Derived.Test.YthkhaemlcmkkjarLdInts
namespace Go.Proofs.Ythkhaemlcmkkjar
set_option linter.unusedVariables false
set_option linter.unusedSimpArgs false
open Go.RowKit Go.Deep

set_option maxRecDepth 100000 in
set_option maxHeartbeats 8000000 in
theorem swap_any (a : Option Addr) (n c : Nat) (w : World) (h : CodeAt w.heap.size w a n) (hc : n ≤ c) (hc2 : c ≤ maxLen) :
    Calls Try.prog 3 #[.slice a n c] w fun e w' => e = .returned (.bool true) ∧ Below w.heap.size w w' := by
  have hmx := hc2
  unfold maxLen at hmx
  by_cases hbig : 1048576 < n
  · have hb' : (1048576 : Int) < (n : Int) := by omega
    go_enter Try.func3, Try.ntmps3
    go_wp2_with fail
    go_ret
    exact ⟨rfl, Below.refl _ _⟩
  have hb' : ¬ (1048576 : Int) < (n : Int) := by omega
  go_enter Try.func3, Try.ntmps3
  go_wp2_with fail
  refine (DrawStepDo_V a n c w h (by omega) hc hc2).mono ?_
  rintro e w1 ⟨⟨v, room, u, s, rfl, hV, set, hrow, hsl⟩, b1⟩
  obtain ⟨va, vn, vc, rfl, _⟩ := SlBy.slice hV
  obtain ⟨l, rfl, hP⟩ := V2.packs hV
  obtain ⟨sa, sc, hu, hset⟩ := RowI.set hrow (by omega)
  subst hu
  have HSC : Hid (sa = none → sc = 0) := row_cap0 hrow
  have HC1 := hide (V2.caps hV hP)
  have HP1 := hide hP
  have HS1 := hide hset
  have HB1 := hide b1
  clear hV hrow hP hset b1 h
  go_upto_region 4 with fail
  obtain ⟨w2, hw2⟩ : ∃ w2, w2 = (w1.alloc (.cells #[.slice va l.length vc, .int .i64 room] 25)).alloc (.cells #[.int .i64 s.kind, .int .i64 s.inn, .int .i64 s.out] 28) := ⟨_, rfl⟩
  rw [← hw2]
  have b2 : Below w1.heap.size w1 w2 := by rw [hw2]; exact ((Below.refl _ _).alloc (Nat.le_refl _) _).alloc (by simp) _
  have x0 : w2.cell? ⟨w1.heap.size, 0, none⟩ = some (.slice va l.length vc) := by rw [hw2]; simp
  have x1 : w2.cell? ⟨w1.heap.size, 1, none⟩ = some (.int .i64 room) := by rw [hw2]; simp
  have y0 : w2.cell? ⟨w1.heap.size + 1, 0, none⟩ = some (.int .i64 s.kind) := by rw [hw2]; simp
  have y1 : w2.cell? ⟨w1.heap.size + 1, 1, none⟩ = some (.int .i64 s.inn) := by rw [hw2]; simp
  have y2 : w2.cell? ⟨w1.heap.size + 1, 2, none⟩ = some (.int .i64 s.out) := by rw [hw2]; simp
  have hlt2 : w1.heap.size + 1 < w2.heap.size := by rw [hw2]; simp
  have HP2 := hide ((unhide HP1).on b2)
  have HC2 := hide ((unhide HC1).on b2)
  have HS2 := hide ((unhide HS1).on b2)
  have HB2 := hide ((unhide HB1).trans (b2.mono (unhide HB1).size))
  clear hw2 b2 HP1 HS1 HB1 HC1
  have hdl := do_len (l := l) (room := room) (set := set) (s := s)
  go_wp2_with fail
  refine (specStepDo_any va l vc room sa set sc s w2 (unhide HP2) (unhide HC2) (unhide HS2) (unhide HSC) (by omega)).mono ?_
  rintro e w3 ⟨⟨v3, rfl, hr3⟩, b3⟩
  rw [do_same] at hr3 ⊢
  obtain ⟨pa, pc, rfl, hS3⟩ := RowI.set hr3 (by omega)
  have HW3 := hide hS3
  have HP3 := hide ((unhide HP2).on b3)
  have HS3 := hide ((unhide HS2).on b3)
  have HC3 := hide ((unhide HC2).on b3)
  have HB3 := hide ((unhide HB2).trans (b3.mono (unhide HB2).size))
  have hlt3 : w1.heap.size + 1 < w3.heap.size := Nat.lt_of_lt_of_le hlt2 b3.size
  rw [← b3.cell (p := ⟨w1.heap.size, _, none⟩) (show w1.heap.size < w2.heap.size by omega)] at x0 x1
  rw [← b3.cell (p := ⟨w1.heap.size + 1, _, none⟩) hlt2] at y0 y1 y2
  clear HB2 b3 hlt2 HP2 HS2 HC2
  clear hr3 hS3
  have HOD : Hid (implDo l room set s = implDo l room set s) := rfl
  go_wp2_with fail
  refine (implStepDo_any va l vc room sa set sc s w3 (unhide HP3) (unhide HS3)).mono ?_
  rintro e w4 ⟨⟨v4, rfl, hr4⟩, b4⟩
  obtain ⟨ta, tc, rfl, hS4⟩ := RowI.set hr4 (by omega)
  have HT4 := hide hS4
  have HP4 := hide ((unhide HP3).on b4)
  have HS4 := hide ((unhide HS3).on b4)
  have HC4 := hide ((unhide HC3).on b4)
  have HW4 := hide ((unhide HW3).on b4)
  have HB4 := hide ((unhide HB3).trans (b4.mono (unhide HB3).size))
  have hlt4 : w1.heap.size + 1 < w4.heap.size := Nat.lt_of_lt_of_le hlt3 b4.size
  rw [← b4.cell (p := ⟨w1.heap.size, _, none⟩) (show w1.heap.size < w3.heap.size by omega)] at x0 x1
  rw [← b4.cell (p := ⟨w1.heap.size + 1, _, none⟩) hlt3] at y0 y1 y2
  clear HB3 b4 hlt3 HP3 HS3 HC3 HW3
  clear hr4 hS4
  generalize hod : implDo l room set s = od at *
  replace HOD := hide hod
  clear hod
  go_wp2_with fail
  refine (ldIntsZ_any ta (od.getD []) tc pa (od.getD []) pc w4 (unhide HT4) (unhide HW4)).mono ?_
  rintro e w5 ⟨rfl, b5⟩
  have HP5 := hide ((unhide HP4).on b5)
  have HS5 := hide ((unhide HS4).on b5)
  have HC5 := hide ((unhide HC4).on b5)
  have HW5 := hide ((unhide HW4).on b5)
  have HT5 := hide ((unhide HT4).on b5)
  have HB5 := hide ((unhide HB4).trans (b5.mono (unhide HB4).size))
  have hlt5 : w1.heap.size + 1 < w5.heap.size := Nat.lt_of_lt_of_le hlt4 b5.size
  rw [← b5.cell (p := ⟨w1.heap.size, _, none⟩) (show w1.heap.size < w4.heap.size by omega)] at x0 x1
  rw [← b5.cell (p := ⟨w1.heap.size + 1, _, none⟩) hlt4] at y0 y1 y2
  clear HB4 b5 hlt4 HP4 HS4 HC4 HW4 HT4
  simp only [decide_true]
  cases od with
  | none =>
    go_wp2_with fail
    refine (ldIntsZ_any ta _ tc pa _ pc w5 (unhide HT5) (unhide HW5)).mono ?_
    rintro e w6 ⟨rfl, b6⟩
    have HB6 := hide ((unhide HB5).trans (b6.mono (unhide HB5).size))
    clear b6 HB5 HP5 HS5 HC5 HT5 HW5
    simp only [decide_true]
    go_wp2_with fail
    go_ret
    exact ⟨by simp, unhide HB6⟩
  | some t =>
    simp only [Option.getD_some, Option.isSome_some] at *
    obtain ⟨m, hms, hd⟩ := do_parts (unhide HOD)
    have hcnt := do_count hd
    have hwi := hd.within
    have HD := hide hd
    clear HOD
    rw [hms] at y0 y1 y2
    clear hms hdl
    cases m with
    | put i =>
      simp only [MvD.step] at y0 y1 y2 hcnt
      have hw : IntKind.i64.wrap ((set.length : Int) + 1) = (t.length : Int) := by rw [IntKind.wrap_i64]; omega
      clear hcnt hwi hd
      go_wp2_with fail
      go_ret
      exact ⟨by simp, unhide HB5⟩
    | take o =>
      simp only [MvD.step] at y0 y1 y2 hcnt
      have hw : IntKind.i64.wrap ((set.length : Int) - 1) = (t.length : Int) := by rw [IntKind.wrap_i64]; omega
      clear hcnt hwi hd
      go_wp2_with fail
      go_ret
      exact ⟨by simp, unhide HB5⟩
    | swap i o =>
      simp only [MvD.step] at y0 y1 y2 hcnt
      have he : ((t.length : Int) == (set.length : Int)) = true := by simp; omega
      have hi1 : i < l.length := hwi.1
      have ho1 : o < l.length := hwi.2
      have i10 : (0 : Int) ≤ (i : Int) := by omega
      have i11 : (i : Int) < (l.length : Int) := by omega
      have i20 : (0 : Int) ≤ (o : Int) := by omega
      have i21 : (o : Int) < (l.length : Int) := by omega
      have hnm := hcnt.2
      rcases (unhide HP5).2 with hnil | ⟨pb, po, rfl, hpS, hpk⟩
      · rw [hnil] at hi1; simp at hi1
      obtain ⟨_, _, _, _, _, _, hce1, _⟩ := hpk i hi1
      obtain ⟨_, _, _, _, _, _, hce2, _⟩ := hpk o ho1
      have n1 := hce1.name
      have n2 := hce2.name
      generalize l.getD i dPack = P1 at n1 hnm
      generalize l.getD o dPack = P2 at n2 hnm
      have hnb : (P1.name.toList == P2.name.toList) = true := by simpa using hnm
      clear hcnt hwi hnm hpk hce1 hce2 hd
      go_wp2_with fail
      go_quiet (fail)
      have HB6 := hide (below_drewN' (unhide HB5) nq)
      go_wp2_with fail
      go_ret
      exact ⟨by simp, unhide HB6⟩
end Go.Proofs.Ythkhaemlcmkkjar
