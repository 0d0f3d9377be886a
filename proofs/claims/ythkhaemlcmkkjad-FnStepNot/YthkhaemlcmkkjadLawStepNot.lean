/- The walk of the law FnStepNot: of every code it answers true, and writes nothing that was there. -/
import Derived.Test.YthkhaemlcmkkjadGCv
import Derived.Test.YthkhaemlcmkkjadGPd
import Derived.Test.YthkhaemlcmkkjadGIm
import Derived.Test.YthkhaemlcmkkjadLdInts
namespace Go.Proofs.Ythkhaemlcmkkjad
set_option linter.unusedVariables false
set_option linter.unusedSimpArgs false
open Go.RowKit Go.Deep

set_option maxRecDepth 100000 in
set_option maxHeartbeats 8000000 in
theorem not_any (a : Option Addr) (n c : Nat) (w : World) (h : CodeAt w.heap.size w a n) (hc : n ≤ c) (hc2 : c ≤ maxLen) :
    Calls Try.prog 5 #[.slice a n c] w fun e w' => e = .returned (.bool true) ∧ Below w.heap.size w w' := by
  have hmx := hc2
  unfold maxLen at hmx
  by_cases hbig : 1048576 < n
  · have hb' : (1048576 : Int) < (n : Int) := by omega
    go_enter Try.func5, Try.ntmps5
    go_wp2_with fail
    go_ret
    exact ⟨rfl, Below.refl _ _⟩
  have hb' : ¬ (1048576 : Int) < (n : Int) := by omega
  go_enter Try.func5, Try.ntmps5
  go_wp2_with fail
  refine (DrawStepDo_V a n c w h (by omega) hc hc2).mono ?_
  rintro e w1 ⟨⟨v, room, u, s, rfl, hV, set, hrow, hsl⟩, b1⟩
  obtain ⟨va, vn, vc, rfl, _⟩ := SlBy.slice hV
  obtain ⟨l, rfl, hP⟩ := V2.packs hV
  obtain ⟨sa, sc, hu, hset⟩ := RowI.set hrow (by omega)
  subst hu
  have HSC : Hid (sa = none → sc = 0) := row_cap0 hrow
  have HC1 := hide (V2.caps hV hP)
  have HP1 := hide hP
  have HS1 := hide hset
  have HB1 := hide b1
  clear hV hrow hP hset b1 h
  go_upto_region 4 with fail
  obtain ⟨w2, hw2⟩ : ∃ w2, w2 = (w1.alloc (.cells #[.slice va l.length vc, .int .i64 room] 25)).alloc (.cells #[.int .i64 s.kind, .int .i64 s.inn, .int .i64 s.out] 28) := ⟨_, rfl⟩
  rw [← hw2]
  have b2 : Below w1.heap.size w1 w2 := by rw [hw2]; exact ((Below.refl _ _).alloc (Nat.le_refl _) _).alloc (by simp) _
  have x0 : w2.cell? ⟨w1.heap.size, 0, none⟩ = some (.slice va l.length vc) := by rw [hw2]; simp
  have x1 : w2.cell? ⟨w1.heap.size, 1, none⟩ = some (.int .i64 room) := by rw [hw2]; simp
  have y0 : w2.cell? ⟨w1.heap.size + 1, 0, none⟩ = some (.int .i64 s.kind) := by rw [hw2]; simp
  have y1 : w2.cell? ⟨w1.heap.size + 1, 1, none⟩ = some (.int .i64 s.inn) := by rw [hw2]; simp
  have y2 : w2.cell? ⟨w1.heap.size + 1, 2, none⟩ = some (.int .i64 s.out) := by rw [hw2]; simp
  have hlt2 : w1.heap.size + 1 < w2.heap.size := by rw [hw2]; simp
  have HP2 := hide ((unhide HP1).on b2)
  have HC2 := hide ((unhide HC1).on b2)
  have HS2 := hide ((unhide HS1).on b2)
  have HB2 := hide ((unhide HB1).trans (b2.mono (unhide HB1).size))
  clear hw2 b2 HP1 HS1 HB1 HC1
  have hdl := do_len (l := l) (room := room) (set := set) (s := s)
  go_wp2_with fail
  refine (specStepDo_any va l vc room sa set sc s w2 (unhide HP2) (unhide HC2) (unhide HS2) (unhide HSC) (by omega)).mono ?_
  rintro e w3 ⟨⟨v3, rfl, hr3⟩, b3⟩
  rw [do_same] at hr3 ⊢
  obtain ⟨pa, pc, rfl, hS3⟩ := RowI.set hr3 (by omega)
  have HW3 := hide hS3
  have HP3 := hide ((unhide HP2).on b3)
  have HS3 := hide ((unhide HS2).on b3)
  have HC3 := hide ((unhide HC2).on b3)
  have HB3 := hide ((unhide HB2).trans (b3.mono (unhide HB2).size))
  have hlt3 : w1.heap.size + 1 < w3.heap.size := Nat.lt_of_lt_of_le hlt2 b3.size
  rw [← b3.cell (p := ⟨w1.heap.size, _, none⟩) (show w1.heap.size < w2.heap.size by omega)] at x0 x1
  rw [← b3.cell (p := ⟨w1.heap.size + 1, _, none⟩) hlt2] at y0 y1 y2
  clear HB2 b3 hlt2 HP2 HS2 HC2
  clear hr3 hS3
  have HOD : Hid (implDo l room set s = implDo l room set s) := rfl
  go_wp2_with fail
  refine (implStepDo_any va l vc room sa set sc s w3 (unhide HP3) (unhide HS3)).mono ?_
  rintro e w4 ⟨⟨v4, rfl, hr4⟩, b4⟩
  obtain ⟨ta, tc, rfl, hS4⟩ := RowI.set hr4 (by omega)
  have HT4 := hide hS4
  have HP4 := hide ((unhide HP3).on b4)
  have HS4 := hide ((unhide HS3).on b4)
  have HC4 := hide ((unhide HC3).on b4)
  have HW4 := hide ((unhide HW3).on b4)
  have HB4 := hide ((unhide HB3).trans (b4.mono (unhide HB3).size))
  have hlt4 : w1.heap.size + 1 < w4.heap.size := Nat.lt_of_lt_of_le hlt3 b4.size
  rw [← b4.cell (p := ⟨w1.heap.size, _, none⟩) (show w1.heap.size < w3.heap.size by omega)] at x0 x1
  rw [← b4.cell (p := ⟨w1.heap.size + 1, _, none⟩) hlt3] at y0 y1 y2
  clear HB3 b4 hlt3 HP3 HS3 HC3 HW3
  clear hr4 hS4
  generalize hod : implDo l room set s = od at *
  replace HOD := hide hod
  clear hod
  go_wp2_with fail
  refine (ldIntsZ_any ta (od.getD []) tc pa (od.getD []) pc w4 (unhide HT4) (unhide HW4)).mono ?_
  rintro e w5 ⟨rfl, b5⟩
  have HP5 := hide ((unhide HP4).on b5)
  have HS5 := hide ((unhide HS4).on b5)
  have HC5 := hide ((unhide HC4).on b5)
  have HW5 := hide ((unhide HW4).on b5)
  have HT5 := hide ((unhide HT4).on b5)
  have HB5 := hide ((unhide HB4).trans (b5.mono (unhide HB4).size))
  have hlt5 : w1.heap.size + 1 < w5.heap.size := Nat.lt_of_lt_of_le hlt4 b5.size
  rw [← b5.cell (p := ⟨w1.heap.size, _, none⟩) (show w1.heap.size < w4.heap.size by omega)] at x0 x1
  rw [← b5.cell (p := ⟨w1.heap.size + 1, _, none⟩) hlt4] at y0 y1 y2
  clear HB4 b5 hlt4 HP4 HS4 HC4 HW4 HT4
  simp only [decide_true]
  have hfew := from_few l room set
  have hsfew := stepsL_few l room
  go_wp2_with fail
  refine (implStepFrom_any va l vc room sa set sc w5 (unhide HP5) (unhide HS5)).mono ?_
  rintro e w6 ⟨⟨v6, rfl, hs6⟩, b6⟩
  obtain ⟨la, lc, rfl, _, _, hS6⟩ := StepsAt.of_row hs6 (by omega)
  have HL6 := hide hS6
  have HP6 := hide ((unhide HP5).on b6)
  have HS6 := hide ((unhide HS5).on b6)
  have HC6 := hide ((unhide HC5).on b6)
  have HT6 := hide ((unhide HT5).on b6)
  have HB6 := hide ((unhide HB5).trans (b6.mono (unhide HB5).size))
  have hlt6 : w1.heap.size + 1 < w6.heap.size := Nat.lt_of_lt_of_le hlt5 b6.size
  rw [← b6.cell (p := ⟨w1.heap.size, _, none⟩) (show w1.heap.size < w5.heap.size by omega)] at x0 x1
  rw [← b6.cell (p := ⟨w1.heap.size + 1, _, none⟩) hlt5] at y0 y1 y2
  clear HB5 b6 hlt5 HP5 HS5 HC5 HT5
  clear hs6 hS6 HW5
  have HFA := hide (from_any l room set s)
  rw [unhide HOD] at HFA
  generalize fromL l room set = F at *
  go_wp2_with fail
  go_loopw [11, 12] (fun f i wr => ∃ k : Nat, k ≤ F.length ∧ i = .int .i64 k ∧ f = .bool ((F.take k).any (fun t => eqS t s)) ∧ Drawn w6 wr) (fun _ i _ => F.length - (intOf i).toNat)
  case atStart => exact ⟨0, Nat.zero_le _, rfl, rfl, Drawn.refl _⟩
  case round =>
    rename World => wo
    obtain ⟨k, hk, rfl, rfl, hw⟩ := hrel
    by_cases hlt : k < F.length
    · have j1 : (k : Int) < (F.length : Int) := by omega
      have j0 : (0 : Int) ≤ (k : Int) := by omega
      rcases (unhide HL6).2 with hnil | ⟨b, o, rfl, hbl, hrk⟩
      · rw [hnil] at hlt; simp at hlt
      obtain ⟨c0, c1, c2⟩ := hrk k hlt
      have htk := any_take_succ (d := dStep) (f := fun t => eqS t s) hlt
      generalize F.getD k dStep = q at c0 c1 c2 htk
      generalize (F.take k).any (fun t => eqS t s) = fb at htk
      have Y0 := y0
      have Y1 := y1
      have Y2 := y2
      rw [← hw.cell] at c0 c1 c2 Y0 Y1 Y2
      have HTK := hide htk
      clear hrk htk
      cases fb with
      | true =>
        have HF := hide (show (F.take (k + 1)).any (fun t => eqS t s) = true by rw [unhide HTK]; rfl)
        clear HTK
        go_wp2_with fail
        go_quiet (fail)
        go_wp2_with fail
        go_roundw
        case rel => exact ⟨k + 1, by omega, by go_num, by rw [unhide HF], hw.more _⟩
        case measure => simp [intOf]; omega
      | false =>
        obtain ⟨k1, i1, o1⟩ := q
        simp only at c0 c1 c2
        have HF := hide (show (F.take (k + 1)).any (fun t => eqS t s) = eqS ⟨k1, i1, o1⟩ s by rw [unhide HTK]; rfl)
        clear HTK
        by_cases hkk : k1 = s.kind
        · by_cases hii : i1 = s.inn
          · by_cases hoo : o1 = s.out
            · have HE := hide (show eqS ⟨k1, i1, o1⟩ s = true by simp [eqS, hkk, hii, hoo])
              rw [hkk] at c0
              rw [hii] at c1
              rw [hoo] at c2
              clear hkk hii hoo
              go_wp2_with fail
              go_quiet (fail)
              go_wp2_with fail
              go_roundw
              case rel => exact ⟨k + 1, by omega, by go_num, by rw [unhide HF, unhide HE], hw.more _⟩
              case measure => simp [intOf]; omega
            · have HE := hide (show eqS ⟨k1, i1, o1⟩ s = false by simp [eqS, hoo])
              rw [hkk] at c0
              rw [hii] at c1
              clear hkk hii
              go_wp2_with fail
              go_quiet (fail)
              go_wp2_with fail
              go_roundw
              case rel => exact ⟨k + 1, by omega, by go_num, by rw [unhide HF, unhide HE], hw.more _⟩
              case measure => simp [intOf]; omega
          · have HE := hide (show eqS ⟨k1, i1, o1⟩ s = false by simp [eqS, hii])
            rw [hkk] at c0
            clear hkk
            go_wp2_with fail
            go_quiet (fail)
            go_wp2_with fail
            go_roundw
            case rel => exact ⟨k + 1, by omega, by go_num, by rw [unhide HF, unhide HE], hw.more _⟩
            case measure => simp [intOf]; omega
        · have HE := hide (show eqS ⟨k1, i1, o1⟩ s = false by simp [eqS, hkk])
          go_wp2_with fail
          go_quiet (fail)
          go_wp2_with fail
          go_roundw
          case rel => exact ⟨k + 1, by omega, by go_num, by rw [unhide HF, unhide HE], hw.more _⟩
          case measure => simp [intOf]; omega
    · have j1 : ¬ (k : Int) < (F.length : Int) := by omega
      have hke : F.take k = F := List.take_of_length_le (by omega)
      rw [hke, unhide HFA]
      have HB7 := hide ((unhide HB6).trans ((hw.below _).mono (unhide HB6).size))
      clear hke HFA hw
      cases od with
      | none =>
        simp only [Option.getD_none, Option.isSome_none, List.length_nil] at *
        go_wp2_with fail
        go_ret
        exact ⟨by simp, unhide HB7⟩
      | some t =>
        simp only [Option.getD_some, Option.isSome_some] at *
        go_wp2_with fail
        go_ret
        exact ⟨by simp, unhide HB7⟩
end Go.Proofs.Ythkhaemlcmkkjad
