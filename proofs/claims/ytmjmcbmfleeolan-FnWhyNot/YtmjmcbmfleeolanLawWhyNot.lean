/- The walk of the law FnWhyNot: of every code it answers true, and writes nothing that was there. -/
import Derived.Test.YtmjmcbmfleeolanDrawW
import Derived.Test.YtmjmcbmfleeolanWhyC
import Derived.Test.YtmjmcbmfleeolanWhyS
import Derived.Test.YtmjmcbmfleeolanWhyQ
import Derived.Test.YtmjmcbmfleeolanWhyN
import Derived.Test.YtmjmcbmfleeolanFormC
import Derived.Test.YtmjmcbmfleeolanGStA
namespace Go.Proofs.Ytmjmcbmfleeolan
set_option linter.unusedVariables false
set_option linter.unusedSimpArgs false
open Go.RowKit Go.Deep

set_option maxRecDepth 100000 in
set_option maxHeartbeats 8000000 in
theorem whynot_law (a : Option Addr) (n c : Nat) (w : World) (h : CodeAt w.heap.size w a n) (hc : n ≤ c) (hc2 : c ≤ maxLen) :
    Calls Try.prog 3 #[.slice a n c] w fun e w' => e = .returned (.bool true) ∧ Below w.heap.size w w' := by
  have hmx := hc2
  unfold maxLen at hmx
  by_cases hbig : 1048576 < n
  · have hb' : (1048576 : Int) < (n : Int) := by omega
    go_enter Try.func3, Try.ntmps3
    go_wp2_with fail
    go_ret
    exact ⟨rfl, Below.refl _ _⟩
  have hb' : ¬ (1048576 : Int) < (n : Int) := by omega
  go_enter Try.func3, Try.ntmps3
  go_wp2_with fail
  refine (DrawWhyNot_V a n c w h (by omega) hc hc2).mono ?_
  rintro e w1 ⟨⟨v, room, u, rfl, hV, set, hrow, hsl⟩, b1⟩
  obtain ⟨va, vn, vc, rfl, _⟩ := SlBy.slice hV
  obtain ⟨l, rfl, hP⟩ := V2.packs hV
  obtain ⟨sa, sc, hu, hset⟩ := RowI.set hrow (by omega)
  subst hu
  have hscl : set.length ≤ sc := row_le hrow
  have HP1 := hide hP
  have HS1 := hide hset
  have HB1 := hide b1
  clear hV hrow hP hset b1 h
  go_upto_region 4 with fail
  obtain ⟨w2, hw2⟩ : ∃ w2, w2 = w1.alloc (.cells #[.slice va l.length vc, .int .i64 room] 25) := ⟨_, rfl⟩
  rw [← hw2]
  have b2 : Below w1.heap.size w1 w2 := by rw [hw2]; exact (Below.refl _ _).alloc (Nat.le_refl _) _
  have x0 : w2.cell? ⟨w1.heap.size, 0, none⟩ = some (.slice va l.length vc) := by rw [hw2]; simp
  have x1 : w2.cell? ⟨w1.heap.size, 1, none⟩ = some (.int .i64 room) := by rw [hw2]; simp
  have hlt2 : w1.heap.size < w2.heap.size := by rw [hw2]; simp
  have HP2 := hide ((unhide HP1).on b2)
  have HS2 := hide ((unhide HS1).on b2)
  have HB2 := hide ((unhide HB1).trans (b2.mono (unhide HB1).size))
  clear hw2 b2 HP1 HS1 HB1
  obtain ⟨ws, hws⟩ : ∃ ws, ws = whyZ l room set := ⟨_, rfl⟩
  have hwl : ws.length ≤ 400 := by rw [hws]; exact whyZ_len l room set
  have HWS := hide hws
  have HC3 := hide (specWhyNot_any va l vc room sa set sc w2 (unhide HP2) (unhide HS2) hscl)
  rw [← why_same, ← hws] at HC3
  have HC4 := hide (fun x (hx : Below w2.heap.size w2 x) => implWhyNot_any va l vc room sa set sc x ((unhide HP2).on hx) ((unhide HS2).on hx))
  rw [← hws] at HC4
  clear hws
  go_wp2_with fail
  refine (unhide HC3).mono ?_
  rintro e w3 ⟨⟨v3, rfl, hr3⟩, b3⟩
  obtain ⟨pa, pc, hv3, hW3⟩ := hr3.at (by omega)
  subst hv3
  have HW3 := hide hW3
  have HC4b := hide (unhide HC4 w3 b3)
  have HP3 := hide ((unhide HP2).on b3)
  have HS3 := hide ((unhide HS2).on b3)
  have HB3 := hide ((unhide HB2).trans (b3.mono (unhide HB2).size))
  have hlt3 : w1.heap.size < w3.heap.size := Nat.lt_of_lt_of_le hlt2 b3.size
  rw [← b3.cell (p := ⟨w1.heap.size, _, none⟩) hlt2] at x0 x1
  clear HB2 b3 hlt2 HP2 HS2
  clear hr3 hW3 HC3 HC4
  go_wp2_with fail
  refine (unhide HC4b).mono ?_
  rintro e w4 ⟨⟨v4, rfl, hr4⟩, b4⟩
  obtain ⟨ta, tc, hv4, hT4⟩ := hr4.at (by omega)
  subst hv4
  have HT4 := hide hT4
  have HP4 := hide ((unhide HP3).on b4)
  have HS4 := hide ((unhide HS3).on b4)
  have HW4 := hide ((unhide HW3).on b4)
  have HB4 := hide ((unhide HB3).trans (b4.mono (unhide HB3).size))
  have hlt4 : w1.heap.size < w4.heap.size := Nat.lt_of_lt_of_le hlt3 b4.size
  rw [← b4.cell (p := ⟨w1.heap.size, _, none⟩) hlt3] at x0 x1
  clear HB3 b4 hlt3 HP3 HS3 HW3
  clear hr4 hT4 HC4b
  go_wp2_with fail
  refine (ldWhys_same ta ws tc pa pc w4 (unhide HT4) (unhide HW4)).mono ?_
  rintro e w5 ⟨rfl, b5⟩
  have HP5 := hide ((unhide HP4).on b5)
  have HS5 := hide ((unhide HS4).on b5)
  have HW5 := hide ((unhide HW4).on b5)
  have HT5 := hide ((unhide HT4).on b5)
  have HB5 := hide ((unhide HB4).trans (b5.mono (unhide HB4).size))
  have hlt5 : w1.heap.size < w5.heap.size := Nat.lt_of_lt_of_le hlt4 b5.size
  rw [← b5.cell (p := ⟨w1.heap.size, _, none⟩) hlt4] at x0 x1
  clear HB4 b5 hlt4 HP4 HS4 HW4 HT4
  have HSZ := hide (specStateSize_any va l vc room sa set sc w5 (unhide HP5) (unhide HS5))
  cases hfm : formB l room set with
  | false =>
    have hz : sizeZ l room set = -1 := by unfold sizeZ; rw [hfm]; rfl
    rw [hz] at HSZ
    clear hz hfm HWS
    go_wp2_with fail
    refine (unhide HSZ).mono ?_
    rintro e w6 ⟨rfl, b6⟩
    have HP6 := hide ((unhide HP5).on b6)
    have HS6 := hide ((unhide HS5).on b6)
    have HW6 := hide ((unhide HW5).on b6)
    have HT6 := hide ((unhide HT5).on b6)
    have HB6 := hide ((unhide HB5).trans (b6.mono (unhide HB5).size))
    have hlt6 : w1.heap.size < w6.heap.size := Nat.lt_of_lt_of_le hlt5 b6.size
    rw [← b6.cell (p := ⟨w1.heap.size, _, none⟩) hlt5] at x0 x1
    clear HB5 b6 hlt5 HP5 HS5 HW5 HT5
    clear HSZ
    go_wp2_with fail
    refine (ldWhys_same ta ws tc pa pc w6 (unhide HT6) (unhide HW6)).mono ?_
    rintro e w7 ⟨rfl, b7⟩
    have HB7 := hide ((unhide HB6).trans (b7.mono (unhide HB6).size))
    clear b7 HB6
    go_wp2_with fail
    go_ret
    exact ⟨by simp, unhide HB7⟩
  | true =>
    have hz := form_bounds hfm
    have hnil := why_nil hfm
    rw [← unhide HWS] at hnil
    have HSK := hide (fun x (hx : Below w5.heap.size w5 x) => implStateOk_any va l vc room sa set sc x ((unhide HP5).on hx) ((unhide HS5).on hx))
    generalize okZ l room set = ok at hnil HSK
    generalize sizeZ l room set = zz at HSZ hz
    have hzn : ¬ zz < 0 := by omega
    clear hfm HWS hz
    go_wp2_with fail
    refine (unhide HSZ).mono ?_
    rintro e w6 ⟨rfl, b6⟩
    have HSK6 := hide (unhide HSK w6 b6)
    have HP6 := hide ((unhide HP5).on b6)
    have HS6 := hide ((unhide HS5).on b6)
    have HW6 := hide ((unhide HW5).on b6)
    have HT6 := hide ((unhide HT5).on b6)
    have HB6 := hide ((unhide HB5).trans (b6.mono (unhide HB5).size))
    have hlt6 : w1.heap.size < w6.heap.size := Nat.lt_of_lt_of_le hlt5 b6.size
    rw [← b6.cell (p := ⟨w1.heap.size, _, none⟩) hlt5] at x0 x1
    clear HB5 b6 hlt5 HP5 HS5 HW5 HT5
    clear HSZ HSK
    go_wp2_with fail
    refine (unhide HSK6).mono ?_
    rintro e w7 ⟨rfl, b7⟩
    have HB7 := hide ((unhide HB6).trans (b7.mono (unhide HB6).size))
    clear b7 HB6 HSK6
    go_wp2_with fail
    go_ret
    exact ⟨by simp [hnil], unhide HB7⟩
end Go.Proofs.Ytmjmcbmfleeolan
