/- The walk of the law FnPlanNull: of every code it answers true, and writes nothing that was there. -/
import Derived.Test.YtcmgddkifhcmlaeDrawPF
import Derived.Test.YtcmgddkifhcmlaeGPl
import Derived.Test.YtcmgddkifhcmlaeStepsA
import Derived.Test.YtcmgddkifhcmlaeGSf
import Derived.Test.YtcmgddkifhcmlaeGRf
import Derived.Test.YtcmgddkifhcmlaePfT
import Derived.Test.YtcmgddkifhcmlaeFormC
namespace Go.Proofs.Ytcmgddkifhcmlae
set_option linter.unusedVariables false
set_option linter.unusedSimpArgs false
open Go.RowKit Go.Deep

set_option maxRecDepth 100000 in
set_option maxHeartbeats 8000000 in
theorem plannull_law (a : Option Addr) (n c : Nat) (w : World) (h : CodeAt w.heap.size w a n) (hc : n ≤ c) (hc2 : c ≤ maxLen) :
    Calls Try.prog 7 #[.slice a n c] w fun e w' => e = .returned (.bool true) ∧ Below w.heap.size w w' := by
  have hmx := hc2
  unfold maxLen at hmx
  by_cases hbig : 1048576 < n
  · have hb' : (1048576 : Int) < (n : Int) := by omega
    go_enter Try.func7, Try.ntmps7
    go_wp2_with fail
    go_ret
    exact ⟨rfl, Below.refl _ _⟩
  have hb' : ¬ (1048576 : Int) < (n : Int) := by omega
  go_enter Try.func7, Try.ntmps7
  go_wp2_with fail
  refine (DrawPlanFind_V a n c w h (by omega) hc hc2).mono ?_
  rintro e w1 ⟨⟨v, room, u, tv, rfl, hV, ⟨set, hrow, hsl⟩, ⟨too, hrow2, hsl2⟩⟩, b1⟩
  obtain ⟨va, vn, vc, rfl, _⟩ := SlBy.slice hV
  obtain ⟨l, rfl, hP⟩ := V2.packs hV
  obtain ⟨sa, sc, hu, hset⟩ := RowI.set hrow (by omega)
  subst hu
  obtain ⟨ta, tc, hu2, hset2⟩ := RowI.set hrow2 (by omega)
  subst hu2
  have HSC : Hid (sa = none → sc = 0) := row_cap0 hrow
  have HTC : Hid (ta = none → tc = 0) := row_cap0 hrow2
  have HC1 := hide (V2.caps hV hP)
  have HP1 := hide hP
  have HS1 := hide hset
  have HT1 := hide hset2
  have HB1 := hide b1
  clear hV hrow hP hset b1 h hrow2 hset2
  go_upto_region 4 with fail
  obtain ⟨w2, hw2⟩ : ∃ w2, w2 = w1.alloc (.cells #[.slice va l.length vc, .int .i64 room] 25) := ⟨_, rfl⟩
  rw [← hw2]
  have b2 : Below w1.heap.size w1 w2 := by rw [hw2]; exact (Below.refl _ _).alloc (Nat.le_refl _) _
  have x0 : w2.cell? ⟨w1.heap.size, 0, none⟩ = some (.slice va l.length vc) := by rw [hw2]; simp
  have x1 : w2.cell? ⟨w1.heap.size, 1, none⟩ = some (.int .i64 room) := by rw [hw2]; simp
  have hlt2 : w1.heap.size < w2.heap.size := by rw [hw2]; simp
  have HP2 := hide ((unhide HP1).on b2)
  have HS2 := hide ((unhide HS1).on b2)
  have HC2 := hide ((unhide HC1).on b2)
  have HT2 := hide ((unhide HT1).on b2)
  have HB2 := hide ((unhide HB1).trans (b2.mono (unhide HB1).size))
  clear hw2 b2 HP1 HS1 HB1 HC1 HT1
  have hnull := find_null (l := l) (room := room) (set := set)
  have HC3X := hide (implPlanFind_any va l vc room sa set sc sa set sc w2 (unhide HP2) (unhide HS2) (unhide HS2))
  have HC4X := hide (fun x (hx : Below w2.heap.size w2 x) => specPlanFind_any va l vc room sa set sc sa set sc x ((unhide HP2).on hx) ((unhide HC2).on hx) ((unhide HS2).on hx) (unhide HSC) ((unhide HS2).on hx))
  have HC5X := hide (fun x (hx : Below w2.heap.size w2 x) => implStateOk_any va l vc room sa set sc x ((unhide HP2).on hx) ((unhide HS2).on hx))
  rw [hnull] at HC3X HC4X
  have hod : ((if okZ l room set = true then some ([] : List StepD) else none).getD []) = [] ∧ (if okZ l room set = true then some ([] : List StepD) else none).isSome = okZ l room set := by
    cases okZ l room set <;> simp
  obtain ⟨od, hodd⟩ : ∃ od, od = (if okZ l room set = true then some ([] : List StepD) else none) := ⟨_, rfl⟩
  rw [← hodd] at hod HC3X HC4X
  obtain ⟨hod1, hod2⟩ := hod
  generalize okZ l room set = ok at hod2 HC5X
  clear hodd hnull
  go_wp2_with fail
  refine (unhide HC3X).mono ?_
  rintro e w3 ⟨⟨v3, rfl, hr3⟩, b3⟩
  rw [hod1] at hr3
  rw [hod2]
  obtain ⟨pa, pc, hv3, _, _, hW3⟩ := StepsAt.of_row hr3 (by simp)
  subst hv3
  have HW3 := hide hW3
  have HC4b := hide (unhide HC4X w3 b3)
  have HC5b := hide (fun x (hx : Below w3.heap.size w3 x) => unhide HC5X x (b3.trans (hx.mono b3.size)))
  have HP3 := hide ((unhide HP2).on b3)
  have HS3 := hide ((unhide HS2).on b3)
  have HC3 := hide ((unhide HC2).on b3)
  have HT3 := hide ((unhide HT2).on b3)
  have HB3 := hide ((unhide HB2).trans (b3.mono (unhide HB2).size))
  have hlt3 : w1.heap.size < w3.heap.size := Nat.lt_of_lt_of_le hlt2 b3.size
  rw [← b3.cell (p := ⟨w1.heap.size, _, none⟩) hlt2] at x0 x1
  clear HB2 b3 hlt2 HP2 HS2 HC2 HT2
  clear hr3 hW3 HC3X HC4X HC5X
  go_wp2_with fail
  refine (unhide HC4b).mono ?_
  rintro e w4 ⟨⟨v4, rfl, hr4⟩, b4⟩
  rw [hod1] at hr4
  rw [hod2]
  obtain ⟨ka, kc, hv4, _, _, hK4⟩ := StepsAt.of_row hr4 (by simp)
  subst hv4
  have HK4 := hide hK4
  have HC5c := hide (fun x (hx : Below w4.heap.size w4 x) => unhide HC5b x (b4.trans (hx.mono b4.size)))
  have HP4 := hide ((unhide HP3).on b4)
  have HS4 := hide ((unhide HS3).on b4)
  have HC4 := hide ((unhide HC3).on b4)
  have HT4 := hide ((unhide HT3).on b4)
  have HW4 := hide ((unhide HW3).on b4)
  have HB4 := hide ((unhide HB3).trans (b4.mono (unhide HB3).size))
  have hlt4 : w1.heap.size < w4.heap.size := Nat.lt_of_lt_of_le hlt3 b4.size
  rw [← b4.cell (p := ⟨w1.heap.size, _, none⟩) hlt3] at x0 x1
  clear HB3 b4 hlt3 HP3 HS3 HC3 HT3 HW3
  clear hr4 hK4 HC4b HC5b hod1 hod2
  have HLD := hide (ldSteps_same pa [] pc ka kc w4 (unhide HW4) (unhide HK4))
  simp only [List.length_nil] at HLD ⊢
  go_wp2_with fail
  refine (unhide HLD).mono ?_
  rintro e w5 ⟨rfl, b5⟩
  have HC5d := hide (unhide HC5c w5 b5)
  have HP5 := hide ((unhide HP4).on b5)
  have HS5 := hide ((unhide HS4).on b5)
  have HC5 := hide ((unhide HC4).on b5)
  have HT5 := hide ((unhide HT4).on b5)
  have HW5 := hide ((unhide HW4).on b5)
  have HK5 := hide ((unhide HK4).on b5)
  have HB5 := hide ((unhide HB4).trans (b5.mono (unhide HB4).size))
  have hlt5 : w1.heap.size < w5.heap.size := Nat.lt_of_lt_of_le hlt4 b5.size
  rw [← b5.cell (p := ⟨w1.heap.size, _, none⟩) hlt4] at x0 x1
  clear HB4 b5 hlt4 HP4 HS4 HC4 HT4 HW4 HK4
  clear HLD HC5c
  go_wp2_with fail
  refine (unhide HC5d).mono ?_
  rintro e w6 ⟨rfl, b6⟩
  have HB6 := hide ((unhide HB5).trans (b6.mono (unhide HB5).size))
  clear b6 HB5 HC5d
  go_wp2_with fail
  go_ret
  exact ⟨by simp, unhide HB6⟩
end Go.Proofs.Ytcmgddkifhcmlae
