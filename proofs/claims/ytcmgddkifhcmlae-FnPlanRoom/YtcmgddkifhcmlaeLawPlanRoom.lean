/- The walk of the law FnPlanRoom: of every code and number of more room it answers true, and writes nothing that was there. -/
import Derived.Test.YtcmgddkifhcmlaeDrawPF
import Derived.Test.YtcmgddkifhcmlaeGPl
import Derived.Test.YtcmgddkifhcmlaeStepsA
import Derived.Test.YtcmgddkifhcmlaeGSf
import Derived.Test.YtcmgddkifhcmlaeGRf
import Derived.Test.YtcmgddkifhcmlaePfT
import Derived.Test.YtcmgddkifhcmlaeFormC
import Derived.Test.YtcmgddkifhcmlaeLdRoom
namespace Go.Proofs.Ytcmgddkifhcmlae
set_option linter.unusedVariables false
set_option linter.unusedSimpArgs false
open Go.RowKit Go.Deep

theorem plan_room {l : List PackD} {room room2 : Int} (h1 : room ≤ room2) (h2 : room2 ≤ 999) : ∀ (ss : List StepD) (set t : List Int), planDo l room set ss = some t → planDo l room2 set ss = some t
  | [], set, t, h => by simpa only [planDo] using h
  | s :: ss, set, t, h => by
    simp only [planDo] at h ⊢
    cases hd : implDo l room set s with
    | none => rw [hd] at h; cases h
    | some u =>
      rw [hd] at h
      rw [do_more hd h1 h2]
      exact plan_room h1 h2 ss u t h
theorem find_room {l : List PackD} {room room2 : Int} {set dst : List Int} {P : List StepD} (h : findZ l room set dst = some P) (h1 : room ≤ room2) (h2 : room2 ≤ 999) : ∃ P2, findZ l room2 set dst = some P2 ∧ P2.length ≤ P.length := by
  have hp := (find_some h).2.2.2.1
  refine find_least (ss := P) ?_
  unfold planZ at hp ⊢
  split at hp
  · rename_i hc
    rw [Bool.and_eq_true] at hc
    rw [okz_room hc.1 h1 h2, hc.2, Bool.and_self, if_pos rfl]
    exact plan_room h1 h2 P set dst hp
  · cases hp
theorem find_rooms {l : List PackD} {room : Int} {set dst : List Int} {P : List StepD} (h : findZ l room set dst = some P) : 0 ≤ room ∧ room ≤ 999 := by
  have h := (find_some h).1
  unfold okZ formB repoB inB at h
  simp only [Bool.and_eq_true, decide_eq_true_eq] at h
  exact h.1.2.1.1.2
set_option maxRecDepth 100000 in
set_option maxHeartbeats 8000000 in
theorem planroom_law (a : Option Addr) (n c : Nat) (a2 : Option Addr) (n2 c2 : Nat) (w : World) (h : CodeAt w.heap.size w a n) (hc : n ≤ c) (hc2 : c ≤ maxLen) (hd : n2 ≤ c2) (hd2 : c2 ≤ maxLen) :
    Calls Try.prog 6 #[.slice a n c, .slice a2 n2 c2] w fun e w' => e = .returned (.bool true) ∧ Below w.heap.size w w' := by
  have hmx := hc2
  unfold maxLen at hmx
  have hmd := hd2
  unfold maxLen at hmd
  by_cases hbig : 1048576 < n
  · have hb' : (1048576 : Int) < (n : Int) := by omega
    go_enter Try.func6, Try.ntmps6
    go_wp2_with fail
    go_ret
    exact ⟨rfl, Below.refl _ _⟩
  have hb' : ¬ (1048576 : Int) < (n : Int) := by omega
  by_cases hbig2 : 1048576 < n2
  · have hb2' : (1048576 : Int) < (n2 : Int) := by omega
    go_enter Try.func6, Try.ntmps6
    go_wp2_with fail
    go_ret
    exact ⟨rfl, Below.refl _ _⟩
  have hb2' : ¬ (1048576 : Int) < (n2 : Int) := by omega
  go_enter Try.func6, Try.ntmps6
  go_wp2_with fail
  refine (DrawPlanFind_V a n c w h (by omega) hc hc2).mono ?_
  rintro e w1 ⟨⟨v, room, u, tv, rfl, hV, ⟨set, hrow, hsl⟩, ⟨too, hrow2, hsl2⟩⟩, b1⟩
  obtain ⟨va, vn, vc, rfl, _⟩ := SlBy.slice hV
  obtain ⟨l, rfl, hP⟩ := V2.packs hV
  obtain ⟨sa, sc, hu, hset⟩ := RowI.set hrow (by omega)
  subst hu
  obtain ⟨ta, tc, hu2, hset2⟩ := RowI.set hrow2 (by omega)
  subst hu2
  have HSC : Hid (sa = none → sc = 0) := row_cap0 hrow
  have HTC : Hid (ta = none → tc = 0) := row_cap0 hrow2
  have HC1 := hide (V2.caps hV hP)
  have HP1 := hide hP
  have HS1 := hide hset
  have HT1 := hide hset2
  have HB1 := hide b1
  clear hV hrow hP hset b1 h hrow2 hset2
  go_upto_region 4 with fail
  obtain ⟨w2, hw2⟩ : ∃ w2, w2 = w1.alloc (.cells #[.slice va l.length vc, .int .i64 room] 25) := ⟨_, rfl⟩
  rw [← hw2]
  have b2 : Below w1.heap.size w1 w2 := by rw [hw2]; exact (Below.refl _ _).alloc (Nat.le_refl _) _
  have x0 : w2.cell? ⟨w1.heap.size, 0, none⟩ = some (.slice va l.length vc) := by rw [hw2]; simp
  have x1 : w2.cell? ⟨w1.heap.size, 1, none⟩ = some (.int .i64 room) := by rw [hw2]; simp
  have hlt2 : w1.heap.size < w2.heap.size := by rw [hw2]; simp
  have HP2 := hide ((unhide HP1).on b2)
  have HS2 := hide ((unhide HS1).on b2)
  have HC2 := hide ((unhide HC1).on b2)
  have HT2 := hide ((unhide HT1).on b2)
  have HB2 := hide ((unhide HB1).trans (b2.mono (unhide HB1).size))
  clear hw2 b2 HP1 HS1 HB1 HC1 HT1
  obtain ⟨od, hod⟩ : ∃ od, od = findZ l room set too := ⟨_, rfl⟩
  have hpl : (od.getD []).length ≤ 300 := by rw [hod]; exact find_len
  have HOD := hide hod
  have HC3X := hide (specPlanFind_any va l vc room sa set sc ta too tc w2 (unhide HP2) (unhide HC2) (unhide HS2) (unhide HSC) (unhide HT2))
  rw [← hod] at HC3X
  have HC4X := hide (fun x (hx : Below w2.heap.size w2 x) => implPlanFind_any va l vc room sa set sc ta too tc x ((unhide HP2).on hx) ((unhide HS2).on hx) ((unhide HT2).on hx))
  rw [← hod] at HC4X
  clear hod
  go_wp2_with fail
  refine (unhide HC3X).mono ?_
  rintro e w3 ⟨⟨v3, rfl, hr3⟩, b3⟩
  obtain ⟨pa, pc, hv3, _, _, hW3⟩ := StepsAt.of_row hr3 (by omega)
  subst hv3
  have HW3 := hide hW3
  have HC4b := hide (unhide HC4X w3 b3)
  have HP3 := hide ((unhide HP2).on b3)
  have HS3 := hide ((unhide HS2).on b3)
  have HC3 := hide ((unhide HC2).on b3)
  have HT3 := hide ((unhide HT2).on b3)
  have HB3 := hide ((unhide HB2).trans (b3.mono (unhide HB2).size))
  have hlt3 : w1.heap.size < w3.heap.size := Nat.lt_of_lt_of_le hlt2 b3.size
  rw [← b3.cell (p := ⟨w1.heap.size, _, none⟩) hlt2] at x0 x1
  clear HB2 b3 hlt2 HP2 HS2 HC2 HT2
  clear hr3 hW3 HC3X HC4X
  go_wp2_with fail
  refine (unhide HC4b).mono ?_
  rintro e w4 ⟨⟨v4, rfl, hr4⟩, b4⟩
  obtain ⟨ka, kc, hv4, hkl, hkm, hK4⟩ := StepsAt.of_row hr4 (by omega)
  subst hv4
  have HK4 := hide hK4
  have HKO4 := hide hr4
  have HP4 := hide ((unhide HP3).on b4)
  have HS4 := hide ((unhide HS3).on b4)
  have HC4 := hide ((unhide HC3).on b4)
  have HT4 := hide ((unhide HT3).on b4)
  have HW4 := hide ((unhide HW3).on b4)
  have HB4 := hide ((unhide HB3).trans (b4.mono (unhide HB3).size))
  have hlt4 : w1.heap.size < w4.heap.size := Nat.lt_of_lt_of_le hlt3 b4.size
  rw [← b4.cell (p := ⟨w1.heap.size, _, none⟩) hlt3] at x0 x1
  clear HB3 b4 hlt3 HP3 HS3 HC3 HT3 HW3
  clear hr4 hK4 HC4b
  have HLD := hide (fun x (hx : Below w4.heap.size w4 x) => ldSteps_same ka (od.getD []) kc pa pc x ((unhide HK4).on hx) ((unhide HW4).on hx))
  cases od with
  | none =>
    clear HOD
    simp only [Option.getD_none, Option.isSome_none, List.length_nil] at HLD HK4 HW4 HKO4 hkl ⊢
    go_wp2_with fail
    refine (unhide HLD w4 (Below.refl _ _)).mono ?_
    rintro e w5 ⟨rfl, b5⟩
    have HLD5 := hide (unhide HLD w5 b5)
    have HB5 := hide ((unhide HB4).trans (b5.mono (unhide HB4).size))
    clear b5 HB4 HLD
    go_wp2_with fail
    refine (unhide HLD5).mono ?_
    rintro e w6 ⟨rfl, b6⟩
    have HB6 := hide ((unhide HB5).trans (b6.mono (unhide HB5).size))
    clear b6 HB5 HLD5
    go_wp2_with fail
    go_ret
    exact ⟨by simp, unhide HB6⟩
  | some P =>
    simp only [Option.getD_some, Option.isSome_some] at HLD HK4 HW4 HKO4 hpl hkl ⊢

    go_wp2_with fail
    refine (unhide HLD w4 (Below.refl _ _)).mono ?_
    rintro e w5 ⟨rfl, b5⟩
    have HKO5 := hide (ownsRow_on (unhide HKO4) b5)
    have HP5 := hide ((unhide HP4).on b5)
    have HS5 := hide ((unhide HS4).on b5)
    have HC5 := hide ((unhide HC4).on b5)
    have HT5 := hide ((unhide HT4).on b5)
    have HW5 := hide ((unhide HW4).on b5)
    have HK5 := hide ((unhide HK4).on b5)
    have HB5 := hide ((unhide HB4).trans (b5.mono (unhide HB4).size))
    have hlt5 : w1.heap.size < w5.heap.size := Nat.lt_of_lt_of_le hlt4 b5.size
    rw [← b5.cell (p := ⟨w1.heap.size, _, none⟩) hlt4] at x0 x1
    clear HB4 b5 hlt4 HP4 HS4 HC4 HT4 HW4 HK4
    clear HLD HKO4
    obtain ⟨more, hmo⟩ : ∃ more : Nat, more = n2 % 9 := ⟨_, rfl⟩
    have hm8 : more ≤ 8 := by rw [hmo]; omega
    have hmod : Int.tmod (n2 : Int) 9 = (more : Int) := by rw [Int.tmod_eq_emod_of_nonneg (by omega), hmo]; norm_cast
    have hwk : IntKind.i64.wrap (more : Int) = (more : Int) := by rw [IntKind.wrap_i64]; omega
    obtain ⟨hr0, hr1⟩ := find_rooms (unhide HOD).symm
    obtain ⟨hz1, hz2⟩ := roomZ_le (room := room) (more := (more : Int)) hr1 (by omega)
    obtain ⟨P2, hP2, hle⟩ := find_room (unhide HOD).symm hz1 hz2
    have HLR := hide (ldRoom_any (.slice va l.length vc) room (more : Int) hr0 hr1 (by omega) (by omega) w5 ⟨_, _, _, rfl⟩)
    generalize roomZ room (more : Int) = room2 at HLR hP2
    have HPF := hide (fun x (hx : Below w5.heap.size w5 x) => implPlanFind_any va l vc room2 sa set sc ta too tc x ((unhide HP5).on hx) ((unhide HS5).on hx) ((unhide HT5).on hx))
    rw [hP2] at HPF
    have hlz : (P2.length : Int) ≤ (P.length : Int) := by omega
    clear hmo hm8 hr0 hr1 hz1 hz2 hP2 hle HOD
    go_wp2_with fail
    refine (unhide HLR).mono ?_
    rintro e w6 ⟨rfl, b6⟩
    have HPF6 := hide (unhide HPF w6 b6)
    have HB6 := hide ((unhide HB5).trans (b6.mono (unhide HB5).size))
    clear b6 HB5 HLR HPF
    go_wp2_with fail
    refine (unhide HPF6).mono ?_
    rintro e w7 ⟨⟨v7, rfl, hr7⟩, b7⟩
    obtain ⟨xa, xc, hxv⟩ : ∃ xa xc, v7 = .slice xa P2.length xc := by
      rcases hr7.2 with ⟨hv, h0⟩ | ⟨g, cap, cur, hv, _⟩
      · exact ⟨none, 0, by rw [hv]; simp at h0; rw [h0]; rfl⟩
      · exact ⟨_, _, hv⟩
    subst hxv
    have HB7 := hide ((unhide HB6).trans (b7.mono (unhide HB6).size))
    clear b7 HB6 HPF6 hr7
    simp only [Option.isSome_some]
    go_wp2_with fail
    go_ret
    exact ⟨by simp, unhide HB7⟩
end Go.Proofs.Ytcmgddkifhcmlae
