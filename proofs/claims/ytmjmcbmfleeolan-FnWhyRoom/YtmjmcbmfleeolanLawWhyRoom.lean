/- The walk of the law FnWhyRoom: of every code it answers true, and writes nothing that was there. -/
import Derived.Test.YtmjmcbmfleeolanDrawW
import Derived.Test.YtmjmcbmfleeolanWhyC
import Derived.Test.YtmjmcbmfleeolanWhyS
import Derived.Test.YtmjmcbmfleeolanWhyQ
import Derived.Test.YtmjmcbmfleeolanWhyN
import Derived.Test.YtmjmcbmfleeolanLdRoom
import Derived.Test.YtmjmcbmfleeolanSlS
namespace Go.Proofs.Ytmjmcbmfleeolan
set_option linter.unusedVariables false
set_option linter.unusedSimpArgs false
open Go.RowKit Go.Deep

/-- The worlds of a region that makes faults. -/
structure CV (W : World) (ss : List StepD) (b : Bool) (us : List Value) (x : World) : Prop where
  below : Below W.heap.size W x
  row : ∀ y, us = [y] → ∃ a c, y = .slice a ss.length c ∧ StepsAt x a ss
theorem CV.on {W : World} {ss : List StepD} {b b' : Bool} {us : List Value} {x y : World} (h : CV W ss b us x) (hb : Below x.heap.size x y) : CV W ss b' us y := by
  refine ⟨h.below.trans (hb.mono h.below.size), fun z hz => ?_⟩
  obtain ⟨a, c, h1, h2⟩ := h.row z hz
  exact ⟨a, c, h1, h2.on hb⟩
theorem whys_part {B : Nat} {w : World} {qa : Option Addr} {ss : List StepD} {qc k : Nat} (h : WR B w (.slice qa ss.length qc) ss) (hk : k ≤ ss.length) : ss.length ≤ qc ∧ qc ≤ maxLen ∧ ∃ da dc, FromD qa ss.length qc k da dc ∧ ∀ x : World, StepsAt x qa ss → StepsAt x da (ss.drop k) := by
  rcases h.2 with ⟨hv, h0⟩ | ⟨g, cap, cur, hv, hB, hc, hcap, hcm, hsz, hx⟩
  · simp at hv
    obtain ⟨rfl, h1, rfl⟩ := hv
    subst h1
    exact ⟨by simp, by simp [maxLen], none, 0, Or.inl ⟨rfl, rfl, by simpa using hk, ⟨rfl, rfl⟩, rfl⟩, fun x hx => ⟨by simp, Or.inl (by simp)⟩⟩
  · simp at hv
    obtain ⟨rfl, rfl⟩ := hv
    refine ⟨hcap, hcm, ?_⟩
    by_cases e : qc = k
    · exact ⟨_, _, Or.inr (Or.inl ⟨g, rfl, e, rfl, rfl⟩), fun x hx => ⟨by simp; have := hx.1; omega, Or.inl (List.drop_eq_nil_of_le (by omega))⟩⟩
    · exact ⟨_, _, Or.inr (Or.inr ⟨g, rfl, e, rfl, rfl⟩), fun x hx => by have := hx.drop k; rwa [Nat.zero_add] at this⟩
/-- The first fault is of room just if room lacks. -/
theorem why_head {l : List PackD} {room : Int} {set : List Int} (h : formB l room set = true) (hl : 0 < (whyZ l room set).length) (hk : ((whyZ l room set).getD 0 dStep).kind = 1) : ((whyZ l room set).getD 0 dStep).out = bitSize l (setBits set) - room ∧ 0 < bitSize l (setBits set) - room ∧ (whyZ l room set).drop 1 = (placesTo (setBits set) 8).flatMap fun p => partL l (setBits set) p 3 := by
  have e : whyZ l room set = faultsL l room (setBits set) := by unfold whyZ; rw [h]; rfl
  rw [e] at hl hk ⊢
  unfold faultsL at hl hk ⊢
  by_cases hc : bitSize l (setBits set) - room ≤ 0
  · have e2 : lackingL l room (setBits set) = [] := by unfold lackingL; rw [if_pos hc]
    rw [e2, List.nil_append] at hl hk
    exfalso
    have hm : ((placesTo (setBits set) 8).flatMap fun p => partL l (setBits set) p 3).getD 0 dStep ∈ (placesTo (setBits set) 8).flatMap fun p => partL l (setBits set) p 3 := getD_mem hl
    obtain ⟨p, _, hp⟩ := List.mem_flatMap.1 hm
    have hne : ∀ s ∈ partL l (setBits set) p 3, s.kind ≠ 1 := fun s hs => by
      unfold partL at hs
      obtain ⟨j, _, hj⟩ := List.mem_flatMap.1 hs
      match j, hj with
      | 0, hj =>
        obtain ⟨q, _, rfl⟩ := List.mem_map.1 hj
        show (2 : Int) ≠ 1
        decide
      | 1, hj =>
        have : ∀ k, ∀ s ∈ lackRows (setBits set) (p : Int) ((l.getD p dPack).deps.map (rowN l)) k, s.kind = 3 := fun k => by
          induction k with
          | zero => intro s hs; cases hs
          | succ k ih =>
            intro s hs
            unfold lackRows at hs
            split at hs
            · exact ih s hs
            · rcases List.mem_append.1 hs with hs | hs
              · exact ih s hs
              · simp at hs; rw [hs]
        rw [this _ s hj]
        decide
      | j + 2, hj =>
        obtain ⟨q, _, rfl⟩ := List.mem_map.1 hj
        show (4 : Int) ≠ 1
        decide
    exact hne _ hp hk
  · have e2 : lackingL l room (setBits set) = [⟨1, -1, bitSize l (setBits set) - room⟩] := by unfold lackingL; rw [if_neg hc]
    rw [e2]
    refine ⟨rfl, by omega, rfl⟩
theorem form_room {l : List PackD} {room room2 : Int} {set : List Int} (h : formB l room set = true) (h1 : 0 ≤ room2) (h2 : room2 ≤ 999) : formB l room2 set = true := by
  unfold formB repoB inB at h ⊢
  simp only [Bool.and_eq_true, decide_eq_true_eq] at h ⊢
  obtain ⟨ha, ⟨⟨hb, hc, hd⟩, he⟩, hf⟩ := h
  exact ⟨ha, ⟨⟨hb, h1, h2⟩, he⟩, hf⟩
/-- With as much room as lacks none lacks. -/
theorem why_room_more {l : List PackD} {room : Int} {set : List Int} (h : formB l room set = true) (hl : 0 < (whyZ l room set).length) (hk : ((whyZ l room set).getD 0 dStep).kind = 1) (hm : room + ((whyZ l room set).getD 0 dStep).out ≤ 999) : whyZ l (room + ((whyZ l room set).getD 0 dStep).out) set = (whyZ l room set).drop 1 := by
  obtain ⟨h1, h2, h3⟩ := why_head h hl hk
  have hb := why_room h
  rw [h1] at hm ⊢
  rw [h3]
  have e : room + (bitSize l (setBits set) - room) = bitSize l (setBits set) := by omega
  rw [e] at hm ⊢
  have hf := form_room (room2 := bitSize l (setBits set)) h (by omega) hm
  unfold whyZ
  rw [hf, if_pos rfl]
  unfold faultsL
  have e2 : lackingL l (bitSize l (setBits set)) (setBits set) = [] := by unfold lackingL; rw [if_pos (by omega)]
  rw [e2, List.nil_append]
set_option maxRecDepth 100000 in
set_option maxHeartbeats 8000000 in
theorem whyroom_law (a : Option Addr) (n c : Nat) (w : World) (h : CodeAt w.heap.size w a n) (hc : n ≤ c) (hc2 : c ≤ maxLen) :
    Calls Try.prog 6 #[.slice a n c] w fun e w' => e = .returned (.bool true) ∧ Below w.heap.size w w' := by
  have hmx := hc2
  unfold maxLen at hmx
  by_cases hbig : 1048576 < n
  · have hb' : (1048576 : Int) < (n : Int) := by omega
    go_enter Try.func6, Try.ntmps6
    go_wp2_with fail
    go_ret
    exact ⟨rfl, Below.refl _ _⟩
  have hb' : ¬ (1048576 : Int) < (n : Int) := by omega
  go_enter Try.func6, Try.ntmps6
  go_wp2_with fail
  refine (DrawWhyNot_V a n c w h (by omega) hc hc2).mono ?_
  rintro e w1 ⟨⟨v, room, u, rfl, hV, set, hrow, hsl⟩, b1⟩
  obtain ⟨va, vn, vc, rfl, _⟩ := SlBy.slice hV
  obtain ⟨l, rfl, hP⟩ := V2.packs hV
  obtain ⟨sa, sc, hu, hset⟩ := RowI.set hrow (by omega)
  subst hu
  have hscl : set.length ≤ sc := row_le hrow
  have HP1 := hide hP
  have HS1 := hide hset
  have HB1 := hide b1
  clear hV hrow hP hset b1 h
  go_upto_region 4 with fail
  obtain ⟨w2, hw2⟩ : ∃ w2, w2 = w1.alloc (.cells #[.slice va l.length vc, .int .i64 room] 25) := ⟨_, rfl⟩
  rw [← hw2]
  have b2 : Below w1.heap.size w1 w2 := by rw [hw2]; exact (Below.refl _ _).alloc (Nat.le_refl _) _
  have x0 : w2.cell? ⟨w1.heap.size, 0, none⟩ = some (.slice va l.length vc) := by rw [hw2]; simp
  have x1 : w2.cell? ⟨w1.heap.size, 1, none⟩ = some (.int .i64 room) := by rw [hw2]; simp
  have hlt2 : w1.heap.size < w2.heap.size := by rw [hw2]; simp
  have HP2 := hide ((unhide HP1).on b2)
  have HS2 := hide ((unhide HS1).on b2)
  have HB2 := hide ((unhide HB1).trans (b2.mono (unhide HB1).size))
  clear hw2 b2 HP1 HS1 HB1
  obtain ⟨ws, hws⟩ : ∃ ws, ws = whyZ l room set := ⟨_, rfl⟩
  have hwl : ws.length ≤ 400 := by rw [hws]; exact whyZ_len l room set
  have HWS := hide hws
  have HC3 := hide (specWhyNot_any va l vc room sa set sc w2 (unhide HP2) (unhide HS2) hscl)
  rw [← why_same, ← hws] at HC3
  have HC4 := hide (fun x (hx : Below w2.heap.size w2 x) => implWhyNot_any va l vc room sa set sc x ((unhide HP2).on hx) ((unhide HS2).on hx))
  rw [← hws] at HC4
  clear hws
  go_wp2_with fail
  refine (unhide HC3).mono ?_
  rintro e w3 ⟨⟨v3, rfl, hr3⟩, b3⟩
  obtain ⟨pa, pc, hv3, hW3⟩ := hr3.at (by omega)
  subst hv3
  have HW3 := hide hW3
  have HC4b := hide (unhide HC4 w3 b3)
  have HP3 := hide ((unhide HP2).on b3)
  have HS3 := hide ((unhide HS2).on b3)
  have HB3 := hide ((unhide HB2).trans (b3.mono (unhide HB2).size))
  have hlt3 : w1.heap.size < w3.heap.size := Nat.lt_of_lt_of_le hlt2 b3.size
  rw [← b3.cell (p := ⟨w1.heap.size, _, none⟩) hlt2] at x0 x1
  clear HB2 b3 hlt2 HP2 HS2
  clear hr3 hW3 HC3 HC4
  go_wp2_with fail
  refine (unhide HC4b).mono ?_
  rintro e w4 ⟨⟨v4, rfl, hr4⟩, b4⟩
  obtain ⟨ta, tc, hv4, hT4⟩ := hr4.at (by omega)
  subst hv4
  have HPT := hide (fun k hk => whys_part (k := k) hr4 hk)
  have HT4 := hide hT4
  have HP4 := hide ((unhide HP3).on b4)
  have HS4 := hide ((unhide HS3).on b4)
  have HW4 := hide ((unhide HW3).on b4)
  have HB4 := hide ((unhide HB3).trans (b4.mono (unhide HB3).size))
  have hlt4 : w1.heap.size < w4.heap.size := Nat.lt_of_lt_of_le hlt3 b4.size
  rw [← b4.cell (p := ⟨w1.heap.size, _, none⟩) hlt3] at x0 x1
  clear HB3 b4 hlt3 HP3 HS3 HW3
  clear hr4 hT4 HC4b
  have HLD := hide (fun x (hx : Below w4.heap.size w4 x) => ldWhys_same ta ws tc pa pc x ((unhide HT4).on hx) ((unhide HW4).on hx))
  have hcap : ws.length ≤ tc := (unhide HPT 0 (Nat.zero_le _)).1
  by_cases hem : ws.length = 0
  · have hb0 : ((ws.length : Int) == 0) = true := beq_iff_eq.2 (by omega)
    clear hem HWS
    go_upto_region 6 with fail
    refine wp_region_mix (k := 100) 25 [] [.slice ta ws.length tc, .slice pa ws.length pc, .bool true, .bool false, .bool false, .slice ta ws.length tc, .int .i64 (ws.length : Int), .bool true, .bool true, .bool true, undef, undef, undef, undef, undef, .bool true, .bool true, undef, undef, undef, undef, undef, undef, undef, undef] (CZ w4) (by kernel_rfl) (by kernel_rfl) (by kernel_rfl) (by kernel_rfl) (by kernel_rfl) (by kernel_rfl) ⟨(Below.refl _ _).drew⟩ ?_ ?_ ?_
    · intro full hfull i oo hi hns ho x fl us hC hb
      simp [putAll, slotOf, Act.put] at hfull
      subst hfull
      have bx := hC.below
      rw [← bx.cell (p := ⟨w1.heap.size, _, none⟩) (by simp; omega)] at x0 x1
      have hC0 := hC.on (b' := fl) (Below.refl _ _)
      match i with
      | 0 => simp at ho; subst ho; simp [gwp, Region.wanted, yielded]; go_simp; first | done | exact hC0 | exact ⟨rfl, hC0⟩ | (simp; exact hC0) | (refine ⟨by simp <;> omega, hC0⟩) | omega
      | 1 => simp at ho; subst ho; simp [gwp, Region.wanted, yielded]; go_simp; first | done | exact hC0 | exact ⟨rfl, hC0⟩ | (simp; exact hC0) | (refine ⟨by simp <;> omega, hC0⟩) | omega
      | 2 =>
        simp at ho; subst ho; simp [gwp, Region.wanted, yielded]; go_simp
        refine (unhide HLD x bx).mono ?_
        rintro e w' ⟨rfl, hb2⟩
        go_simp
        first | done | exact hC.on hb2 | exact ⟨rfl, hC.on hb2⟩ | (simp; exact hC.on hb2)
      | 3 => simp at ho; subst ho; simp [gwp, Region.wanted, yielded]; go_simp; first | done | exact hC0 | exact ⟨rfl, hC0⟩ | (simp; exact hC0) | (refine ⟨by simp <;> omega, hC0⟩) | omega
      | 4 => simp at ho; subst ho; simp [gwp, Region.wanted, yielded]; go_simp; first | done | exact hC0 | exact ⟨rfl, hC0⟩ | (simp; exact hC0) | (refine ⟨by simp <;> omega, hC0⟩) | omega
      | 5 => simp at ho; subst ho; simp [gwp, Region.wanted, yielded]; go_simp; first | done | exact hC0 | exact ⟨rfl, hC0⟩ | (simp; exact hC0) | (refine ⟨by simp <;> omega, hC0⟩) | omega
      | 6 => simp at ho; subst ho; simp [gwp, Region.wanted, yielded]; go_simp; first | done | exact hC0 | exact ⟨rfl, hC0⟩ | (simp; exact hC0) | (refine ⟨by simp <;> omega, hC0⟩) | omega
      | 7 => simp at ho; subst ho; simp [gwp, Region.wanted, yielded]; go_simp; first | done | exact hC0 | exact ⟨rfl, hC0⟩ | (simp; exact hC0) | (refine ⟨by simp <;> omega, hC0⟩) | omega
      | 8 => simp at ho; subst ho; simp [gwp, Region.wanted, yielded]; go_simp; first | done | exact hC0 | exact ⟨rfl, hC0⟩ | (simp; exact hC0) | (refine ⟨by simp <;> omega, hC0⟩) | omega
      | 9 => simp at ho; subst ho; simp [gwp, Region.wanted, yielded]; go_simp; first | done | exact hC0 | exact ⟨rfl, hC0⟩ | (simp; exact hC0) | (refine ⟨by simp <;> omega, hC0⟩) | omega
      | 10 => simp at ho; subst ho; simp [gwp, Region.wanted, yielded]; go_simp; first | done | exact hC0 | exact ⟨rfl, hC0⟩ | (simp; exact hC0) | (refine ⟨by simp <;> omega, hC0⟩) | omega
      | 11 => simp at ho; subst ho; simp [gwp, Region.wanted, yielded]; go_simp; first | done | exact hC0 | exact ⟨rfl, hC0⟩ | (simp; exact hC0) | (refine ⟨by simp <;> omega, hC0⟩) | omega
      | 12 => simp at ho; subst ho; simp [gwp, Region.wanted, yielded]; go_simp; first | done | exact hC0 | exact ⟨rfl, hC0⟩ | (simp; exact hC0) | (refine ⟨by simp <;> omega, hC0⟩) | omega
      | 13 => simp at ho; subst ho; simp [gwp, Region.wanted, yielded]; go_simp; first | done | exact hC0 | exact ⟨rfl, hC0⟩ | (simp; exact hC0) | (refine ⟨by simp <;> omega, hC0⟩) | omega
      | 14 => simp at ho; subst ho; simp [gwp, Region.wanted, yielded]; go_simp; first | done | exact hC0 | exact ⟨rfl, hC0⟩ | (simp; exact hC0) | (refine ⟨by simp <;> omega, hC0⟩) | omega
      | 15 => simp at ho; subst ho; simp [gwp, Region.wanted, yielded]; go_simp; first | done | exact hC0 | exact ⟨rfl, hC0⟩ | (simp; exact hC0) | (refine ⟨by simp <;> omega, hC0⟩) | omega
      | 16 => simp at ho; subst ho; simp [gwp, Region.wanted, yielded]; go_simp; first | done | exact hC0 | exact ⟨rfl, hC0⟩ | (simp; exact hC0) | (refine ⟨by simp <;> omega, hC0⟩) | omega
      | 17 => simp at ho; subst ho; simp [gwp, Region.wanted, yielded]; go_simp; first | done | exact hC0 | exact ⟨rfl, hC0⟩ | (simp; exact hC0) | (refine ⟨by simp <;> omega, hC0⟩) | omega
      | 18 => simp at ho; subst ho; simp [gwp, Region.wanted, yielded]; go_simp; first | done | exact hC0 | exact ⟨rfl, hC0⟩ | (simp; exact hC0) | (refine ⟨by simp <;> omega, hC0⟩) | omega
      | 19 => simp at ho; subst ho; simp [gwp, Region.wanted, yielded]; go_simp; first | done | exact hC0 | exact ⟨rfl, hC0⟩ | (simp; exact hC0) | (refine ⟨by simp <;> omega, hC0⟩) | omega
      | 20 => simp at ho; subst ho; simp [gwp, Region.wanted, yielded]; go_simp; first | done | exact hC0 | exact ⟨rfl, hC0⟩ | (simp; exact hC0) | (refine ⟨by simp <;> omega, hC0⟩) | omega
      | 21 => simp at ho; subst ho; simp [gwp, Region.wanted, yielded]; go_simp; first | done | exact hC0 | exact ⟨rfl, hC0⟩ | (simp; exact hC0) | (refine ⟨by simp <;> omega, hC0⟩) | omega
      | 22 => simp at ho; subst ho; simp [gwp, Region.wanted, yielded]; go_simp; first | done | exact hC0 | exact ⟨rfl, hC0⟩ | (simp; exact hC0) | (refine ⟨by simp <;> omega, hC0⟩) | omega
      | 23 => simp at ho; subst ho; simp [gwp, Region.wanted, yielded]; go_simp; first | done | exact hC0 | exact ⟨rfl, hC0⟩ | (simp; exact hC0) | (refine ⟨by simp <;> omega, hC0⟩) | omega
      | 24 => simp at ho; subst ho; simp [gwp, Region.wanted, yielded]; go_simp; first | done | exact hC0 | exact ⟨rfl, hC0⟩ | (simp; exact hC0) | (refine ⟨by simp <;> omega, hC0⟩) | omega
      | i + 25 => omega
    · intro full hfull us j hj
      simp at hj
    intro full hfull us w5 hus hC
    simp [putAll, slotOf, Act.put] at hfull
    subst hfull
    match us, hus with
    | [], _ =>
    have b5 := hC.below
    have HP5 := hide ((unhide HP4).on b5)
    have HS5 := hide ((unhide HS4).on b5)
    have HW5 := hide ((unhide HW4).on b5)
    have HT5 := hide ((unhide HT4).on b5)
    have HB5 := hide ((unhide HB4).trans (b5.mono (unhide HB4).size))
    have hlt5 : w1.heap.size < w5.heap.size := Nat.lt_of_lt_of_le hlt4 b5.size
    rw [← b5.cell (p := ⟨w1.heap.size, _, none⟩) hlt4] at x0 x1
    clear HB4 b5 hlt4 HP4 HS4 HW4 HT4
    clear hC HLD
    simp [putP]
    go_wp2_with fail
    refine (ldWhys_same ta ws tc pa pc w5 (unhide HT5) (unhide HW5)).mono ?_
    rintro e w6 ⟨rfl, b6⟩
    have HB6 := hide ((unhide HB5).trans (b6.mono (unhide HB5).size))
    clear b6 HB5
    go_wp2_with fail
    go_ret
    exact ⟨by simp, unhide HB6⟩
  have hb0 : ((ws.length : Int) == 0) = false := beq_eq_false_iff_ne.2 (by omega)
  have hwp : 0 < ws.length := by omega
  have hwp' : (0 : Int) < (ws.length : Int) := by omega
  clear hem
  rcases (unhide HT4).2 with hnil | ⟨tb, to_, hta, htb, hrk⟩
  · rw [hnil] at hwp; simp at hwp
  subst hta
  obtain ⟨c0, c1, c2⟩ := hrk 0 hwp
  simp only [Nat.zero_mul, Nat.add_zero] at c0 c1 c2
  have hfm : formB l room set = true := by
    cases hf : formB l room set with
    | true => rfl
    | false =>
      have := unhide HWS
      unfold whyZ at this
      rw [hf] at this
      rw [this] at hwp
      simp at hwp
  have hrm := why_room hfm
  obtain ⟨s0, hs0⟩ : ∃ s0, s0 = ws.getD 0 dStep := ⟨_, rfl⟩
  rw [← hs0] at c0 c1 c2
  clear hrk
  by_cases hk1 : s0.kind = 1
  · have hbz := why_head hfm (by rw [← unhide HWS]; exact hwp) (by rw [← unhide HWS, ← hs0]; exact hk1)
    rw [← unhide HWS, ← hs0] at hbz
    have hsz := form_bounds hfm
    have hse : sizeZ l room set = bitSize l (setBits set) := by unfold sizeZ; rw [hfm, if_pos rfl, size_bits hfm]
    rw [hse] at hsz
    have hw2 : IntKind.i64.wrap (room + s0.out) = room + s0.out := by rw [IntKind.wrap_i64]; omega
    have hkb : (s0.kind != 1) = false := by simp [hk1]
    have hpos : 0 < s0.out := by omega
    by_cases hbig : 999 < room + s0.out
    · have HQ := hide hk1
      clear hk1 hbz hsz hse HWS hs0
      go_upto_region 6 with fail
      refine wp_region_mix (k := 100) 25 [] [.slice (some ⟨tb, to_, none⟩) ws.length tc, .slice pa ws.length pc, .bool true, .bool false, .bool false, .slice (some ⟨tb, to_, none⟩) ws.length tc, .int .i64 (ws.length : Int), .bool false, .bool false, .bool false, .slice (some ⟨tb, to_, none⟩) ws.length tc, .pointer (some ⟨tb, to_, none⟩), .pointer (some ⟨tb, to_, none⟩), .int .i64 s0.kind, .bool false, .bool false, .bool false, .pointer (some ⟨w1.heap.size, 1, none⟩), .int .i64 room, .slice (some ⟨tb, to_, none⟩) ws.length tc, .pointer (some ⟨tb, to_, none⟩), .pointer (some ⟨tb, to_ + 2, none⟩), .int .i64 s0.out, .int .i64 (room + s0.out), .bool true] (CZ w4) (by kernel_rfl) (by kernel_rfl) (by kernel_rfl) (by kernel_rfl) (by kernel_rfl) (by kernel_rfl) ⟨(Below.refl _ _).drew⟩ ?_ ?_ ?_
      · intro full hfull i oo hi hns ho x fl us hC hb
        simp [putAll, slotOf, Act.put] at hfull
        subst hfull
        have bx := hC.below
        rw [← bx.cell (p := ⟨w1.heap.size, _, none⟩) (by simp; omega)] at x0 x1
        rw [← bx.cell (p := ⟨tb, _, none⟩) (by simp; omega)] at c0 c1 c2
        have hC0 := hC.on (b' := fl) (Below.refl _ _)
        match i with
        | 0 => simp at ho; subst ho; simp [gwp, Region.wanted, yielded]; go_simp; first | done | exact hC0 | exact ⟨rfl, hC0⟩ | (simp; exact hC0) | (refine ⟨by simp <;> omega, hC0⟩) | omega
        | 1 => simp at ho; subst ho; simp [gwp, Region.wanted, yielded]; go_simp; first | done | exact hC0 | exact ⟨rfl, hC0⟩ | (simp; exact hC0) | (refine ⟨by simp <;> omega, hC0⟩) | omega
        | 2 =>
          simp at ho; subst ho; simp [gwp, Region.wanted, yielded]; go_simp
          refine (unhide HLD x bx).mono ?_
          rintro e w' ⟨rfl, hb2⟩
          go_simp
          first | done | exact hC.on hb2 | exact ⟨rfl, hC.on hb2⟩ | (simp; exact hC.on hb2)
        | 3 => simp at ho; subst ho; simp [gwp, Region.wanted, yielded]; go_simp; first | done | exact hC0 | exact ⟨rfl, hC0⟩ | (simp; exact hC0) | (refine ⟨by simp <;> omega, hC0⟩) | omega
        | 4 => simp at ho; subst ho; simp [gwp, Region.wanted, yielded]; go_simp; first | done | exact hC0 | exact ⟨rfl, hC0⟩ | (simp; exact hC0) | (refine ⟨by simp <;> omega, hC0⟩) | omega
        | 5 => simp at ho; subst ho; simp [gwp, Region.wanted, yielded]; go_simp; first | done | exact hC0 | exact ⟨rfl, hC0⟩ | (simp; exact hC0) | (refine ⟨by simp <;> omega, hC0⟩) | omega
        | 6 => simp at ho; subst ho; simp [gwp, Region.wanted, yielded]; go_simp; first | done | exact hC0 | exact ⟨rfl, hC0⟩ | (simp; exact hC0) | (refine ⟨by simp <;> omega, hC0⟩) | omega
        | 7 => simp at ho; subst ho; simp [gwp, Region.wanted, yielded]; go_simp; first | done | exact hC0 | exact ⟨rfl, hC0⟩ | (simp; exact hC0) | (refine ⟨by simp <;> omega, hC0⟩) | omega
        | 8 => simp at ho; subst ho; simp [gwp, Region.wanted, yielded]; go_simp; first | done | exact hC0 | exact ⟨rfl, hC0⟩ | (simp; exact hC0) | (refine ⟨by simp <;> omega, hC0⟩) | omega
        | 9 => simp at ho; subst ho; simp [gwp, Region.wanted, yielded]; go_simp; first | done | exact hC0 | exact ⟨rfl, hC0⟩ | (simp; exact hC0) | (refine ⟨by simp <;> omega, hC0⟩) | omega
        | 10 => simp at ho; subst ho; simp [gwp, Region.wanted, yielded]; go_simp; first | done | exact hC0 | exact ⟨rfl, hC0⟩ | (simp; exact hC0) | (refine ⟨by simp <;> omega, hC0⟩) | omega
        | 11 => simp at ho; subst ho; simp [gwp, Region.wanted, yielded]; go_simp; first | done | exact hC0 | exact ⟨rfl, hC0⟩ | (simp; exact hC0) | (refine ⟨by simp <;> omega, hC0⟩) | omega
        | 12 => simp at ho; subst ho; simp [gwp, Region.wanted, yielded]; go_simp; first | done | exact hC0 | exact ⟨rfl, hC0⟩ | (simp; exact hC0) | (refine ⟨by simp <;> omega, hC0⟩) | omega
        | 13 => simp at ho; subst ho; simp [gwp, Region.wanted, yielded]; go_simp; first | done | exact hC0 | exact ⟨rfl, hC0⟩ | (simp; exact hC0) | (refine ⟨by simp <;> omega, hC0⟩) | omega
        | 14 => simp at ho; subst ho; simp [gwp, Region.wanted, yielded]; go_simp; first | done | exact hC0 | exact ⟨rfl, hC0⟩ | (simp; exact hC0) | (refine ⟨by simp <;> omega, hC0⟩) | omega
        | 15 => simp at ho; subst ho; simp [gwp, Region.wanted, yielded]; go_simp; first | done | exact hC0 | exact ⟨rfl, hC0⟩ | (simp; exact hC0) | (refine ⟨by simp <;> omega, hC0⟩) | omega
        | 16 => simp at ho; subst ho; simp [gwp, Region.wanted, yielded]; go_simp; first | done | exact hC0 | exact ⟨rfl, hC0⟩ | (simp; exact hC0) | (refine ⟨by simp <;> omega, hC0⟩) | omega
        | 17 => simp at ho; subst ho; simp [gwp, Region.wanted, yielded]; go_simp; first | done | exact hC0 | exact ⟨rfl, hC0⟩ | (simp; exact hC0) | (refine ⟨by simp <;> omega, hC0⟩) | omega
        | 18 => simp at ho; subst ho; simp [gwp, Region.wanted, yielded]; go_simp; first | done | exact hC0 | exact ⟨rfl, hC0⟩ | (simp; exact hC0) | (refine ⟨by simp <;> omega, hC0⟩) | omega
        | 19 => simp at ho; subst ho; simp [gwp, Region.wanted, yielded]; go_simp; first | done | exact hC0 | exact ⟨rfl, hC0⟩ | (simp; exact hC0) | (refine ⟨by simp <;> omega, hC0⟩) | omega
        | 20 => simp at ho; subst ho; simp [gwp, Region.wanted, yielded]; go_simp; first | done | exact hC0 | exact ⟨rfl, hC0⟩ | (simp; exact hC0) | (refine ⟨by simp <;> omega, hC0⟩) | omega
        | 21 => simp at ho; subst ho; simp [gwp, Region.wanted, yielded]; go_simp; first | done | exact hC0 | exact ⟨rfl, hC0⟩ | (simp; exact hC0) | (refine ⟨by simp <;> omega, hC0⟩) | omega
        | 22 => simp at ho; subst ho; simp [gwp, Region.wanted, yielded]; go_simp; first | done | exact hC0 | exact ⟨rfl, hC0⟩ | (simp; exact hC0) | (refine ⟨by simp <;> omega, hC0⟩) | omega
        | 23 => simp at ho; subst ho; simp [gwp, Region.wanted, yielded]; go_simp; first | done | exact hC0 | exact ⟨rfl, hC0⟩ | (simp; exact hC0) | (refine ⟨by simp <;> omega, hC0⟩) | omega
        | 24 => simp at ho; subst ho; simp [gwp, Region.wanted, yielded]; go_simp; first | done | exact hC0 | exact ⟨rfl, hC0⟩ | (simp; exact hC0) | (refine ⟨by simp <;> omega, hC0⟩) | omega
        | i + 25 => omega
      · intro full hfull us j hj
        simp at hj
      intro full hfull us w5 hus hC
      simp [putAll, slotOf, Act.put] at hfull
      subst hfull
      match us, hus with
      | [], _ =>
      have b5 := hC.below
      have HP5 := hide ((unhide HP4).on b5)
      have HS5 := hide ((unhide HS4).on b5)
      have HW5 := hide ((unhide HW4).on b5)
      have HT5 := hide ((unhide HT4).on b5)
      have HB5 := hide ((unhide HB4).trans (b5.mono (unhide HB4).size))
      have hlt5 : w1.heap.size < w5.heap.size := Nat.lt_of_lt_of_le hlt4 b5.size
      rw [← b5.cell (p := ⟨w1.heap.size, _, none⟩) hlt4] at x0 x1
      clear HB4 b5 hlt4 HP4 HS4 HW4 HT4
      clear hC HLD
      simp [putP]
      go_wp2_with fail
      refine (ldWhys_same (some ⟨tb, to_, none⟩) ws tc pa pc w5 (unhide HT5) (unhide HW5)).mono ?_
      rintro e w6 ⟨rfl, b6⟩
      have HB6 := hide ((unhide HB5).trans (b6.mono (unhide HB5).size))
      clear b6 HB5
      go_wp2_with fail
      go_ret
      exact ⟨by simp, unhide HB6⟩
    · have hmore := why_room_more hfm (by rw [← unhide HWS]; exact hwp) (by rw [← unhide HWS, ← hs0]; exact hk1) (by rw [← unhide HWS, ← hs0]; omega)
      rw [← unhide HWS, ← hs0] at hmore
      have HMORE := hide hmore
      clear hmore hbz hsz hse HWS hs0 hk1 hfm
      go_upto_region 6 with fail
      refine wp_region_mix (k := 100) 25 [] [.slice (some ⟨tb, to_, none⟩) ws.length tc, .slice pa ws.length pc, .bool true, .bool false, .bool false, .slice (some ⟨tb, to_, none⟩) ws.length tc, .int .i64 (ws.length : Int), .bool false, .bool false, .bool false, .slice (some ⟨tb, to_, none⟩) ws.length tc, .pointer (some ⟨tb, to_, none⟩), .pointer (some ⟨tb, to_, none⟩), .int .i64 s0.kind, .bool false, .bool false, .bool false, .pointer (some ⟨w1.heap.size, 1, none⟩), .int .i64 room, .slice (some ⟨tb, to_, none⟩) ws.length tc, .pointer (some ⟨tb, to_, none⟩), .pointer (some ⟨tb, to_ + 2, none⟩), .int .i64 s0.out, .int .i64 (room + s0.out), .bool false] (CZ w4) (by kernel_rfl) (by kernel_rfl) (by kernel_rfl) (by kernel_rfl) (by kernel_rfl) (by kernel_rfl) ⟨(Below.refl _ _).drew⟩ ?_ ?_ ?_
      · intro full hfull i oo hi hns ho x fl us hC hb
        simp [putAll, slotOf, Act.put] at hfull
        subst hfull
        have bx := hC.below
        rw [← bx.cell (p := ⟨w1.heap.size, _, none⟩) (by simp; omega)] at x0 x1
        rw [← bx.cell (p := ⟨tb, _, none⟩) (by simp; omega)] at c0 c1 c2
        have hC0 := hC.on (b' := fl) (Below.refl _ _)
        match i with
        | 0 => simp at ho; subst ho; simp [gwp, Region.wanted, yielded]; go_simp; first | done | exact hC0 | exact ⟨rfl, hC0⟩ | (simp; exact hC0) | (refine ⟨by simp <;> omega, hC0⟩) | omega
        | 1 => simp at ho; subst ho; simp [gwp, Region.wanted, yielded]; go_simp; first | done | exact hC0 | exact ⟨rfl, hC0⟩ | (simp; exact hC0) | (refine ⟨by simp <;> omega, hC0⟩) | omega
        | 2 =>
          simp at ho; subst ho; simp [gwp, Region.wanted, yielded]; go_simp
          refine (unhide HLD x bx).mono ?_
          rintro e w' ⟨rfl, hb2⟩
          go_simp
          first | done | exact hC.on hb2 | exact ⟨rfl, hC.on hb2⟩ | (simp; exact hC.on hb2)
        | 3 => simp at ho; subst ho; simp [gwp, Region.wanted, yielded]; go_simp; first | done | exact hC0 | exact ⟨rfl, hC0⟩ | (simp; exact hC0) | (refine ⟨by simp <;> omega, hC0⟩) | omega
        | 4 => simp at ho; subst ho; simp [gwp, Region.wanted, yielded]; go_simp; first | done | exact hC0 | exact ⟨rfl, hC0⟩ | (simp; exact hC0) | (refine ⟨by simp <;> omega, hC0⟩) | omega
        | 5 => simp at ho; subst ho; simp [gwp, Region.wanted, yielded]; go_simp; first | done | exact hC0 | exact ⟨rfl, hC0⟩ | (simp; exact hC0) | (refine ⟨by simp <;> omega, hC0⟩) | omega
        | 6 => simp at ho; subst ho; simp [gwp, Region.wanted, yielded]; go_simp; first | done | exact hC0 | exact ⟨rfl, hC0⟩ | (simp; exact hC0) | (refine ⟨by simp <;> omega, hC0⟩) | omega
        | 7 => simp at ho; subst ho; simp [gwp, Region.wanted, yielded]; go_simp; first | done | exact hC0 | exact ⟨rfl, hC0⟩ | (simp; exact hC0) | (refine ⟨by simp <;> omega, hC0⟩) | omega
        | 8 => simp at ho; subst ho; simp [gwp, Region.wanted, yielded]; go_simp; first | done | exact hC0 | exact ⟨rfl, hC0⟩ | (simp; exact hC0) | (refine ⟨by simp <;> omega, hC0⟩) | omega
        | 9 => simp at ho; subst ho; simp [gwp, Region.wanted, yielded]; go_simp; first | done | exact hC0 | exact ⟨rfl, hC0⟩ | (simp; exact hC0) | (refine ⟨by simp <;> omega, hC0⟩) | omega
        | 10 => simp at ho; subst ho; simp [gwp, Region.wanted, yielded]; go_simp; first | done | exact hC0 | exact ⟨rfl, hC0⟩ | (simp; exact hC0) | (refine ⟨by simp <;> omega, hC0⟩) | omega
        | 11 => simp at ho; subst ho; simp [gwp, Region.wanted, yielded]; go_simp; first | done | exact hC0 | exact ⟨rfl, hC0⟩ | (simp; exact hC0) | (refine ⟨by simp <;> omega, hC0⟩) | omega
        | 12 => simp at ho; subst ho; simp [gwp, Region.wanted, yielded]; go_simp; first | done | exact hC0 | exact ⟨rfl, hC0⟩ | (simp; exact hC0) | (refine ⟨by simp <;> omega, hC0⟩) | omega
        | 13 => simp at ho; subst ho; simp [gwp, Region.wanted, yielded]; go_simp; first | done | exact hC0 | exact ⟨rfl, hC0⟩ | (simp; exact hC0) | (refine ⟨by simp <;> omega, hC0⟩) | omega
        | 14 => simp at ho; subst ho; simp [gwp, Region.wanted, yielded]; go_simp; first | done | exact hC0 | exact ⟨rfl, hC0⟩ | (simp; exact hC0) | (refine ⟨by simp <;> omega, hC0⟩) | omega
        | 15 => simp at ho; subst ho; simp [gwp, Region.wanted, yielded]; go_simp; first | done | exact hC0 | exact ⟨rfl, hC0⟩ | (simp; exact hC0) | (refine ⟨by simp <;> omega, hC0⟩) | omega
        | 16 => simp at ho; subst ho; simp [gwp, Region.wanted, yielded]; go_simp; first | done | exact hC0 | exact ⟨rfl, hC0⟩ | (simp; exact hC0) | (refine ⟨by simp <;> omega, hC0⟩) | omega
        | 17 => simp at ho; subst ho; simp [gwp, Region.wanted, yielded]; go_simp; first | done | exact hC0 | exact ⟨rfl, hC0⟩ | (simp; exact hC0) | (refine ⟨by simp <;> omega, hC0⟩) | omega
        | 18 => simp at ho; subst ho; simp [gwp, Region.wanted, yielded]; go_simp; first | done | exact hC0 | exact ⟨rfl, hC0⟩ | (simp; exact hC0) | (refine ⟨by simp <;> omega, hC0⟩) | omega
        | 19 => simp at ho; subst ho; simp [gwp, Region.wanted, yielded]; go_simp; first | done | exact hC0 | exact ⟨rfl, hC0⟩ | (simp; exact hC0) | (refine ⟨by simp <;> omega, hC0⟩) | omega
        | 20 => simp at ho; subst ho; simp [gwp, Region.wanted, yielded]; go_simp; first | done | exact hC0 | exact ⟨rfl, hC0⟩ | (simp; exact hC0) | (refine ⟨by simp <;> omega, hC0⟩) | omega
        | 21 => simp at ho; subst ho; simp [gwp, Region.wanted, yielded]; go_simp; first | done | exact hC0 | exact ⟨rfl, hC0⟩ | (simp; exact hC0) | (refine ⟨by simp <;> omega, hC0⟩) | omega
        | 22 => simp at ho; subst ho; simp [gwp, Region.wanted, yielded]; go_simp; first | done | exact hC0 | exact ⟨rfl, hC0⟩ | (simp; exact hC0) | (refine ⟨by simp <;> omega, hC0⟩) | omega
        | 23 => simp at ho; subst ho; simp [gwp, Region.wanted, yielded]; go_simp; first | done | exact hC0 | exact ⟨rfl, hC0⟩ | (simp; exact hC0) | (refine ⟨by simp <;> omega, hC0⟩) | omega
        | 24 => simp at ho; subst ho; simp [gwp, Region.wanted, yielded]; go_simp; first | done | exact hC0 | exact ⟨rfl, hC0⟩ | (simp; exact hC0) | (refine ⟨by simp <;> omega, hC0⟩) | omega
        | i + 25 => omega
      · intro full hfull us j hj
        simp at hj
      intro full hfull us w5 hus hC
      simp [putAll, slotOf, Act.put] at hfull
      subst hfull
      match us, hus with
      | [], _ =>
      have b5 := hC.below
      rw [← b5.cell (p := ⟨tb, _, none⟩) (by show tb < _; omega)] at c0 c1 c2
      have htb5 : tb < w5.heap.size := by have := b5.size; omega
      have HP5 := hide ((unhide HP4).on b5)
      have HS5 := hide ((unhide HS4).on b5)
      have HW5 := hide ((unhide HW4).on b5)
      have HT5 := hide ((unhide HT4).on b5)
      have HB5 := hide ((unhide HB4).trans (b5.mono (unhide HB4).size))
      have hlt5 : w1.heap.size < w5.heap.size := Nat.lt_of_lt_of_le hlt4 b5.size
      rw [← b5.cell (p := ⟨w1.heap.size, _, none⟩) hlt4] at x0 x1
      clear HB4 b5 hlt4 HP4 HS4 HW4 HT4
      clear hC HLD
      simp [putP]
      obtain ⟨_, _, da, dc, hfr, hdr⟩ := unhide HPT 1 (by omega)
      have HDR := hide hdr
      have hroomz : roomZ room s0.out = room + s0.out := by unfold roomZ; rw [if_neg (by omega)]
      have HLR := hide (fun x (_ : Below w5.heap.size w5 x) => ldRoom_any (.slice va l.length vc) room s0.out (by omega) (by omega) (by omega) (by omega) x ⟨_, _, _, rfl⟩)
      rw [hroomz] at HLR
      have HWN := hide (fun x (hx : Below w5.heap.size w5 x) => implWhyNot_any va l vc (room + s0.out) sa set sc x ((unhide HP5).on hx) ((unhide HS5).on hx))
      rw [unhide HMORE] at HWN
      have hdl0 : (ws.drop 1).length = ws.length - 1 := by simp
      generalize ws.drop 1 = tl at HWN HDR hdl0
      have HDL := hide hdl0
      clear hdl0
      clear hdr hroomz HMORE
      go_upto_region 8 with fail
      refine wp_region_mix (k := 100) 10 [7] [.agg #[.slice va l.length vc, .int .i64 room], .slice (some ⟨tb, to_, none⟩) ws.length tc, .pointer (some ⟨tb, to_, none⟩), .pointer (some ⟨tb, to_ + 2, none⟩), .int .i64 s0.out, .agg #[.slice va l.length vc, .int .i64 (room + s0.out)], .slice sa set.length sc, undef, .slice (some ⟨tb, to_, none⟩) ws.length tc, .slice da (ws.length - 1) dc] (CV w5 tl) (by kernel_rfl) (by kernel_rfl) (by kernel_rfl) (by kernel_rfl) (by kernel_rfl) (by kernel_rfl) ⟨(Below.refl _ _).drew, (fun y h => by cases h)⟩ ?_ ?_ ?_
      · intro full hfull i oo hi hns ho x fl us hC hb
        simp [putAll, slotOf, Act.put] at hfull
        subst hfull
        have bx := hC.below
        rw [← bx.cell (p := ⟨w1.heap.size, _, none⟩) (by simp; omega)] at x0 x1
        rw [← bx.cell (p := ⟨tb, _, none⟩) (by simp; omega)] at c0 c1 c2
        have hC0 := hC.on (b' := fl) (Below.refl _ _)
        match i with
        | 0 => simp at ho; subst ho; simp [gwp, Region.wanted, yielded]; go_simp; first | done | exact hC0 | exact ⟨rfl, hC0⟩ | (simp; exact hC0) | (refine ⟨by simp <;> omega, hC0⟩) | omega
        | 1 => simp at ho; subst ho; simp [gwp, Region.wanted, yielded]; go_simp; first | done | exact hC0 | exact ⟨rfl, hC0⟩ | (simp; exact hC0) | (refine ⟨by simp <;> omega, hC0⟩) | omega
        | 2 => simp at ho; subst ho; simp [gwp, Region.wanted, yielded]; go_simp; first | done | exact hC0 | exact ⟨rfl, hC0⟩ | (simp; exact hC0) | (refine ⟨by simp <;> omega, hC0⟩) | omega
        | 3 => simp at ho; subst ho; simp [gwp, Region.wanted, yielded]; go_simp; first | done | exact hC0 | exact ⟨rfl, hC0⟩ | (simp; exact hC0) | (refine ⟨by simp <;> omega, hC0⟩) | omega
        | 4 => simp at ho; subst ho; simp [gwp, Region.wanted, yielded]; go_simp; first | done | exact hC0 | exact ⟨rfl, hC0⟩ | (simp; exact hC0) | (refine ⟨by simp <;> omega, hC0⟩) | omega
        | 5 =>
          simp at ho; subst ho; simp [gwp, Region.wanted, yielded]; go_simp
          refine (unhide HLR x bx).mono ?_
          rintro e w' ⟨rfl, hb2⟩
          go_simp
          first | done | exact hC.on hb2 | exact ⟨rfl, hC.on hb2⟩ | (simp; exact hC.on hb2)
        | 6 => simp at ho; subst ho; simp [gwp, Region.wanted, yielded]; go_simp; first | done | exact hC0 | exact ⟨rfl, hC0⟩ | (simp; exact hC0) | (refine ⟨by simp <;> omega, hC0⟩) | omega
        | 7 => simp at hns
        | 8 => simp at ho; subst ho; simp [gwp, Region.wanted, yielded]; go_simp; first | done | exact hC0 | exact ⟨rfl, hC0⟩ | (simp; exact hC0) | (refine ⟨by simp <;> omega, hC0⟩) | omega
        | 9 =>
          rcases hfr with ⟨hq, _⟩ | ⟨g, hq, hqk, rfl, rfl⟩ | ⟨g, hq, hqk, rfl, rfl⟩
          · cases hq
          · have hq' := hq
            simp at hq'
            obtain ⟨rfl, rfl⟩ := hq'
            have h1c : tc = 1 := hqk
            have h1l : ws.length = 1 := by omega
            subst h1c
            simp at ho; subst ho; simp [gwp, Region.wanted, yielded]; go_simp; first | done | exact hC0 | exact ⟨rfl, hC0⟩ | (simp; exact hC0) | (refine ⟨by simp <;> omega, hC0⟩) | omega
          · have hq' := hq
            simp at hq'
            obtain ⟨rfl, rfl⟩ := hq'
            have hqk' : ¬ tc = 1 := hqk
            have h1c : (1 : Int) ≤ (tc : Int) := by omega
            have h1l : (1 : Int) ≤ (ws.length : Int) := by omega
            simp at ho; subst ho; simp [gwp, Region.wanted, yielded]; go_simp; first | done | exact hC0 | exact ⟨rfl, hC0⟩ | (simp; exact hC0) | (refine ⟨by simp <;> omega, hC0⟩) | omega
        | i + 10 => omega
      · intro full hfull us j hj oo ho x fl hC
        simp [putAll, slotOf, Act.put] at hfull
        subst hfull
        match us with
        | [] =>
          simp at hj
          subst hj
          simp at ho
          subst ho
          have bx := hC.below
          simp [gwp, Region.wanted, yielded, putP]
          go_simp
          refine (unhide HWN x bx).mono ?_
          rintro e w' ⟨⟨v9, rfl, hr9⟩, hb9⟩
          go_simp
          have hC2 := hC.on (b' := fl) hb9
          refine ⟨hC2.below, fun y hy => ?_⟩
          cases hy
          exact hr9.at (by have := unhide HDL; omega)
        | _ :: _ => simp at hj
      intro full hfull us w6 hus hC
      simp [putAll, slotOf, Act.put] at hfull
      subst hfull
      match us, hus with
      | [yv], _ =>
      obtain ⟨na, nc, hyv, hN6⟩ := hC.row yv rfl
      subst hyv
      have b6 := hC.below
      have HLW := hide (ldWhys_same na tl nc da dc w6 hN6 (unhide HDR _ ((unhide HT5).on b6)))
      rw [unhide HDL] at HLW ⊢
      have HB6 := hide ((unhide HB5).trans (b6.mono (unhide HB5).size))
      clear hC b6 hN6 HB5 HWN HLR HDR hfr x0 x1 c0 c1 c2
      simp [putP, slotOf, Act.put]
      go_wp2_with fail
      refine (unhide HLW).mono ?_
      rintro e w7 ⟨rfl, b7⟩
      have HB7 := hide ((unhide HB6).trans (b7.mono (unhide HB6).size))
      clear b7 HB6 HLW
      go_wp2_with fail
      go_ret
      exact ⟨rfl, unhide HB7⟩
  · have hkb : (s0.kind != 1) = true := by simpa using hk1
    clear HWS hs0 hfm
    go_upto_region 6 with fail
    refine wp_region_mix (k := 100) 25 [] [.slice (some ⟨tb, to_, none⟩) ws.length tc, .slice pa ws.length pc, .bool true, .bool false, .bool false, .slice (some ⟨tb, to_, none⟩) ws.length tc, .int .i64 (ws.length : Int), .bool false, .bool false, .bool false, .slice (some ⟨tb, to_, none⟩) ws.length tc, .pointer (some ⟨tb, to_, none⟩), .pointer (some ⟨tb, to_, none⟩), .int .i64 s0.kind, .bool true, .bool true, .bool true, undef, undef, undef, undef, undef, undef, undef, undef] (CZ w4) (by kernel_rfl) (by kernel_rfl) (by kernel_rfl) (by kernel_rfl) (by kernel_rfl) (by kernel_rfl) ⟨(Below.refl _ _).drew⟩ ?_ ?_ ?_
    · intro full hfull i oo hi hns ho x fl us hC hb
      simp [putAll, slotOf, Act.put] at hfull
      subst hfull
      have bx := hC.below
      rw [← bx.cell (p := ⟨w1.heap.size, _, none⟩) (by simp; omega)] at x0 x1
      rw [← bx.cell (p := ⟨tb, _, none⟩) (by simp; omega)] at c0 c1 c2
      have hC0 := hC.on (b' := fl) (Below.refl _ _)
      match i with
      | 0 => simp at ho; subst ho; simp [gwp, Region.wanted, yielded]; go_simp; first | done | exact hC0 | exact ⟨rfl, hC0⟩ | (simp; exact hC0) | (refine ⟨by simp <;> omega, hC0⟩) | omega
      | 1 => simp at ho; subst ho; simp [gwp, Region.wanted, yielded]; go_simp; first | done | exact hC0 | exact ⟨rfl, hC0⟩ | (simp; exact hC0) | (refine ⟨by simp <;> omega, hC0⟩) | omega
      | 2 =>
        simp at ho; subst ho; simp [gwp, Region.wanted, yielded]; go_simp
        refine (unhide HLD x bx).mono ?_
        rintro e w' ⟨rfl, hb2⟩
        go_simp
        first | done | exact hC.on hb2 | exact ⟨rfl, hC.on hb2⟩ | (simp; exact hC.on hb2)
      | 3 => simp at ho; subst ho; simp [gwp, Region.wanted, yielded]; go_simp; first | done | exact hC0 | exact ⟨rfl, hC0⟩ | (simp; exact hC0) | (refine ⟨by simp <;> omega, hC0⟩) | omega
      | 4 => simp at ho; subst ho; simp [gwp, Region.wanted, yielded]; go_simp; first | done | exact hC0 | exact ⟨rfl, hC0⟩ | (simp; exact hC0) | (refine ⟨by simp <;> omega, hC0⟩) | omega
      | 5 => simp at ho; subst ho; simp [gwp, Region.wanted, yielded]; go_simp; first | done | exact hC0 | exact ⟨rfl, hC0⟩ | (simp; exact hC0) | (refine ⟨by simp <;> omega, hC0⟩) | omega
      | 6 => simp at ho; subst ho; simp [gwp, Region.wanted, yielded]; go_simp; first | done | exact hC0 | exact ⟨rfl, hC0⟩ | (simp; exact hC0) | (refine ⟨by simp <;> omega, hC0⟩) | omega
      | 7 => simp at ho; subst ho; simp [gwp, Region.wanted, yielded]; go_simp; first | done | exact hC0 | exact ⟨rfl, hC0⟩ | (simp; exact hC0) | (refine ⟨by simp <;> omega, hC0⟩) | omega
      | 8 => simp at ho; subst ho; simp [gwp, Region.wanted, yielded]; go_simp; first | done | exact hC0 | exact ⟨rfl, hC0⟩ | (simp; exact hC0) | (refine ⟨by simp <;> omega, hC0⟩) | omega
      | 9 => simp at ho; subst ho; simp [gwp, Region.wanted, yielded]; go_simp; first | done | exact hC0 | exact ⟨rfl, hC0⟩ | (simp; exact hC0) | (refine ⟨by simp <;> omega, hC0⟩) | omega
      | 10 => simp at ho; subst ho; simp [gwp, Region.wanted, yielded]; go_simp; first | done | exact hC0 | exact ⟨rfl, hC0⟩ | (simp; exact hC0) | (refine ⟨by simp <;> omega, hC0⟩) | omega
      | 11 => simp at ho; subst ho; simp [gwp, Region.wanted, yielded]; go_simp; first | done | exact hC0 | exact ⟨rfl, hC0⟩ | (simp; exact hC0) | (refine ⟨by simp <;> omega, hC0⟩) | omega
      | 12 => simp at ho; subst ho; simp [gwp, Region.wanted, yielded]; go_simp; first | done | exact hC0 | exact ⟨rfl, hC0⟩ | (simp; exact hC0) | (refine ⟨by simp <;> omega, hC0⟩) | omega
      | 13 => simp at ho; subst ho; simp [gwp, Region.wanted, yielded]; go_simp; first | done | exact hC0 | exact ⟨rfl, hC0⟩ | (simp; exact hC0) | (refine ⟨by simp <;> omega, hC0⟩) | omega
      | 14 => simp at ho; subst ho; simp [gwp, Region.wanted, yielded]; go_simp; first | done | exact hC0 | exact ⟨rfl, hC0⟩ | (simp; exact hC0) | (refine ⟨by simp <;> omega, hC0⟩) | omega
      | 15 => simp at ho; subst ho; simp [gwp, Region.wanted, yielded]; go_simp; first | done | exact hC0 | exact ⟨rfl, hC0⟩ | (simp; exact hC0) | (refine ⟨by simp <;> omega, hC0⟩) | omega
      | 16 => simp at ho; subst ho; simp [gwp, Region.wanted, yielded]; go_simp; first | done | exact hC0 | exact ⟨rfl, hC0⟩ | (simp; exact hC0) | (refine ⟨by simp <;> omega, hC0⟩) | omega
      | 17 => simp at ho; subst ho; simp [gwp, Region.wanted, yielded]; go_simp; first | done | exact hC0 | exact ⟨rfl, hC0⟩ | (simp; exact hC0) | (refine ⟨by simp <;> omega, hC0⟩) | omega
      | 18 => simp at ho; subst ho; simp [gwp, Region.wanted, yielded]; go_simp; first | done | exact hC0 | exact ⟨rfl, hC0⟩ | (simp; exact hC0) | (refine ⟨by simp <;> omega, hC0⟩) | omega
      | 19 => simp at ho; subst ho; simp [gwp, Region.wanted, yielded]; go_simp; first | done | exact hC0 | exact ⟨rfl, hC0⟩ | (simp; exact hC0) | (refine ⟨by simp <;> omega, hC0⟩) | omega
      | 20 => simp at ho; subst ho; simp [gwp, Region.wanted, yielded]; go_simp; first | done | exact hC0 | exact ⟨rfl, hC0⟩ | (simp; exact hC0) | (refine ⟨by simp <;> omega, hC0⟩) | omega
      | 21 => simp at ho; subst ho; simp [gwp, Region.wanted, yielded]; go_simp; first | done | exact hC0 | exact ⟨rfl, hC0⟩ | (simp; exact hC0) | (refine ⟨by simp <;> omega, hC0⟩) | omega
      | 22 => simp at ho; subst ho; simp [gwp, Region.wanted, yielded]; go_simp; first | done | exact hC0 | exact ⟨rfl, hC0⟩ | (simp; exact hC0) | (refine ⟨by simp <;> omega, hC0⟩) | omega
      | 23 => simp at ho; subst ho; simp [gwp, Region.wanted, yielded]; go_simp; first | done | exact hC0 | exact ⟨rfl, hC0⟩ | (simp; exact hC0) | (refine ⟨by simp <;> omega, hC0⟩) | omega
      | 24 => simp at ho; subst ho; simp [gwp, Region.wanted, yielded]; go_simp; first | done | exact hC0 | exact ⟨rfl, hC0⟩ | (simp; exact hC0) | (refine ⟨by simp <;> omega, hC0⟩) | omega
      | i + 25 => omega
    · intro full hfull us j hj
      simp at hj
    intro full hfull us w5 hus hC
    simp [putAll, slotOf, Act.put] at hfull
    subst hfull
    match us, hus with
    | [], _ =>
    have b5 := hC.below
    have HP5 := hide ((unhide HP4).on b5)
    have HS5 := hide ((unhide HS4).on b5)
    have HW5 := hide ((unhide HW4).on b5)
    have HT5 := hide ((unhide HT4).on b5)
    have HB5 := hide ((unhide HB4).trans (b5.mono (unhide HB4).size))
    have hlt5 : w1.heap.size < w5.heap.size := Nat.lt_of_lt_of_le hlt4 b5.size
    rw [← b5.cell (p := ⟨w1.heap.size, _, none⟩) hlt4] at x0 x1
    clear HB4 b5 hlt4 HP4 HS4 HW4 HT4
    clear hC HLD
    simp [putP]
    go_wp2_with fail
    refine (ldWhys_same (some ⟨tb, to_, none⟩) ws tc pa pc w5 (unhide HT5) (unhide HW5)).mono ?_
    rintro e w6 ⟨rfl, b6⟩
    have HB6 := hide ((unhide HB5).trans (b6.mono (unhide HB5).size))
    clear b6 HB5
    go_wp2_with fail
    go_ret
    exact ⟨by simp, unhide HB6⟩
end Go.Proofs.Ytmjmcbmfleeolan
