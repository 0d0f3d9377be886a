/- The program's PlanDo. -/
import Derived.Test.YtmjmcbmfleeolaxGreatDoneA
import Derived.Test.YtmjmcbmfleeolaxGreatDoO
import Derived.Test.YtmjmcbmfleeolaxGreatPlP
import Derived.Test.YtmjmcbmfleeolaxGreatGPd
namespace Go.Proofs.YtmjmcbmfleeolaxGreat
set_option linter.unusedVariables false
set_option linter.unusedSimpArgs false
open Go.RowKit Go.Deep

theorem doneV_bits {l : List PackD} {room : Int} {set : List Int} {s : StepD} (h : okZ l room set = true) : doneV l room (setBits set) s = match (implDo l room set s) with
    | none => .tuple #[.int .u64 0, .bool false]
    | some t => .tuple #[.int .u64 ((setBits t : Nat) : Int), .bool true] := by
  have hb := do_bits (l := l) (room := room) (set := set) (s := s) h
  unfold doneV
  cases hf : (movesL l).find? (fun m => eqS m.step s) with
  | none =>
    rw [hf] at hb
    cases hi : implDo l room set s with
    | none => rfl
    | some t => rw [hi] at hb; simp at hb
  | some m =>
    rw [hf] at hb
    simp only at hb ⊢
    cases ha : allowsB l room (setBits set) m with
    | false =>
      rw [ha] at hb
      cases hi : implDo l room set s with
      | none => rfl
      | some t => rw [hi] at hb; simp at hb
    | true =>
      rw [ha] at hb
      cases hi : implDo l room set s with
      | none => rw [hi] at hb; simp at hb
      | some t =>
        rw [hi] at hb
        simp at hb
        simp [hb]

set_option maxRecDepth 100000 in
set_option maxHeartbeats 4000000 in
theorem implPlanDo_any (a : Option Addr) (l : List PackD) (cap : Nat) (room : Int) (sa : Option Addr) (set : List Int) (sc : Nat) (ta : Option Addr) (ss : List StepD) (tc : Nat) (w : World) (h : PacksAt (Old w) w a l) (hs : SetAt w sa set) (ht : StepsAt w ta ss) :
    Calls Tryz.prog 21 #[.agg #[.slice a l.length cap, .int .i64 room], .slice sa set.length sc, .slice ta ss.length tc] w fun e w' => DoOut w.heap.size w' (planZ l room set ss) e ∧ Below w.heap.size w w' := by
  have b1 := (Below.refl w.heap.size w).alloc (Nat.le_refl _) (.cells #[.slice a l.length cap, .int .i64 room] 33)
  have HC := hide (inHealth_any a l cap room sa set sc _ (h.on b1) (hs.on b1))
  have HT := hide ht
  have hsl := ht.1
  clear h hs ht
  go_enter Tryz.func21, Tryz.ntmps21
  go_wp2_with fail
  refine (unhide HC).mono ?_
  rintro e w2 ⟨⟨xa, xn, xc, ro, mp, ya, yn, yc, n, rfl, hst⟩, b2⟩
  have z2 := b2.size
  simp at z2
  have HB2 := hide (b1.trans (b2.mono (by simp)))
  clear HC b2 b1
  cases hok : okZ l room set with
  | false =>
    have HE := hide (show planZ l room set ss = none by unfold planZ; rw [hok]; rfl)
    clear hst hok
    go_wp2_with fail
    exact bodyPost_ret (v := .tuple #[.slice none 0 0, .bool false]) (by simp [results, Tryz.results21, go_sem]) rfl ⟨DoOut.none _ _ (unhide HE), (unhide HB2).alloc (unhide HB2).size _⟩
  | true =>
    by_cases hbig : 300 < ss.length
    · have hbz : (300 : Int) < (ss.length : Int) := by omega
      have HE := hide (show planZ l room set ss = none by unfold planZ; rw [hok]; simp; omega)
      clear hst hok
      go_wp2_with fail
      exact bodyPost_ret (v := .tuple #[.slice none 0 0, .bool false]) (by simp [results, Tryz.results21, go_sem]) rfl ⟨DoOut.none _ _ (unhide HE), (unhide HB2).alloc (unhide HB2).size _⟩
    have hbz : ¬ (300 : Int) < (ss.length : Int) := by omega
    obtain ⟨hn, hstk⟩ := hst hok
    subst hn
    have HOK := hide hok
    have HE := hide (show planZ l room set ss = planDo l room set ss by unfold planZ; rw [hok, decide_eq_true (show ss.length ≤ 300 by omega)]; rfl)
    obtain ⟨w3, hw3⟩ : ∃ w3, w3 = w2.alloc (.cells #[.slice xa xn xc, .int .i64 ro, .map mp, .slice ya yn yc] 73) := ⟨_, rfl⟩
    have b3 : Below w2.heap.size w2 w3 := by rw [hw3]; exact (Below.refl _ _).alloc (Nat.le_refl _) _
    have k0 : w3.cell? ⟨w2.heap.size, 0, none⟩ = some (.slice xa xn xc) := by rw [hw3]; simp
    have k1 : w3.cell? ⟨w2.heap.size, 1, none⟩ = some (.int .i64 ro) := by rw [hw3]; simp
    have k2 : w3.cell? ⟨w2.heap.size, 2, none⟩ = some (.map mp) := by rw [hw3]; simp
    have k3 : w3.cell? ⟨w2.heap.size, 3, none⟩ = some (.slice ya yn yc) := by rw [hw3]; simp
    have hlt3 : w2.heap.size < w3.heap.size := by rw [hw3]; simp
    have HB3 := hide ((unhide HB2).trans (b3.mono (unhide HB2).size))
    have HST := hide (hstk.on b3)
    have HT3 := hide ((unhide HT).on (unhide HB3))
    clear b3 hstk HB2 HT hst hok
    go_upto_region 2 with fail
    rw [← hw3]
    clear hw3
    go_wp2_with fail
    go_loopw [9, 10, 29] (fun hv ov i wr => ∃ (k : Nat) (cur : List Int), k ≤ ss.length ∧ i = .int .i64 k ∧ hv = .int .u64 ((setBits cur : Nat) : Int) ∧ ov = .bool true ∧ Hid (planDo l room set (ss.take k) = some cur) ∧ Hid (Below w3.heap.size w3 wr)) (fun _ _ i _ => ss.length - (intOf i).toNat)
    case atStart => exact ⟨0, set, Nat.zero_le _, rfl, rfl, rfl, rfl, Below.refl _ _⟩
    case round =>
      rename World => wo
      obtain ⟨k, cur, hk, rfl, rfl, rfl, HPD, HB⟩ := hrel
      have hzb := (unhide HB).size
      have hcok := plan_ok (unhide HOK) (unhide HPD)
      have hf := okz_form hcok
      by_cases hlt : k < ss.length
      · have j1 : (k : Int) < (ss.length : Int) := by omega
        have j0 : (0 : Int) ≤ (k : Int) := by omega
        rcases (unhide HT3).2 with hnil | ⟨b, o, rfl, hbl, hrk⟩
        · rw [hnil] at hlt; simp at hlt
        obtain ⟨c0, c1, c2⟩ := hrk k hlt
        have htk := plan_take (l := l) (room := room) (set := set) hlt
        rw [unhide HPD] at htk
        have htk2 : planDo l room set (ss.take (k + 1)) = implDo l room cur (ss.getD k dStep) := htk
        generalize ss.getD k dStep = s at c0 c1 c2 htk2
        have HTK := hide htk2
        rw [← (unhide HB).cell (p := ⟨b, _, none⟩) hbl] at c0 c1 c2
        have q0 := k0
        have q1 := k1
        have q2 := k2
        have q3 := k3
        rw [← (unhide HB).cell (p := ⟨w2.heap.size, _, none⟩) hlt3] at q0 q1 q2 q3
        have hltw : w2.heap.size < wo.heap.size := by omega
        have hpl : ∀ p ∈ placesTo (setBits cur) 8, p < l.length := by rw [set_places hf]; exact set_lt hf
        have HD := hide (fun (ob : Obj) => done_any l room _ (setBits cur) s (setBits_small hf) hpl (form_ok hf) (fun m hm => moves_within (form_l8 hf) hm) (wo.alloc ob) (((unhide HST).on (unhide HB)).on ((Below.refl _ _).alloc (Nat.le_refl _) _)))
        rw [doneV_bits hcok] at HD
        clear hrk htk htk2 k0 k1 k2 k3 hcok hf hpl
        generalize setBits cur = bits at HD
        generalize implDo l room cur s = od at HD HTK
        go_wp2_with fail
        refine (unhide HD _).mono ?_
        rintro e w5 ⟨rfl, b5⟩
        have b45 : Below wo.heap.size wo w5 := ((Below.refl wo.heap.size wo).alloc (Nat.le_refl _) (.cells #[.int .i64 s.kind, .int .i64 s.inn, .int .i64 s.out] 36)).trans (b5.mono (by simp))
        have HB5 := hide ((unhide HB).trans (b45.mono (unhide HB).size))
        clear b5 b45 HB HD q0 q1 q2 q3 c0 c1 c2
        cases od with
        | none =>
          have HE2 := hide (show planZ l room set ss = none from (unhide HE).trans (plan_none (unhide HTK)))
          have HB6 := hide ((unhide HB3).trans ((unhide HB5).mono (unhide HB3).size))
          clear HTK
          go_wp2_with fail
          exact bodyPost_ret (v := .tuple #[.slice none 0 0, .bool false]) (by simp [results, Tryz.results21, go_sem]) rfl ⟨DoOut.none _ _ (unhide HE2), unhide HB6⟩
        | some t =>
          go_wp2_with fail
          go_roundw
          case rel => exact ⟨k + 1, t, by omega, by go_num, rfl, rfl, HTK, HB5⟩
          case measure => simp [intOf]; omega
      · have j1 : ¬ (k : Int) < (ss.length : Int) := by omega
        have hke : ss.take k = ss := List.take_of_length_le (by omega)
        rw [hke] at HPD
        have HE2 := hide (show planZ l room set ss = some cur from (unhide HE).trans (unhide HPD))
        have hci := set_ints hf
        have HCI := hide hci
        have hsm := setBits_small hf
        have HB6 := hide ((unhide HB3).trans ((unhide HB).mono (unhide HB3).size))
        have hz6 := (unhide HB6).size
        have HPL := hide (places_any (setBits cur) hsm wo)
        clear hci hf hcok
        generalize setBits cur = bits at HPL HCI
        go_wp2_with fail
        refine (unhide HPL).mono ?_
        rintro e w6 ⟨⟨v, rfl, hrow⟩, b6⟩
        have HB7 := hide ((unhide HB6).trans (b6.mono hz6))
        have HRW := hide (row_down hrow hz6)
        obtain ⟨qa, qc, hq⟩ : ∃ qa qc, v = .slice qa (placesTo bits 8).length qc := by
          rcases hrow.2 with ⟨hv, h0⟩ | ⟨g, cap, cur, hv, _⟩
          · exact ⟨none, 0, by rw [hv, h0]⟩
          · exact ⟨_, _, hv⟩
        subst hq
        clear hrow b6 HPL HB6
        go_wp2_with fail
        refine bodyPost_ret (v := .tuple #[.slice qa (placesTo bits 8).length qc, .bool true]) (by simp [results, Tryz.results21, go_sem]) rfl ⟨⟨_, by rw [unhide HE2]; rfl, ?_⟩, unhide HB7⟩
        rw [unhide HE2]
        show World.ownsRow _ _ _ _ _ _ _
        rw [Option.getD_some, unhide HCI, ints_nat]
        have hl : (intsOf (placesTo bits 8)).length = (placesTo bits 8).length := by unfold intsOf; simp
        rw [hl]
        exact unhide HRW
end Go.Proofs.YtmjmcbmfleeolaxGreat
