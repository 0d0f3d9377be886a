/- Plans: steps one behind the other. The program's PlanDo. The specification's PlanDo. PlanOk of both sides. -/
import Derived.Test.YthkhaemlcmkkjaxGreatGPd
import Derived.Test.YthkhaemlcmkkjaxGreatDoneA
import Derived.Test.YthkhaemlcmkkjaxGreatDoO
import Derived.Test.YthkhaemlcmkkjaxGreatGSp
import Derived.Test.YthkhaemlcmkkjaxGreatTupG
import Derived.Test.YthkhaemlcmkkjaxGreatGStL
import Derived.Deep.QuietTactic
namespace Go.Proofs.YthkhaemlcmkkjaxGreat
set_option linter.unusedVariables false
set_option linter.unusedSimpArgs false
open Go.RowKit Go.Deep

/-- Steps are done one behind the other. -/
def planDo (l : List PackD) (room : Int) : List Int → List StepD → Option (List Int)
  | set, [] => some set
  | set, s :: ss => match implDo l room set s with
    | none => none
    | some t => planDo l room t ss
/-- What PlanDo answers. -/
def planZ (l : List PackD) (room : Int) (set : List Int) (ss : List StepD) : Option (List Int) := if okZ l room set && decide (ss.length ≤ 300) then planDo l room set ss else none
theorem plan_append (l : List PackD) (room : Int) : ∀ (a b : List StepD) (set : List Int), planDo l room set (a ++ b) = (planDo l room set a).bind (fun t => planDo l room t b)
  | [], b, set => rfl
  | s :: a, b, set => by
    simp only [List.cons_append, planDo]
    cases implDo l room set s with
    | none => rfl
    | some t => exact plan_append l room a b t
theorem plan_one (l : List PackD) (room : Int) (set : List Int) (s : StepD) : planDo l room set [s] = implDo l room set s := by
  simp only [planDo]
  cases implDo l room set s <;> rfl
theorem plan_take {l : List PackD} {room : Int} {set : List Int} {ss : List StepD} {k : Nat} (hk : k < ss.length) : planDo l room set (ss.take (k + 1)) = (planDo l room set (ss.take k)).bind (fun t => implDo l room t (ss.getD k dStep)) := by
  have e : ss.take (k + 1) = ss.take k ++ [ss.getD k dStep] := by
    rw [List.take_succ_eq_append_getElem hk]
    simp [List.getD, hk]
  rw [e, plan_append]
  congr 1
  funext t
  exact plan_one l room t _
theorem plan_none {l : List PackD} {room : Int} {set : List Int} {ss : List StepD} {k : Nat} (h : planDo l room set (ss.take k) = none) : planDo l room set ss = none := by
  have e : ss = ss.take k ++ ss.drop k := (List.take_append_drop k ss).symm
  rw [e, plan_append, h]
  rfl
theorem plan_ok {l : List PackD} {room : Int} : ∀ {ss : List StepD} {set t : List Int}, okZ l room set = true → planDo l room set ss = some t → okZ l room t = true
  | [], set, t, h, e => by
    simp only [planDo, Option.some.injEq] at e
    rw [← e]; exact h
  | s :: ss, set, t, h, e => by
    simp only [planDo] at e
    cases hd : implDo l room set s with
    | none => rw [hd] at e; simp at e
    | some u =>
      rw [hd] at e
      obtain ⟨m, _, hD⟩ := do_parts hd
      exact plan_ok hD.ok' e
theorem ok_len8 {l : List PackD} {room : Int} {set : List Int} (h : okZ l room set = true) : set.length ≤ 8 := by
  have hf := okz_form h
  have h1 := set_places hf
  have h3 : set.length = (set.map Int.toNat).length := by simp
  rw [h3, ← h1]
  exact places_le _ _
/-- One step, by bits. -/
theorem do_bits {l : List PackD} {room : Int} {set : List Int} {s : StepD} (h : okZ l room set = true) : (match (movesL l).find? (fun m => eqS m.step s) with
    | none => (none : Option Nat)
    | some m => if allowsB l room (setBits set) m then some (behindN (setBits set) m) else none) = (implDo l room set s).map setBits := by
  unfold implDo
  rw [h, if_pos rfl]
  cases hf : (movesL l).find? (fun m => eqS m.step s) with
  | none => rfl
  | some m =>
    simp only
    cases ha : allowsB l room (setBits set) m with
    | false => rfl
    | true =>
      have hw := moves_within (form_l8 (okz_form h)) (List.mem_of_find?_eq_some hf)
      have hb := behind256 (bits256 (okz_form h)) hw (form_l8 (okz_form h))
      simp only [if_true, Option.map_some]
      rw [setBits_places hb]
end Go.Proofs.YthkhaemlcmkkjaxGreat

namespace Go.Proofs.YthkhaemlcmkkjaxGreat
set_option linter.unusedVariables false
set_option linter.unusedSimpArgs false
open Go.RowKit Go.Deep

theorem doneV_bits {l : List PackD} {room : Int} {set : List Int} {s : StepD} (h : okZ l room set = true) : doneV l room (setBits set) s = match (implDo l room set s) with
    | none => .tuple #[.int .u64 0, .bool false]
    | some t => .tuple #[.int .u64 ((setBits t : Nat) : Int), .bool true] := by
  have hb := do_bits (l := l) (room := room) (set := set) (s := s) h
  unfold doneV
  cases hf : (movesL l).find? (fun m => eqS m.step s) with
  | none =>
    rw [hf] at hb
    cases hi : implDo l room set s with
    | none => rfl
    | some t => rw [hi] at hb; simp at hb
  | some m =>
    rw [hf] at hb
    simp only at hb ⊢
    cases ha : allowsB l room (setBits set) m with
    | false =>
      rw [ha] at hb
      cases hi : implDo l room set s with
      | none => rfl
      | some t => rw [hi] at hb; simp at hb
    | true =>
      rw [ha] at hb
      cases hi : implDo l room set s with
      | none => rw [hi] at hb; simp at hb
      | some t =>
        rw [hi] at hb
        simp at hb
        simp [hb]

set_option maxRecDepth 100000 in
set_option maxHeartbeats 4000000 in
theorem implPlanDo_any (a : Option Addr) (l : List PackD) (cap : Nat) (room : Int) (sa : Option Addr) (set : List Int) (sc : Nat) (ta : Option Addr) (ss : List StepD) (tc : Nat) (w : World) (h : PacksAt (Old w) w a l) (hs : SetAt w sa set) (ht : StepsAt w ta ss) :
    Calls Tryz.prog 21 #[.agg #[.slice a l.length cap, .int .i64 room], .slice sa set.length sc, .slice ta ss.length tc] w fun e w' => DoOut w.heap.size w' (planZ l room set ss) e ∧ Below w.heap.size w w' := by
  have b1 := (Below.refl w.heap.size w).alloc (Nat.le_refl _) (.cells #[.slice a l.length cap, .int .i64 room] 33)
  have HC := hide (inHealth_any a l cap room sa set sc _ (h.on b1) (hs.on b1))
  have HT := hide ht
  have hsl := ht.1
  clear h hs ht
  go_enter Tryz.func21, Tryz.ntmps21
  go_wp2_with fail
  refine (unhide HC).mono ?_
  rintro e w2 ⟨⟨xa, xn, xc, ro, mp, ya, yn, yc, n, rfl, hst⟩, b2⟩
  have z2 := b2.size
  simp at z2
  have HB2 := hide (b1.trans (b2.mono (by simp)))
  clear HC b2 b1
  cases hok : okZ l room set with
  | false =>
    have HE := hide (show planZ l room set ss = none by unfold planZ; rw [hok]; rfl)
    clear hst hok
    go_wp2_with fail
    exact bodyPost_ret (v := .tuple #[.slice none 0 0, .bool false]) (by simp [results, Tryz.results21, go_sem]) rfl ⟨DoOut.none _ _ (unhide HE), (unhide HB2).alloc (unhide HB2).size _⟩
  | true =>
    by_cases hbig : 300 < ss.length
    · have hbz : (300 : Int) < (ss.length : Int) := by omega
      have HE := hide (show planZ l room set ss = none by unfold planZ; rw [hok]; simp; omega)
      clear hst hok
      go_wp2_with fail
      exact bodyPost_ret (v := .tuple #[.slice none 0 0, .bool false]) (by simp [results, Tryz.results21, go_sem]) rfl ⟨DoOut.none _ _ (unhide HE), (unhide HB2).alloc (unhide HB2).size _⟩
    have hbz : ¬ (300 : Int) < (ss.length : Int) := by omega
    obtain ⟨hn, hstk⟩ := hst hok
    subst hn
    have HOK := hide hok
    have HE := hide (show planZ l room set ss = planDo l room set ss by unfold planZ; rw [hok, decide_eq_true (show ss.length ≤ 300 by omega)]; rfl)
    obtain ⟨w3, hw3⟩ : ∃ w3, w3 = w2.alloc (.cells #[.slice xa xn xc, .int .i64 ro, .map mp, .slice ya yn yc] 73) := ⟨_, rfl⟩
    have b3 : Below w2.heap.size w2 w3 := by rw [hw3]; exact (Below.refl _ _).alloc (Nat.le_refl _) _
    have k0 : w3.cell? ⟨w2.heap.size, 0, none⟩ = some (.slice xa xn xc) := by rw [hw3]; simp
    have k1 : w3.cell? ⟨w2.heap.size, 1, none⟩ = some (.int .i64 ro) := by rw [hw3]; simp
    have k2 : w3.cell? ⟨w2.heap.size, 2, none⟩ = some (.map mp) := by rw [hw3]; simp
    have k3 : w3.cell? ⟨w2.heap.size, 3, none⟩ = some (.slice ya yn yc) := by rw [hw3]; simp
    have hlt3 : w2.heap.size < w3.heap.size := by rw [hw3]; simp
    have HB3 := hide ((unhide HB2).trans (b3.mono (unhide HB2).size))
    have HST := hide (hstk.on b3)
    have HT3 := hide ((unhide HT).on (unhide HB3))
    clear b3 hstk HB2 HT hst hok
    go_upto_region 2 with fail
    rw [← hw3]
    clear hw3
    go_wp2_with fail
    go_loopw [9, 10, 29] (fun hv ov i wr => ∃ (k : Nat) (cur : List Int), k ≤ ss.length ∧ i = .int .i64 k ∧ hv = .int .u64 ((setBits cur : Nat) : Int) ∧ ov = .bool true ∧ Hid (planDo l room set (ss.take k) = some cur) ∧ Hid (Below w3.heap.size w3 wr)) (fun _ _ i _ => ss.length - (intOf i).toNat)
    case atStart => exact ⟨0, set, Nat.zero_le _, rfl, rfl, rfl, rfl, Below.refl _ _⟩
    case round =>
      rename World => wo
      obtain ⟨k, cur, hk, rfl, rfl, rfl, HPD, HB⟩ := hrel
      have hzb := (unhide HB).size
      have hcok := plan_ok (unhide HOK) (unhide HPD)
      have hf := okz_form hcok
      by_cases hlt : k < ss.length
      · have j1 : (k : Int) < (ss.length : Int) := by omega
        have j0 : (0 : Int) ≤ (k : Int) := by omega
        rcases (unhide HT3).2 with hnil | ⟨b, o, rfl, hbl, hrk⟩
        · rw [hnil] at hlt; simp at hlt
        obtain ⟨c0, c1, c2⟩ := hrk k hlt
        have htk := plan_take (l := l) (room := room) (set := set) hlt
        rw [unhide HPD] at htk
        have htk2 : planDo l room set (ss.take (k + 1)) = implDo l room cur (ss.getD k dStep) := htk
        generalize ss.getD k dStep = s at c0 c1 c2 htk2
        have HTK := hide htk2
        rw [← (unhide HB).cell (p := ⟨b, _, none⟩) hbl] at c0 c1 c2
        have q0 := k0
        have q1 := k1
        have q2 := k2
        have q3 := k3
        rw [← (unhide HB).cell (p := ⟨w2.heap.size, _, none⟩) hlt3] at q0 q1 q2 q3
        have hltw : w2.heap.size < wo.heap.size := by omega
        have hpl : ∀ p ∈ placesTo (setBits cur) 8, p < l.length := by rw [set_places hf]; exact set_lt hf
        have HD := hide (fun (ob : Obj) => done_any l room _ (setBits cur) s (setBits_small hf) hpl (form_ok hf) (fun m hm => moves_within (form_l8 hf) hm) (wo.alloc ob) (((unhide HST).on (unhide HB)).on ((Below.refl _ _).alloc (Nat.le_refl _) _)))
        rw [doneV_bits hcok] at HD
        clear hrk htk htk2 k0 k1 k2 k3 hcok hf hpl
        generalize setBits cur = bits at HD
        generalize implDo l room cur s = od at HD HTK
        go_wp2_with fail
        refine (unhide HD _).mono ?_
        rintro e w5 ⟨rfl, b5⟩
        have b45 : Below wo.heap.size wo w5 := ((Below.refl wo.heap.size wo).alloc (Nat.le_refl _) (.cells #[.int .i64 s.kind, .int .i64 s.inn, .int .i64 s.out] 36)).trans (b5.mono (by simp))
        have HB5 := hide ((unhide HB).trans (b45.mono (unhide HB).size))
        clear b5 b45 HB HD q0 q1 q2 q3 c0 c1 c2
        cases od with
        | none =>
          have HE2 := hide (show planZ l room set ss = none from (unhide HE).trans (plan_none (unhide HTK)))
          have HB6 := hide ((unhide HB3).trans ((unhide HB5).mono (unhide HB3).size))
          clear HTK
          go_wp2_with fail
          exact bodyPost_ret (v := .tuple #[.slice none 0 0, .bool false]) (by simp [results, Tryz.results21, go_sem]) rfl ⟨DoOut.none _ _ (unhide HE2), unhide HB6⟩
        | some t =>
          go_wp2_with fail
          go_roundw
          case rel => exact ⟨k + 1, t, by omega, by go_num, rfl, rfl, HTK, HB5⟩
          case measure => simp [intOf]; omega
      · have j1 : ¬ (k : Int) < (ss.length : Int) := by omega
        have hke : ss.take k = ss := List.take_of_length_le (by omega)
        rw [hke] at HPD
        have HE2 := hide (show planZ l room set ss = some cur from (unhide HE).trans (unhide HPD))
        have hci := set_ints hf
        have HCI := hide hci
        have hsm := setBits_small hf
        have HB6 := hide ((unhide HB3).trans ((unhide HB).mono (unhide HB3).size))
        have hz6 := (unhide HB6).size
        have HPL := hide (places_any (setBits cur) hsm wo)
        clear hci hf hcok
        generalize setBits cur = bits at HPL HCI
        go_wp2_with fail
        refine (unhide HPL).mono ?_
        rintro e w6 ⟨⟨v, rfl, hrow⟩, b6⟩
        have HB7 := hide ((unhide HB6).trans (b6.mono hz6))
        have HRW := hide (row_down hrow hz6)
        obtain ⟨qa, qc, hq⟩ : ∃ qa qc, v = .slice qa (placesTo bits 8).length qc := by
          rcases hrow.2 with ⟨hv, h0⟩ | ⟨g, cap, cur, hv, _⟩
          · exact ⟨none, 0, by rw [hv, h0]⟩
          · exact ⟨_, _, hv⟩
        subst hq
        clear hrow b6 HPL HB6
        go_wp2_with fail
        refine bodyPost_ret (v := .tuple #[.slice qa (placesTo bits 8).length qc, .bool true]) (by simp [results, Tryz.results21, go_sem]) rfl ⟨⟨_, by rw [unhide HE2]; rfl, ?_⟩, unhide HB7⟩
        rw [unhide HE2]
        show World.ownsRow _ _ _ _ _ _ _
        rw [Option.getD_some, unhide HCI, ints_nat]
        have hl : (intsOf (placesTo bits 8)).length = (placesTo bits 8).length := by unfold intsOf; simp
        rw [hl]
        exact unhide HRW
end Go.Proofs.YthkhaemlcmkkjaxGreat

namespace Go.Proofs.YthkhaemlcmkkjaxGreat
set_option linter.unusedVariables false
set_option linter.unusedSimpArgs false
open Go.RowKit Go.Deep

set_option maxRecDepth 100000 in
set_option maxHeartbeats 8000000 in
theorem specPlanDo_any (a : Option Addr) (l : List PackD) (cap : Nat) (room : Int) (sa : Option Addr) (set : List Int) (sc : Nat) (ta : Option Addr) (ss : List StepD) (tc : Nat) (w : World) (h : PacksAt (Old w) w a l) (hca : CapsAt w a l) (hs : SetAt w sa set) (hsc : sa = none → sc = 0) (ht : StepsAt w ta ss) :
    Calls Tryz.prog 19 #[.agg #[.slice a l.length cap, .int .i64 room], .slice sa set.length sc, .slice ta ss.length tc] w fun e w' => DoOut w.heap.size w' (planZ l room set ss) e ∧ Below w.heap.size w w' := by
  obtain ⟨i0, hi, hz0, hz1, hz2⟩ := info_parts Tryz.infoInt'
  have HP := hide h
  have HCA := hide hca
  have HS := hide hs
  have HT := hide ht
  have hsl := ht.1
  clear h hca hs ht
  go_enter Tryz.func19, Tryz.ntmps19
  go_upto_region 2 with fail
  obtain ⟨w0, hw0⟩ : ∃ w0, w0 = (w.alloc (.cells #[.slice a l.length cap, .int .i64 room] 33)).alloc (.cells #[] 3) := ⟨_, rfl⟩
  rw [← hw0]
  have b0 : Below w.heap.size w w0 := by rw [hw0]; exact ((Below.refl _ _).alloc (Nat.le_refl _) _).alloc (by simp) _
  have z0 : w0.heap.size = w.heap.size + 2 := by rw [hw0]; simp
  have x0 : w0.cell? ⟨w.heap.size, 0, none⟩ = some (.slice a l.length cap) := by rw [hw0]; simp
  have x1 : w0.cell? ⟨w.heap.size, 1, none⟩ = some (.int .i64 room) := by rw [hw0]; simp
  have t1 : w0.heap[w.heap.size + 1]? = some (.cells #[] 3 (0, 0)) := by
    rw [hw0]
    have := blk_alloc_new (w.alloc (.cells #[.slice a l.length cap, .int .i64 room] 33)) (.cells #[] 3)
    simpa using this
  have HNIL := hide (fun x (hx : Below w0.heap.size w0 x) => show RowI w.heap.size x (.slice (some ⟨w.heap.size + 1, 0, none⟩) 0 0) [] from ownsRow_on (show w0.ownsRow w.heap.size 3 1 _ 0 [] from ⟨rfl, Or.inr ⟨w.heap.size + 1, 0, #[], rfl, by omega, t1, Nat.zero_le _, Nat.zero_le _, rfl, rfl⟩⟩) hx)
  have HB0 := hide b0
  have hk0 : w.heap.size < w0.heap.size := by omega
  have HZ0 := hide z0
  clear hw0 b0 t1 z0
  have HCO := hide (specStateOk_any a l cap room sa set sc w0 ((unhide HP).on (unhide HB0)) ((unhide HS).on (unhide HB0)))
  go_wp2_with fail
  refine (unhide HCO).mono ?_
  rintro e w1 ⟨rfl, b1⟩
  rw [← b1.cell (p := ⟨w.heap.size, _, none⟩) hk0] at x0 x1
  have HB1 := hide b1
  have hk1 : w.heap.size < w1.heap.size := Nat.lt_of_lt_of_le hk0 b1.size
  clear b1 HCO
  cases hok : okZ l room set with
  | false =>
    have HE := hide (show planZ l room set ss = none by unfold planZ; rw [hok]; rfl)
    clear hok
    go_wp2_with fail
    exact bodyPost_ret (v := .tuple #[.slice (some ⟨w.heap.size + 1, 0, none⟩) 0 0, .bool false]) (by simp [results, Tryz.results19, go_sem]) rfl ⟨DoOut.nil (unhide HNIL _ (unhide HB1)) (unhide HE), (unhide HB0).trans ((unhide HB1).mono (unhide HB0).size)⟩
  | true =>
    have h8 := ok_len8 hok
    by_cases hbig : 300 < ss.length
    · have hbz : (300 : Int) < (ss.length : Int) := by omega
      have HE := hide (show planZ l room set ss = none by unfold planZ; rw [hok]; simp; omega)
      clear hok
      go_wp2_with fail
      exact bodyPost_ret (v := .tuple #[.slice (some ⟨w.heap.size + 1, 0, none⟩) 0 0, .bool false]) (by simp [results, Tryz.results19, go_sem]) rfl ⟨DoOut.nil (unhide HNIL _ (unhide HB1)) (unhide HE), (unhide HB0).trans ((unhide HB1).mono (unhide HB0).size)⟩
    have hbz : ¬ (300 : Int) < (ss.length : Int) := by omega
    have HOK := hide hok
    have HE := hide (show planZ l room set ss = planDo l room set ss by unfold planZ; rw [hok, decide_eq_true (show ss.length ≤ 300 by omega)]; rfl)
    have HBW := hide ((unhide HB0).trans ((unhide HB1).mono (unhide HB0).size))
    have hS1 := (unhide HS).on (unhide HBW)
    have bA := (Below.refl w1.heap.size w1).alloc (Nat.le_refl _) (.cells #[] 3)
    have hown := row_down (RowI.nil w1) (show w.heap.size ≤ w1.heap.size by omega)
    have hno : sa = none → set.length = 0 ∧ sc = 0 := fun e => by
      refine ⟨?_, hsc e⟩
      rcases hS1.2 with h | ⟨b, o, ha, _⟩
      · rw [h]; rfl
      · rw [e] at ha; cases ha
    have hnews : ∀ ad, sa = some ad → ∀ j u, (set.map fun i => Value.int .i64 i)[j]? = some u → (w1.alloc (.cells #[] 3)).cell? (ad.add j) = some u := fun ad e => by
      have h := hS1.on bA
      rw [e] at h
      exact copy_news h
    clear hok hS1 hsc
    go_wp2_with (first
      | (at_builtin; refine wpList_append_src rfl _ _ 25 rfl w.heap.size 3 i0 (.int .i64 0) 1 8 Tryz.underlying25 hi hz0 hz1 hz2 rfl (by decide) _ _ _ rfl hown sa set.length sc (set.map fun i => Value.int .i64 i) rfl hno (by simp) hnews ?cc2 ?cc3 ?cc4 ?cc5 ?_))
    case cc2 => intro u hu; obtain ⟨z, _, rfl⟩ := List.mem_map.1 hu; rfl
    case cc3 => unfold maxLen; simp; omega
    case cc4 => simp; omega
    case cc5 => simp; omega
    intro cv w4 hown' hgrow
    have HCV : Hid (RowI w.heap.size w4 cv set) := by
      show World.ownsRow _ _ _ _ _ _ _
      simpa using hown'
    have hb14 : Below w1.heap.size w1 w4 := bA.grown hgrow (by simp) (fun j hj => by simp [Value.ownBlock] at hj; omega)
    rw [← hb14.cell (p := ⟨w.heap.size, _, none⟩) hk1] at x0 x1
    have hk4 : w.heap.size < w4.heap.size := Nat.lt_of_lt_of_le hk1 hb14.size
    have HB04 := hide ((unhide HB1).trans (hb14.mono (unhide HB1).size))
    have HBW4 := hide ((unhide HBW).trans (hb14.mono (unhide HBW).size))
    clear hnews hown hown' hgrow bA hb14 hno hk1 HB1 HBW
    go_wp2_with fail
    go_loopw [9, 10] (fun v i wr => ∃ (k : Nat) (cur : List Int), k ≤ ss.length ∧ i = .int .i64 k ∧ Hid (planDo l room set (ss.take k) = some cur) ∧ Hid (RowI w.heap.size wr v cur) ∧ Hid (Below w4.heap.size w4 wr)) (fun _ i _ => ss.length - (intOf i).toNat)
    case atStart => exact ⟨0, set, Nat.zero_le _, rfl, rfl, HCV, Below.refl _ _⟩
    case round =>
      rename World => wo
      obtain ⟨k, cur, hk, rfl, HPD, HRW, HB⟩ := hrel
      have hzb := (unhide HB).size
      have hc8 := ok_len8 (plan_ok (unhide HOK) (unhide HPD))
      obtain ⟨na, nc, hnv, hset⟩ := RowI.set (unhide HRW) (by omega)
      subst hnv
      have HSN := hide hset
      have HN0 : Hid (na = none → nc = 0) := row_cap0 (unhide HRW)
      clear hset
      by_cases hlt : k < ss.length
      · have j1 : (k : Int) < (ss.length : Int) := by omega
        have j0 : (0 : Int) ≤ (k : Int) := by omega
        rcases ((unhide HT).on (unhide HBW4)).2 with hnil | ⟨b, o, rfl, hbl, hrk⟩
        · rw [hnil] at hlt; simp at hlt
        obtain ⟨c0, c1, c2⟩ := hrk k hlt
        have htk := plan_take (l := l) (room := room) (set := set) hlt
        rw [unhide HPD] at htk
        have htk2 : planDo l room set (ss.take (k + 1)) = implDo l room cur (ss.getD k dStep) := htk
        generalize ss.getD k dStep = t at c0 c1 c2 htk2
        have HTK := hide htk2
        have y0 := x0
        have y1 := x1
        rw [← (unhide HB).cell (p := ⟨w.heap.size, _, none⟩) hk4] at y0 y1
        rw [← (unhide HB).cell (p := ⟨b, _, none⟩) hbl] at c0 c1 c2
        have hltk : w.heap.size < wo.heap.size := by omega
        have hbw : b < wo.heap.size := by omega
        have HBO := hide ((unhide HBW4).trans ((unhide HB).mono (unhide HBW4).size))
        have HDO := hide (fun x (hx : Below wo.heap.size wo x) => specStepDo_full a l cap room na cur nc t x ((unhide HP).on ((unhide HBO).trans (hx.mono (unhide HBO).size))) ((unhide HCA).on ((unhide HBO).trans (hx.mono (unhide HBO).size))) ((unhide HSN).on hx) (unhide HN0))
        rw [do_same] at HDO
        generalize implDo l room cur t = ds at HDO HTK
        clear hrk htk htk2
        go_upto_region 8 with fail
        refine wp_region_headE 11 (by kernel_rfl) (by kernel_rfl) (by kernel_rfl) (by kernel_rfl) (by kernel_rfl) (TG (.agg #[.slice a l.length cap, .int .i64 room]) (.slice na cur.length nc) (.slice (some ⟨b, o, none⟩) ss.length tc) (.pointer (some ⟨b, o + k * 3, none⟩)) (.agg #[.int .i64 t.kind, .int .i64 t.inn, .int .i64 t.out]) (k : Int) wo.heap.size ds) (fun _ x => Hid (Below wo.heap.size wo x)) (fun x y => Below x.heap.size x y) (fun i v x y h hb => TG_on h hb) (Below.refl _ _).drew ?_ ?_
        · intro i oo him hi ac x n hn ha HC hd
          have hC := unhide HC
          match i with
          | 0 =>
            simp at hi
            subst hi
            have e3 : ac.tmps[3]? = some (.pointer (some ⟨w.heap.size, 0, none⟩)) := (ha.slot 3 (slots_no (by kernel_rfl))).trans rfl
            rw [← hC.cell (p := ⟨w.heap.size, _, none⟩) hltk] at y0 y1
            go_simp
            exact ⟨_, rfl, rfl, (by first | exact HC | exact True.intro), Below.refl _ _⟩
          | 1 =>
            simp at hi
            subst hi
            have e9 : ac.tmps[9]? = some (.slice na cur.length nc) := (ha.slot 9 (slots_no (by kernel_rfl))).trans rfl
            go_simp
            exact ⟨_, rfl, rfl, (by first | exact HC | exact True.intro), Below.refl _ _⟩
          | 2 =>
            simp at hi
            subst hi
            have e2 : ac.tmps[2]? = some (.slice (some ⟨b, o, none⟩) ss.length tc) := (ha.slot 2 (slots_no (by kernel_rfl))).trans rfl
            go_simp
            exact ⟨_, rfl, rfl, (by first | exact HC | exact True.intro), Below.refl _ _⟩
          | 3 =>
            simp at hi
            subst hi
            have e10 : ac.tmps[10]? = some (.int .i64 (k : Int)) := (ha.slot 10 (slots_no (by kernel_rfl))).trans rfl
            go_simp
            exact ⟨_, rfl, rfl, (by first | exact HC | exact True.intro), Below.refl _ _⟩
          | 4 =>
            simp at hi
            subst hi
            have d2 := hd ⟨2, .data⟩ (by simp) rfl
            rw [valOf_at (d := 36) rfl] at d2
            have d2' : ac.tmps[36]?.getD undef = .slice (some ⟨b, o, none⟩) ss.length tc := d2
            have d3 := hd ⟨3, .data⟩ (by simp) rfl
            rw [valOf_at (d := 37) rfl] at d3
            have d3' : ac.tmps[37]?.getD undef = .int .i64 (k : Int) := d3
            go_simp
            exact ⟨_, rfl, rfl, (by first | exact HC | exact True.intro), Below.refl _ _⟩
          | 5 =>
            simp at hi
            subst hi
            have d4 := hd ⟨4, .data⟩ (by simp) rfl
            rw [valOf_at (d := 38) rfl] at d4
            have d4' : ac.tmps[38]?.getD undef = .pointer (some ⟨b, o + k * 3, none⟩) := d4
            rw [← hC.cell (p := ⟨b, _, none⟩) hbw] at c0 c1 c2
            go_simp
            exact ⟨_, rfl, rfl, (by first | exact HC | exact True.intro), Below.refl _ _⟩
          | 6 =>
            simp at hi
            subst hi
            have d0 := hd ⟨0, .data⟩ (by simp) rfl
            rw [valOf_at (d := 34) rfl] at d0
            have d0' : ac.tmps[34]?.getD undef = .agg #[.slice a l.length cap, .int .i64 room] := d0
            have d1 := hd ⟨1, .data⟩ (by simp) rfl
            rw [valOf_at (d := 35) rfl] at d1
            have d1' : ac.tmps[35]?.getD undef = .slice na cur.length nc := d1
            have d5 := hd ⟨5, .data⟩ (by simp) rfl
            rw [valOf_at (d := 39) rfl] at d5
            have d5' : ac.tmps[39]?.getD undef = .agg #[.int .i64 t.kind, .int .i64 t.inn, .int .i64 t.out] := d5
            go_simp
            refine (unhide HDO x hC).mono ?_
            rintro e y ⟨⟨v3, rfl, hr3⟩, b3⟩
            exact ⟨_, rfl, ⟨v3, rfl, row_down hr3 hC.size⟩, hC.trans (b3.mono hC.size), b3⟩
          | 7 =>
            simp at hi
            subst hi
            obtain ⟨u6, h6, r6⟩ := hd ⟨6, .data⟩ (by simp) rfl
            rw [valOf_at (d := 40) rfl] at h6
            have HR6 := hide r6
            clear r6
            go_simp
            exact ⟨_, rfl, ⟨u6, rfl, unhide HR6⟩, (by first | exact HC | exact True.intro), Below.refl _ _⟩
          | 8 =>
            simp at hi
            subst hi
            obtain ⟨u7, h7, r7⟩ := hd ⟨7, .data⟩ (by simp) rfl
            rw [valOf_at (d := 33) rfl] at h7
            have HR7 := hide r7
            clear r7
            go_simp
            exact ⟨_, rfl, unhide HR7, (by first | exact HC | exact True.intro), Below.refl _ _⟩
          | 9 =>
            simp at hi
            subst hi
            obtain ⟨u7, h7, r7⟩ := hd ⟨7, .data⟩ (by simp) rfl
            rw [valOf_at (d := 33) rfl] at h7
            clear r7
            go_simp
            exact ⟨_, rfl, rfl, (by first | exact HC | exact True.intro), Below.refl _ _⟩
          | 10 =>
            simp at hi
            subst hi
            have r8 := hd ⟨8, .data⟩ (by simp) rfl
            rw [valOf_at (d := 41) rfl] at r8
            have HR8 := hide r8
            clear r8
            go_simp
            exact ⟨_, rfl, unhide HR8, (by first | exact HC | exact True.intro), Below.refl _ _⟩
          | i + 11 => omega
        · intro ac w3 ha hT b3
          replace b3 := unhide b3
          have t28 : ac.tmps[42]?.getD undef = .bool ds.isSome := by have := hT 9 (by omega); rwa [valOf_at (d := 42) rfl] at this
          have r27 : RowI wo.heap.size w3 (ac.tmps[11]?.getD undef) (ds.getD []) := by have := hT 10 (by omega); rwa [valOf_at (d := 11) rfl] at this
          have hl := ha.list
          simp [slotOf, List.range_succ] at hl
          rw [hl]
          clear hl ha hT
          rw [t28]
          clear t28
          generalize ac.tmps[11]?.getD undef = u27 at r27
          have HB3 := hide ((unhide HB).trans (b3.mono (unhide HB).size))
          have HR3 := hide (row_down r27 (show w.heap.size ≤ wo.heap.size by omega))
          clear b3 HDO HB y0 y1 hltk hbw r27 c0 c1 c2 HRW HSN HN0
          cases ds with
          | none =>
            have HE2 := hide (show planZ l room set ss = none from (unhide HE).trans (plan_none (unhide HTK)))
            clear HTK HR3
            simp only [Option.isSome_none]
            go_wp2_with fail
            exact bodyPost_ret (v := .tuple #[.slice (some ⟨w.heap.size + 1, 0, none⟩) 0 0, .bool false]) (by simp [results, Tryz.results19, go_sem]) rfl ⟨DoOut.nil (unhide HNIL _ ((unhide HB04).trans ((unhide HB3).mono (unhide HB04).size))) (unhide HE2), (unhide HBW4).trans ((unhide HB3).mono (unhide HBW4).size)⟩
          | some t2 =>
            simp only [Option.isSome_some]
            go_wp2_with fail
            go_roundw
            case rel => exact ⟨k + 1, t2, by omega, by go_num, HTK, HR3, HB3⟩
            case measure => simp [intOf]; omega
      · have j1 : ¬ (k : Int) < (ss.length : Int) := by omega
        have hke : ss.take k = ss := List.take_of_length_le (by omega)
        rw [hke] at HPD
        have HE2 := hide (show planZ l room set ss = some cur from (unhide HE).trans (unhide HPD))
        go_wp2_with fail
        exact bodyPost_ret (v := .tuple #[.slice na cur.length nc, .bool true]) (by simp [results, Tryz.results19, go_sem]) rfl ⟨DoOut.some (unhide HRW) (unhide HE2), (unhide HBW4).trans ((unhide HB).mono (unhide HBW4).size)⟩
end Go.Proofs.YthkhaemlcmkkjaxGreat

namespace Go.Proofs.YthkhaemlcmkkjaxGreat
set_option linter.unusedVariables false
set_option linter.unusedSimpArgs false
open Go.RowKit Go.Deep

theorem ints_same {l m : List Int} (h : l.length = m.length) (ha : ∀ i, i < l.length → l.getD i 0 = m.getD i 0) : l = m := by
  apply List.ext_getElem h
  intro i h1 h2
  have := ha i h1
  simpa [List.getD, h1, h2] using this
set_option maxHeartbeats 1000000 in
theorem l4Same_any (a : Option Addr) (l : List Int) (c : Nat) (a' : Option Addr) (m : List Int) (c' : Nat) (w : World) (h : SetAt w a l) (h' : SetAt w a' m) :
    Calls Tryz.prog 46 #[.slice a l.length c, .slice a' m.length c'] w fun e w' => e = .returned (.bool (decide (l = m))) ∧ Below w.heap.size w w' := by
  obtain ⟨hl, h⟩ := h
  obtain ⟨hm, h'⟩ := h'
  go_enter Tryz.func46, Tryz.ntmps46
  by_cases hlen : l.length = m.length
  · have hb : ((l.length : Int) != (m.length : Int)) = false := by simp; omega
    have HL := hide hlen
    clear hlen
    go_wp2_with fail
    go_loopw [5] (fun i wr => ∃ k : Nat, k ≤ l.length ∧ i = .int .i64 k ∧ Hid (∀ i, i < k → l.getD i 0 = m.getD i 0) ∧ Drawn w wr) (fun i _ => l.length - (intOf i).toNat)
    case atStart => exact ⟨0, Nat.zero_le _, rfl, fun i hi => by omega, Drawn.refl _⟩
    case round =>
      rename World => wo
      obtain ⟨k, hk, rfl, HE, hw⟩ := hrel
      by_cases hlt : k < l.length
      · have hltm : k < m.length := by have := unhide HL; omega
        rcases h with h | ⟨b, o, rfl, _, h⟩
        · subst h; simp at hlt
        rcases h' with h' | ⟨b', o', rfl, _, h'⟩
        · subst h'; simp at hltm
        have c0 := h k hlt
        have d0 := h' k hltm
        have hres : l.getD k 0 ≠ m.getD k 0 → decide (l = m) = false := fun hne => by
          rw [decide_eq_false_iff_not]
          intro e
          rw [e] at hne
          exact hne rfl
        have hgo : l.getD k 0 = m.getD k 0 → ∀ i, i < k + 1 → l.getD i 0 = m.getD i 0 := fun he i hi => by
          rcases Nat.lt_or_ge i k with h1 | h1
          · exact unhide HE i h1
          · have : i = k := by omega
            rw [this]; exact he
        generalize l.getD k 0 = x at c0 hres hgo
        generalize m.getD k 0 = y at d0 hres hgo
        have HRES := hide hres
        have HGO := hide hgo
        rw [← hw.cell] at c0 d0
        have j0 : (0 : Int) ≤ (k : Int) := by omega
        have j1 : (k : Int) < (l.length : Int) := by omega
        have j2 : (k : Int) < (m.length : Int) := by omega
        clear h h' hres hgo
        by_cases hxy : x = y
        · have hxb : (x != y) = false := by simp [hxy]
          have HN := hide (unhide HGO hxy)
          clear HRES HGO hxy
          go_wp2_with fail
          go_quiet (fail)
          go_wp2_with fail
          go_roundw
          case rel => exact ⟨k + 1, by omega, by go_num, HN, hw.more _⟩
          case measure => simp [intOf]; omega
        · have hxb : (x != y) = true := by simp [hxy]
          have HN := hide (unhide HRES hxy)
          clear HRES HGO hxy
          go_wp2_with fail
          go_quiet (fail)
          go_wp2_with fail
          go_ret
          exact ⟨ret_bool (unhide HN).symm, (hw.more _).below _⟩
      · have HN := hide (show decide (l = m) = true by
          rw [decide_eq_true_eq]
          exact ints_same (unhide HL) fun i hi => unhide HE i (by omega))
        have j1 : ¬ (k : Int) < (l.length : Int) := by omega
        go_wp2_with fail
        go_ret
        exact ⟨ret_bool (unhide HN).symm, hw.below _⟩
  · have hb : ((l.length : Int) != (m.length : Int)) = true := by simp; omega
    have HN := hide (show decide (l = m) = false by
      rw [decide_eq_false_iff_not]
      intro e
      exact hlen (by rw [e]))
    clear hlen
    go_wp2_with fail
    go_ret
    exact ⟨ret_bool (unhide HN).symm, Below.refl _ _⟩
set_option maxHeartbeats 1000000 in
theorem slicesEqual_any (a : Option Addr) (l : List Int) (c : Nat) (a' : Option Addr) (m : List Int) (c' : Nat) (w : World) (h : SetAt w a l) (h' : SetAt w a' m) :
    Calls Tryz.prog 47 #[.slice a l.length c, .slice a' m.length c'] w fun e w' => e = .returned (.bool (decide (l = m))) ∧ Below w.heap.size w w' := by
  obtain ⟨hl, h⟩ := h
  obtain ⟨hm, h'⟩ := h'
  go_enter Tryz.func47, Tryz.ntmps47
  by_cases hlen : l.length = m.length
  · have hb : ((l.length : Int) != (m.length : Int)) = false := by simp; omega
    have HL := hide hlen
    clear hlen
    go_wp2_with fail
    go_loopw [13] (fun i wr => ∃ k : Nat, k ≤ l.length ∧ i = .int .i64 k ∧ Hid (∀ i, i < k → l.getD i 0 = m.getD i 0) ∧ Drawn w wr) (fun i _ => l.length - (intOf i).toNat)
    case atStart => exact ⟨0, Nat.zero_le _, rfl, fun i hi => by omega, Drawn.refl _⟩
    case round =>
      rename World => wo
      obtain ⟨k, hk, rfl, HE, hw⟩ := hrel
      by_cases hlt : k < l.length
      · have hltm : k < m.length := by have := unhide HL; omega
        rcases h with h | ⟨b, o, rfl, _, h⟩
        · subst h; simp at hlt
        rcases h' with h' | ⟨b', o', rfl, _, h'⟩
        · subst h'; simp at hltm
        have c0 := h k hlt
        have d0 := h' k hltm
        have hres : l.getD k 0 ≠ m.getD k 0 → decide (l = m) = false := fun hne => by
          rw [decide_eq_false_iff_not]
          intro e
          rw [e] at hne
          exact hne rfl
        have hgo : l.getD k 0 = m.getD k 0 → ∀ i, i < k + 1 → l.getD i 0 = m.getD i 0 := fun he i hi => by
          rcases Nat.lt_or_ge i k with h1 | h1
          · exact unhide HE i h1
          · have : i = k := by omega
            rw [this]; exact he
        generalize l.getD k 0 = x at c0 hres hgo
        generalize m.getD k 0 = y at d0 hres hgo
        have HRES := hide hres
        have HGO := hide hgo
        rw [← hw.cell] at c0 d0
        have j0 : (0 : Int) ≤ (k : Int) := by omega
        have j1 : (k : Int) < (l.length : Int) := by omega
        have j2 : (k : Int) < (m.length : Int) := by omega
        clear h h' hres hgo
        by_cases hxy : x = y
        · have hxb : (x != y) = false := by simp [hxy]
          have HN := hide (unhide HGO hxy)
          clear HRES HGO hxy
          go_wp2_with fail
          go_quiet (fail)
          go_wp2_with fail
          go_roundw
          case rel => exact ⟨k + 1, by omega, by go_num, HN, hw.more _⟩
          case measure => simp [intOf]; omega
        · have hxb : (x != y) = true := by simp [hxy]
          have HN := hide (unhide HRES hxy)
          clear HRES HGO hxy
          go_wp2_with fail
          go_quiet (fail)
          go_wp2_with fail
          go_ret
          exact ⟨ret_bool (unhide HN).symm, (hw.more _).below _⟩
      · have HN := hide (show decide (l = m) = true by
          rw [decide_eq_true_eq]
          exact ints_same (unhide HL) fun i hi => unhide HE i (by omega))
        have j1 : ¬ (k : Int) < (l.length : Int) := by omega
        go_wp2_with fail
        go_ret
        exact ⟨ret_bool (unhide HN).symm, hw.below _⟩
  · have hb : ((l.length : Int) != (m.length : Int)) = true := by simp; omega
    have HN := hide (show decide (l = m) = false by
      rw [decide_eq_false_iff_not]
      intro e
      exact hlen (by rw [e]))
    clear hlen
    go_wp2_with fail
    go_ret
    exact ⟨ret_bool (unhide HN).symm, Below.refl _ _⟩
/-- What PlanOk answers. -/
def planOkZ (l : List PackD) (room : Int) (set too : List Int) (ss : List StepD) : Bool := match planZ l room set ss with
  | none => false
  | some t => decide (t = too)
theorem planZ_len {l : List PackD} {room : Int} {set : List Int} {ss : List StepD} : ((planZ l room set ss).getD []).length ≤ 8 := by
  unfold planZ
  split
  · rename_i hc
    rw [Bool.and_eq_true] at hc
    cases hi : planDo l room set ss with
    | none => simp
    | some t => simpa using ok_len8 (plan_ok hc.1 hi)
  · simp

set_option maxRecDepth 100000 in
set_option maxHeartbeats 2000000 in
theorem specPlanOk_any (a : Option Addr) (l : List PackD) (cap : Nat) (room : Int) (sa : Option Addr) (set : List Int) (sc : Nat) (ta : Option Addr) (too : List Int) (tc : Nat) (qa : Option Addr) (ss : List StepD) (qc : Nat) (w : World) (h : PacksAt (Old w) w a l) (hca : CapsAt w a l) (hs : SetAt w sa set) (hsc : sa = none → sc = 0) (ht : SetAt w ta too) (hq : StepsAt w qa ss) :
    Calls Tryz.prog 24 #[.agg #[.slice a l.length cap, .int .i64 room], .slice sa set.length sc, .slice ta too.length tc, .slice qa ss.length qc] w fun e w' => e = .returned (.bool (planOkZ l room set too ss)) ∧ Below w.heap.size w w' := by
  have b1 := (Below.refl w.heap.size w).alloc (Nat.le_refl _) (.cells #[.slice a l.length cap, .int .i64 room] 33)
  have HC := hide (specPlanDo_any a l cap room sa set sc qa ss qc _ (h.on b1) (hca.on b1) (hs.on b1) hsc (hq.on b1))
  have HT := hide (ht.on b1)
  have hl8 := planZ_len (l := l) (room := room) (set := set) (ss := ss)
  have HE : Hid (planOkZ l room set too ss = match planZ l room set ss with
    | none => false
    | some t => decide (t = too)) := rfl
  clear h hs hq ht hca
  generalize planZ l room set ss = od at HC HE hl8
  go_enter Tryz.func24, Tryz.ntmps24
  go_wp2_with fail
  refine (unhide HC).mono ?_
  rintro e w2 ⟨⟨v, rfl, hr⟩, b2⟩
  obtain ⟨va, vc, hv, hset⟩ := RowI.set hr (by omega)
  subst hv
  have HB2 := hide (b1.trans (b2.mono (by simp)))
  have HV := hide hset
  have HT2 := hide ((unhide HT).on b2)
  clear HC HT b1 b2 hr hset
  cases od with
  | none =>
    have HE2 := hide (show planOkZ l room set too ss = false from unhide HE)
    simp only [Option.isSome_none]
    clear HE
    go_wp2_with fail
    go_ret
    exact ⟨ret_bool (unhide HE2).symm, unhide HB2⟩
  | some t =>
    have HE2 := hide (show planOkZ l room set too ss = decide (t = too) from unhide HE)
    simp only [Option.isSome_some, Option.getD_some] at HV ⊢
    clear HE
    go_wp2_with fail
    refine (l4Same_any va t vc ta too tc w2 (unhide HV) (unhide HT2)).mono ?_
    rintro e w3 ⟨rfl, b3⟩
    have HB3 := hide ((unhide HB2).trans (b3.mono (unhide HB2).size))
    generalize hbb : decide (t = too) = bb
    have HBB := hide (show bb = planOkZ l room set too ss by rw [unhide HE2, hbb])
    clear HB2 b3 HE2 hbb
    go_wp2_with fail
    go_ret
    exact ⟨by first | exact ret_bool (unhide HBB) | (simp; exact unhide HBB), unhide HB3⟩

set_option maxRecDepth 100000 in
set_option maxHeartbeats 2000000 in
theorem implPlanOk_any (a : Option Addr) (l : List PackD) (cap : Nat) (room : Int) (sa : Option Addr) (set : List Int) (sc : Nat) (ta : Option Addr) (too : List Int) (tc : Nat) (qa : Option Addr) (ss : List StepD) (qc : Nat) (w : World) (h : PacksAt (Old w) w a l) (hs : SetAt w sa set) (ht : SetAt w ta too) (hq : StepsAt w qa ss) :
    Calls Tryz.prog 25 #[.agg #[.slice a l.length cap, .int .i64 room], .slice sa set.length sc, .slice ta too.length tc, .slice qa ss.length qc] w fun e w' => e = .returned (.bool (planOkZ l room set too ss)) ∧ Below w.heap.size w w' := by
  have b1 := (Below.refl w.heap.size w).alloc (Nat.le_refl _) (.cells #[.slice a l.length cap, .int .i64 room] 33)
  have HC := hide (implPlanDo_any a l cap room sa set sc qa ss qc _ (h.on b1) (hs.on b1) (hq.on b1))
  have HT := hide (ht.on b1)
  have hl8 := planZ_len (l := l) (room := room) (set := set) (ss := ss)
  have HE : Hid (planOkZ l room set too ss = match planZ l room set ss with
    | none => false
    | some t => decide (t = too)) := rfl
  clear h hs hq ht
  generalize planZ l room set ss = od at HC HE hl8
  go_enter Tryz.func25, Tryz.ntmps25
  go_wp2_with fail
  refine (unhide HC).mono ?_
  rintro e w2 ⟨⟨v, rfl, hr⟩, b2⟩
  obtain ⟨va, vc, hv, hset⟩ := RowI.set hr (by omega)
  subst hv
  have HB2 := hide (b1.trans (b2.mono (by simp)))
  have HV := hide hset
  have HT2 := hide ((unhide HT).on b2)
  clear HC HT b1 b2 hr hset
  cases od with
  | none =>
    have HE2 := hide (show planOkZ l room set too ss = false from unhide HE)
    simp only [Option.isSome_none]
    clear HE
    go_wp2_with fail
    go_ret
    exact ⟨ret_bool (unhide HE2).symm, unhide HB2⟩
  | some t =>
    have HE2 := hide (show planOkZ l room set too ss = decide (t = too) from unhide HE)
    simp only [Option.isSome_some, Option.getD_some] at HV ⊢
    clear HE
    go_wp2_with fail
    refine (slicesEqual_any va t vc ta too tc w2 (unhide HV) (unhide HT2)).mono ?_
    rintro e w3 ⟨rfl, b3⟩
    have HB3 := hide ((unhide HB2).trans (b3.mono (unhide HB2).size))
    generalize hbb : decide (t = too) = bb
    have HBB := hide (show bb = planOkZ l room set too ss by rw [unhide HE2, hbb])
    clear HB2 b3 HE2 hbb
    go_wp2_with fail
    go_ret
    exact ⟨by first | exact ret_bool (unhide HBB) | (simp; exact unhide HBB), unhide HB3⟩
end Go.Proofs.YthkhaemlcmkkjaxGreat
