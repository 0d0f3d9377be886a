/- The program's StepDo. The program's StepFrom. -/
import Derived.Test.YthkhaemlcmkkjaeDoneA
import Derived.Test.YthkhaemlcmkkjaeGPd
import Derived.Test.YthkhaemlcmkkjaeDoO
import Derived.Test.YthkhaemlcmkkjaeGMw
namespace Go.Proofs.Ythkhaemlcmkkjae
set_option linter.unusedVariables false
set_option linter.unusedSimpArgs false
open Go.RowKit Go.Deep

set_option maxRecDepth 100000 in
set_option maxHeartbeats 4000000 in
theorem implStepDo_any (a : Option Addr) (l : List PackD) (cap : Nat) (room : Int) (sa : Option Addr) (set : List Int) (sc : Nat) (s : StepD) (w : World) (h : PacksAt (Old w) w a l) (hs : SetAt w sa set) :
    Calls Try.prog 15 #[.agg #[.slice a l.length cap, .int .i64 room], .slice sa set.length sc, .agg #[.int .i64 s.kind, .int .i64 s.inn, .int .i64 s.out]] w fun e w' => DoOut w.heap.size w' (implDo l room set s) e ∧ Below w.heap.size w w' := by
  have b1 := ((Below.refl w.heap.size w).alloc (Nat.le_refl _) (.cells #[.slice a l.length cap, .int .i64 room] 25)).alloc (by simp) (.cells #[.int .i64 s.kind, .int .i64 s.inn, .int .i64 s.out] 39)
  have HC := hide (inHealth_any a l cap room sa set sc _ (h.on b1) (hs.on b1))
  clear h hs
  go_enter Try.func15, Try.ntmps15
  go_wp2_with fail
  refine (unhide HC).mono ?_
  rintro e w2 ⟨⟨xa, xn, xc, ro, mp, ya, yn, yc, n, rfl, hst⟩, b2⟩
  have z2 := b2.size
  simp at z2
  have s0 := b2.cell (p := ⟨w.heap.size + 1, 0, none⟩) (by simp)
  have s1 := b2.cell (p := ⟨w.heap.size + 1, 1, none⟩) (by simp)
  have s2 := b2.cell (p := ⟨w.heap.size + 1, 2, none⟩) (by simp)
  simp at s0 s1 s2
  have HB2 := hide (b1.trans (b2.mono (by simp; omega)))
  clear HC b2 b1
  cases hok : okZ l room set with
  | false =>
    have HE := hide (show implDo l room set s = none by unfold implDo; rw [hok]; rfl)
    clear hst hok
    go_wp2_with fail
    exact bodyPost_ret (v := .tuple #[.slice none 0 0, .bool false]) (by simp [results, Try.results15, go_sem]) rfl ⟨DoOut.none _ _ (unhide HE), (unhide HB2).alloc (unhide HB2).size _⟩
  | true =>
    obtain ⟨hn, hstk⟩ := hst hok
    subst hn
    have hf := okz_form hok
    have hsm := setBits_small hf
    have hpl : ∀ p ∈ placesTo (setBits set) 8, p < l.length := by rw [set_places hf]; exact set_lt hf
    have hokl := form_ok hf
    have h8 := form_l8 hf
    have HE := hide (show implDo l room set s = match (movesL l).find? (fun m => eqS m.step s) with
      | none => none
      | some m => if allowsB l room (setBits set) m then some (intsOf (placesTo (behindN (setBits set) m) 8)) else none by unfold implDo; rw [hok]; rfl)
    have HD := hide (fun (o : Obj) => done_any l room _ (setBits set) s hsm hpl hokl (fun m hm => moves_within h8 hm) (w2.alloc o) (hstk.on ((Below.refl _ _).alloc (Nat.le_refl _) _)))
    have HBL : Hid (∀ m ∈ movesL l, behindN (setBits set) m < 65536) := fun m hm => behindN_lt hsm (within_fine (moves_within h8 hm) h8)
    unfold doneV at HD
    clear hst hstk hok hf hsm hpl hokl h8
    have hlt : w.heap.size + 1 < w2.heap.size := by omega
    have HFD : Hid (∀ m, (movesL l).find? (fun m => eqS m.step s) = some m → m ∈ movesL l) := fun m hm => List.mem_of_find?_eq_some hm
    generalize (movesL l).find? (fun m => eqS m.step s) = fd at HE HD HFD
    generalize setBits set = bits at HE HD HBL
    go_wp2_with fail
    refine (unhide HD _).mono ?_
    rintro e w3 ⟨rfl, b3⟩
    have hz3 := b3.size
    simp at hz3
    have HB3 := hide (((unhide HB2).alloc (unhide HB2).size _).trans (b3.mono (by simp; omega)))
    clear b3 HD HB2 s0 s1 s2
    have hz3' : w.heap.size ≤ w3.heap.size := (unhide HB3).size
    cases fd with
    | none =>
      have HE2 := hide (show implDo l room set s = none from unhide HE)
      clear HE HFD HBL
      go_wp2_with fail
      exact bodyPost_ret (v := .tuple #[.slice none 0 0, .bool false]) (by simp [results, Try.results15, go_sem]) rfl ⟨DoOut.none _ _ (unhide HE2), unhide HB3⟩
    | some m =>
      have hm := unhide HFD m rfl
      have hbl := unhide HBL m hm
      clear HFD HBL hm
      simp only at HE ⊢
      cases hal : allowsB l room bits m with
      | false =>
        rw [hal] at HE
        have HE2 := hide (show implDo l room set s = none from unhide HE)
        clear HE
        simp only [Bool.false_eq_true, if_false]
        go_wp2_with fail
        exact bodyPost_ret (v := .tuple #[.slice none 0 0, .bool false]) (by simp [results, Try.results15, go_sem]) rfl ⟨DoOut.none _ _ (unhide HE2), unhide HB3⟩
      | true =>
        rw [hal] at HE
        have HE2 := hide (show implDo l room set s = some (intsOf (placesTo (behindN bits m) 8)) from unhide HE)
        clear HE
        simp only [if_true]
        generalize behindN bits m = bh at HE2 hbl
        have HPL := hide (places_any bh hbl w3)
        go_wp2_with fail
        refine (unhide HPL).mono ?_
        rintro e w4 ⟨⟨v, rfl, hrow⟩, b4⟩
        have HB4 := hide ((unhide HB3).trans (b4.mono hz3'))
        have HRW := hide (row_down hrow hz3')
        obtain ⟨qa, qc, hq⟩ : ∃ qa qc, v = .slice qa (placesTo bh 8).length qc := by
          rcases hrow.2 with ⟨hv, h0⟩ | ⟨g, cap, cur, hv, _⟩
          · exact ⟨none, 0, by rw [hv, h0]⟩
          · exact ⟨_, _, hv⟩
        subst hq
        clear hrow b4 HPL HB3
        go_wp2_with fail
        refine bodyPost_ret (v := .tuple #[.slice qa (placesTo bh 8).length qc, .bool true]) (by simp [results, Try.results15, go_sem]) rfl ⟨⟨_, by rw [unhide HE2]; rfl, ?_⟩, unhide HB4⟩
        rw [unhide HE2]
        show World.ownsRow _ _ _ _ _ _ _
        rw [Option.getD_some, ints_nat]
        have hl : (intsOf (placesTo bh 8)).length = (placesTo bh 8).length := by unfold intsOf; simp
        rw [hl]
        exact unhide HRW
end Go.Proofs.Ythkhaemlcmkkjae

namespace Go.Proofs.Ythkhaemlcmkkjae
set_option linter.unusedVariables false
set_option linter.unusedSimpArgs false
open Go.RowKit Go.Deep

theorem do_move {l : List PackD} {room : Int} {set : List Int} (hok : okZ l room set = true) {m : MvD} (hm : m ∈ movesL l) : (implDo l room set m.step).isSome = allowsB l room (setBits set) m := by
  unfold implDo
  rw [hok, if_pos rfl]
  cases hf : (movesL l).find? (fun x => eqS x.step m.step) with
  | none =>
    exfalso
    have := List.find?_eq_none.1 hf m hm
    exact this ((eqS_iff _ _).2 rfl)
  | some m' =>
    have h1 : m'.step = m.step := eqS_eq (by have := List.find?_some hf; simpa using this)
    have h2 := step_inj h1
    subst h2
    simp only
    cases allowsB l room (setBits set) m' <;> simp
theorem from_moves {l : List PackD} {room : Int} {set : List Int} (hok : okZ l room set = true) : fromL l room set = ((movesL l).filter (allowsB l room (setBits set))).map MvD.step := by
  unfold fromL stepsL
  rw [formr (okz_form hok), if_pos rfl, List.filter_map]
  congr 1
  apply List.filter_congr
  intro m hm
  exact do_move hok hm
theorem filter_take_mv (f : MvD → Bool) (L : List MvD) {k : Nat} (h : k < L.length) : (L.take (k + 1)).filter f = (L.take k).filter f ++ (if f (L.getD k (.put 0)) then [L.getD k (.put 0)] else []) := by
  rw [List.take_succ_eq_append_getElem h, List.filter_append]
  have e : L.getD k (.put 0) = L[k] := by simp [List.getD, h]
  rw [e]
  congr 1
  cases hf : f L[k] <;> simp [hf]

set_option maxRecDepth 100000 in
set_option maxHeartbeats 8000000 in
theorem implStepFrom_any (a : Option Addr) (l : List PackD) (cap : Nat) (room : Int) (sa : Option Addr) (set : List Int) (sc : Nat) (w : World) (h : PacksAt (Old w) w a l) (hs : SetAt w sa set) :
    Calls Try.prog 14 #[.agg #[.slice a l.length cap, .int .i64 room], .slice sa set.length sc] w fun e w' => (∃ v, e = .returned v ∧ w'.ownsRow w.heap.size 39 3 v (fromL l room set).length (stepVs (fromL l room set))) ∧ Below w.heap.size w w' := by
  obtain ⟨i0, hi, hz0, hz1, hz2⟩ := info_parts Try.infoStep
  have b1 := (Below.refl w.heap.size w).alloc (Nat.le_refl _) (.cells #[.slice a l.length cap, .int .i64 room] 25)
  have HC := hide (inHealth_any a l cap room sa set sc _ (h.on b1) (hs.on b1))
  clear h hs
  go_enter Try.func14, Try.ntmps14
  go_wp2_with fail
  refine (unhide HC).mono ?_
  rintro e w2 ⟨⟨xa, xn, xc, ro, mp, ya, yn, yc, n, rfl, hst⟩, b2⟩
  have z2 := b2.size
  simp at z2
  have HB2 := hide (b1.trans (b2.mono (by simp)))
  clear HC b2 b1
  cases hok : okZ l room set with
  | false =>
    have HE := hide (from_not hok)
    clear hst hok
    go_wp2_with fail
    go_ret
    exact ⟨⟨_, rfl, by rw [unhide HE]; exact World.ownsRow_nil _ _ _ _⟩, (unhide HB2).alloc (unhide HB2).size _⟩
  | true =>
    obtain ⟨hn, hstk⟩ := hst hok
    subst hn
    have hf := okz_form hok
    have hsm := setBits_small hf
    have hpl : ∀ p ∈ placesTo (setBits set) 8, p < l.length := by rw [set_places hf]; exact set_lt hf
    have hokl := form_ok hf
    have h8 := form_l8 hf
    have HE := hide (from_moves hok)
    have HWI : Hid (∀ m ∈ movesL l, m.within l.length) := fun m hm => moves_within h8 hm
    have hml := moves_le l
    clear hst hok hf
    obtain ⟨w3, hw3⟩ : ∃ w3, w3 = w2.alloc (.cells #[.slice xa xn xc, .int .i64 ro, .map mp, .slice ya yn yc] 58) := ⟨_, rfl⟩
    have b3 : Below w2.heap.size w2 w3 := by rw [hw3]; exact (Below.refl _ _).alloc (Nat.le_refl _) _
    have k0 : w3.cell? ⟨w2.heap.size, 0, none⟩ = some (.slice xa xn xc) := by rw [hw3]; simp
    have k1 : w3.cell? ⟨w2.heap.size, 1, none⟩ = some (.int .i64 ro) := by rw [hw3]; simp
    have k2 : w3.cell? ⟨w2.heap.size, 2, none⟩ = some (.map mp) := by rw [hw3]; simp
    have k3 : w3.cell? ⟨w2.heap.size, 3, none⟩ = some (.slice ya yn yc) := by rw [hw3]; simp
    have hlt3 : w2.heap.size < w3.heap.size := by rw [hw3]; simp
    have HB3 := hide ((unhide HB2).trans (b3.mono (unhide HB2).size))
    have HST := hide (hstk.on b3)
    have HMV := hide (moves_any l room _ h8 w3 (unhide HST))
    clear b3 hstk HB2
    go_upto_region 2 with fail
    rw [← hw3]
    clear hw3
    go_wp2_with fail
    refine (unhide HMV).mono ?_
    rintro e w4 ⟨⟨mv, rfl, hmv⟩, b4⟩
    obtain ⟨qa, qc, hq⟩ : ∃ qa qc, mv = .slice qa (movesL l).length qc := by
      rcases hmv.2 with ⟨hv, h0⟩ | ⟨g, cap, cur, hv, _⟩
      · exact ⟨none, 0, by rw [hv, h0]⟩
      · exact ⟨_, _, hv⟩
    subst hq
    have HM4 := hide hmv
    have HB4 := hide ((unhide HB3).trans (b4.mono (unhide HB3).size))
    have HST4 := hide ((unhide HST).on b4)
    rw [← b4.cell (p := ⟨w2.heap.size, _, none⟩) hlt3] at k0 k1 k2 k3
    have hlt4 : w2.heap.size < w4.heap.size := Nat.lt_of_lt_of_le hlt3 b4.size
    clear HMV hmv b4 HB3 HST hlt3
    generalize movesL l = ms at HM4 HE hml HWI
    go_wp2_with fail
    go_loopw [8, 23] (fun v i wr => ∃ k : Nat, k ≤ ms.length ∧ i = .int .i64 k ∧ Hid (wr.ownsRow w4.heap.size 39 3 v ((ms.take k).filter (allowsB l room (setBits set))).length (stepVs (((ms.take k).filter (allowsB l room (setBits set))).map MvD.step))) ∧ Hid (Below w4.heap.size w4 wr)) (fun _ i _ => ms.length - (intOf i).toNat)
    case atStart => exact ⟨0, Nat.zero_le _, rfl, World.ownsRow_nil _ _ _ _, Below.refl _ _⟩
    case round =>
      rename World => wo
      obtain ⟨k, hk, rfl, HO, HB⟩ := hrel
      have hzb := (unhide HB).size
      by_cases hlt : k < ms.length
      · have j1 : (k : Int) < (ms.length : Int) := by omega
        have j0 : (0 : Int) ≤ (k : Int) := by omega
        obtain ⟨g, gc, hgv, hgl, pc0⟩ := mv_cell (unhide HM4) hlt
        simp at hgv
        obtain ⟨rfl, rfl⟩ := hgv
        rw [← (unhide HB).cell (p := ⟨g, _, none⟩) hgl] at pc0
        have htk := filter_take_mv (allowsB l room (setBits set)) ms hlt
        have hmem : ms.getD k (.put 0) ∈ ms := by
          have e : ms.getD k (.put 0) = ms[k] := by simp [List.getD, hlt]
          rw [e]
          exact List.getElem_mem hlt
        generalize ms.getD k (.put 0) = m at pc0 htk hmem
        have hN : ((ms.take k).filter (allowsB l room (setBits set))).length ≤ 1000 := by
          have := List.length_filter_le (allowsB l room (setBits set)) (ms.take k)
          simp at this
          omega
        generalize (ms.take k).filter (allowsB l room (setBits set)) = N at HO htk hN
        have HTK := hide htk
        have q0 := k0
        have q1 := k1
        have q2 := k2
        have q3 := k3
        rw [← (unhide HB).cell (p := ⟨w2.heap.size, _, none⟩) hlt4] at q0 q1 q2 q3
        have HAL := hide (allows_any l room _ (setBits set) m hsm hpl (unhide HWI m hmem) hokl wo ((unhide HST4).on (unhide HB)))
        clear htk hmem k0 k1 k2 k3
        generalize setBits set = bits at *
        go_wp2_with fail
        refine (unhide HAL).mono ?_
        rintro e w5 ⟨rfl, b5⟩
        have HB5 := hide ((unhide HB).trans (b5.mono (unhide HB).size))
        have HO5 := hide (ownsRow_on (unhide HO) b5)
        clear b5 HB HO HAL q0 q1 q2 q3 pc0
        cases hal : allowsB l room bits m with
        | false =>
          have HO6 := hide (show w5.ownsRow w4.heap.size 39 3 _ ((ms.take (k + 1)).filter (allowsB l room bits)).length (stepVs (((ms.take (k + 1)).filter (allowsB l room bits)).map MvD.step)) by
            rw [unhide HTK, hal]
            simpa using unhide HO5)
          clear hal HTK HO5
          go_wp2_with fail
          go_roundw
          case rel => exact ⟨k + 1, by omega, by go_num, HO6, HB5⟩
          case measure => simp [intOf]; omega
        | true =>
          have HE2 := hide (show (ms.take (k + 1)).filter (allowsB l room bits) = N ++ [m] by
            rw [unhide HTK, hal]
            rfl)
          clear hal HTK
          go_wp2_with fail
          refine (stepOf_any m w5).mono ?_
          rintro e w6 ⟨rfl, b6⟩
          have HB6 := hide ((unhide HB5).trans (b6.mono (unhide HB5).size))
          have hown := ownsRow_on (unhide HO5) b6
          have hz6 := (unhide HB6).size
          clear b6 HB5 HO5
          unfold stepV
          go_wp2_with (first
            | (at_builtin; refine wpList_append_own _ rfl _ _ 27 rfl w4.heap.size 39 i0 (.agg #[.int .i64 0, .int .i64 0, .int .i64 0]) 3 24 Try.underlying27 hi hz0 hz1 hz2 rfl (by decide) _ _ _ rfl (hown.alloc _) ⟨w6.heap.size, 0, none⟩ 1 1 (stepVs [m.step]) rfl rfl ?cc1 ?cc2 ?cc3 ?cc4 ?cc5 ?_))
          case cc1 =>
            intro j u hj
            match j, hj with
            | 0, hj => simp [stepVs] at hj; subst hj; simp [Addr.add]
            | 1, hj => simp [stepVs] at hj; subst hj; simp [Addr.add]
            | 2, hj => simp [stepVs] at hj; subst hj; simp [Addr.add]
          case cc2 => intro u hu; simp [stepVs] at hu; rcases hu with rfl | rfl | rfl <;> rfl
          case cc3 => unfold maxLen; omega
          case cc4 => omega
          case cc5 => simp; omega
          intro v' w7 hown' hgrow _
          have hb7 := ((unhide HB6).alloc (by omega) (.cells #[.int .i64 m.step.kind, .int .i64 m.step.inn, .int .i64 m.step.out] 39)).grown hgrow (by simp; omega) (fun j hj => (World.ownsRow.lt hown j hj).1)
          have HO7 : Hid (w7.ownsRow w4.heap.size 39 3 v' ((ms.take (k + 1)).filter (allowsB l room bits)).length (stepVs (((ms.take (k + 1)).filter (allowsB l room bits)).map MvD.step))) := by
            show World.ownsRow _ _ _ _ _ _ _
            rw [unhide HE2, steps_snoc]
            simpa using hown'
          have HB7 := hide hb7
          clear hown hown' hgrow hb7
          go_wp2_with fail
          go_roundw
          case rel => exact ⟨k + 1, by omega, by go_num, HO7, HB7⟩
          case measure => simp [intOf]; omega
      · have j1 : ¬ (k : Int) < (ms.length : Int) := by omega
        have hke : ms.take k = ms := List.take_of_length_le (by omega)
        rw [hke] at HO
        have HB5 := hide ((unhide HB4).trans ((unhide HB).mono (unhide HB4).size))
        have hz4 := (unhide HB4).size
        go_wp2_with fail
        go_ret
        exact ⟨⟨_, rfl, by rw [unhide HE, List.length_map]; exact row_down (unhide HO) (by omega)⟩, unhide HB5⟩
end Go.Proofs.Ythkhaemlcmkkjae
