/- How many models few clauses have: CoreCount of both sides. -/
import Derived.Test.YthkhaemlcmkkjaqCoD
import Derived.Test.YthkhaemlcmkkjaqMdB
import Derived.Test.YthkhaemlcmkkjaqCnU
namespace Go.Proofs.Ythkhaemlcmkkjaq
set_option linter.unusedVariables false
set_option linter.unusedSimpArgs false
open Go.RowKit Go.Deep

set_option maxRecDepth 100000 in
set_option maxHeartbeats 2000000 in
theorem implCoreCount_any (vars : Int) (a : Option Addr) (cs : List (List Int)) (cap : Nat) (w : World) (h : ClsAt w a cs) :
    Calls Try.prog 10 #[.agg #[.int .i64 vars, .slice a cs.length cap]] w fun e w' => e = .returned (.int .i64 (countZ vars cs)) ∧ Below w.heap.size w w' := by
  have b1 := (Below.refl w.heap.size w).alloc (Nat.le_refl _) (.cells #[.int .i64 vars, .slice a cs.length cap] 25)
  have HF := hide (fewOf_any vars a cs cap _ (h.on b1))
  have HB1 := hide b1
  obtain ⟨R, hR⟩ : ∃ R, R = countZ vars cs := ⟨_, rfl⟩
  rw [← hR]
  have HR := hide hR
  clear b1 h hR
  go_enter Try.func10, Try.ntmps10
  go_wp2_with fail
  refine (unhide HF).mono ?_
  rintro e w2 ⟨hf, b2⟩
  have HB2 := hide ((unhide HB1).trans (b2.mono (by simp)))
  clear HF b2
  unfold FewOut at hf
  cases hs : smallB vars cs with
  | false =>
    rw [if_neg (by rw [hs]; decide)] at hf
    subst hf
    have HE := hide (show (-1 : Int) = R by rw [unhide HR]; unfold countZ; rw [if_neg (by rw [hs]; decide)])
    clear hs HR
    go_wp2_with fail
    go_ret
    exact ⟨by rw [← unhide HE]; rfl, (unhide HB2).trans (((Below.refl w2.heap.size w2).alloc (Nat.le_refl _) _).mono (unhide HB2).size)⟩
  | true =>
    rw [if_pos hs] at hf
    obtain ⟨fv, rfl, hrow⟩ := hf
    obtain ⟨hok, hv10, hl60⟩ := small_parts hs
    have hv0 := (cnf_rng hok).1
    obtain ⟨v, rfl⟩ : ∃ v : Nat, vars = (v : Int) := ⟨vars.toNat, by omega⟩
    obtain ⟨va, vc, hfv⟩ := hrow.slice
    subst hfv
    have b3 := (Below.refl w2.heap.size w2).alloc (Nat.le_refl _) (.cells #[.int .i64 (v : Int), .slice va cs.length vc] 47)
    have HM := hide (models_any v (by omega) _ va cs vc hl60 hok _ (hrow.on b3))
    have HB3 := hide ((unhide HB2).trans (b3.mono (unhide HB2).size))
    have HE := hide (show ((modelsN v cs).length : Int) = R by rw [unhide HR]; unfold countZ; rw [if_pos hs, Int.toNat_natCast])
    clear hs HR hrow b3 hok
    go_wp2_with fail
    refine (unhide HM).mono ?_
    rintro e w4 ⟨⟨u, rfl, hu⟩, b4⟩
    obtain ⟨ua, uc, huv⟩ : ∃ ua uc, u = .slice ua (modelsN v cs).length uc := by
      rcases hu.2 with ⟨hv, h0⟩ | ⟨g, cp, cur, hv, _⟩
      · exact ⟨none, 0, by rw [hv, h0]⟩
      · exact ⟨_, _, hv⟩
    subst huv
    have HB4 := hide ((unhide HB3).trans (b4.mono (unhide HB3).size))
    clear HM b4 hu
    generalize (modelsN v cs).length = ml at HE ⊢
    go_wp2_with fail
    go_ret
    exact ⟨by rw [← unhide HE]; rfl, unhide HB4⟩

set_option maxHeartbeats 1000000 in
theorem l13Small_any (vars : Int) (a : Option Addr) (cs : List (List Int)) (cap : Nat) (w : World) (h : ClsAt w a cs) :
    Calls Try.prog 26 #[.agg #[.int .i64 vars, .slice a cs.length cap]] w fun e w' => e = .returned (.bool (smallB vars cs)) ∧ Below w.heap.size w w' := by
  have b1 := (Below.refl w.heap.size w).alloc (Nat.le_refl _) (.cells #[.int .i64 vars, .slice a cs.length cap] 25)
  obtain ⟨w1, hw1⟩ : ∃ w1, w1 = w.alloc (.cells #[.int .i64 vars, .slice a cs.length cap] 25) := ⟨_, rfl⟩
  rw [← hw1] at b1
  have x0 : w1.cell? ⟨w.heap.size, 0, none⟩ = some (.int .i64 vars) := by rw [hw1]; simp
  have x1 : w1.cell? ⟨w.heap.size, 1, none⟩ = some (.slice a cs.length cap) := by rw [hw1]; simp
  have hlt1 : w.heap.size < w1.heap.size := by rw [hw1]; simp
  have HK := hide (specCnfOk_any vars a cs cap w1 (h.on b1))
  have HB1 := hide b1
  have hsm : smallB vars cs = (cnfB vars cs && (decide (vars ≤ 10) && decide (cs.length ≤ 60))) := rfl
  obtain ⟨R, hR⟩ : ∃ R, R = smallB vars cs := ⟨_, rfl⟩
  rw [← hR] at hsm ⊢
  obtain ⟨okc, hok⟩ : ∃ okc, okc = cnfB vars cs := ⟨_, rfl⟩
  rw [← hok] at hsm HK
  have HS := hide hsm
  clear b1 h hR hok hsm
  go_enter Try.func26, Try.ntmps26
  go_upto_region 1 with fail
  rw [← hw1]
  clear hw1
  go_wp2_with fail
  refine (unhide HK).mono ?_
  rintro e w2 ⟨rfl, b2⟩
  rw [← b2.cell (p := ⟨w.heap.size, _, none⟩) hlt1] at x0 x1
  have HB2 := hide ((unhide HB1).trans (b2.mono (unhide HB1).size))
  clear HK b2 HB1
  cases okc with
  | false =>
    go_wp2_with fail
    go_ret
    exact ⟨ret_bool (unhide HS).symm, unhide HB2⟩
  | true =>
    by_cases hv : vars ≤ 10
    · have HS2 := hide (show R = decide (cs.length ≤ 60) by rw [unhide HS, decide_eq_true hv]; rfl)
      clear HS
      by_cases hl : cs.length ≤ 60
      · have j1 : (cs.length : Int) ≤ 60 := by omega
        have HS3 := hide ((unhide HS2).trans (decide_eq_true hl))
        clear HS2
        go_wp2_with fail
        go_ret
        exact ⟨ret_bool (unhide HS3).symm, unhide HB2⟩
      · have j1 : ¬ (cs.length : Int) ≤ 60 := by omega
        have HS3 := hide ((unhide HS2).trans (decide_eq_false hl))
        clear HS2
        go_wp2_with fail
        go_ret
        exact ⟨ret_bool (by rw [unhide HS3]; exact decide_eq_false (by omega)), unhide HB2⟩
    · have HS3 := hide (show R = false by rw [unhide HS, decide_eq_false hv]; rfl)
      clear HS
      go_wp2_with fail
      go_ret
      exact ⟨ret_bool (unhide HS3).symm, unhide HB2⟩

set_option maxRecDepth 100000 in
set_option maxHeartbeats 2000000 in
theorem l13Model_any (v n : Nat) (hv : v ≤ 10) (w : World) :
    Calls Try.prog 28 #[.int .i64 (v : Int), .int .i64 (n : Int)] w fun e w' => (∃ u, e = .returned u ∧ RowM w.heap.size w' u (bitsM v n)) ∧ Below w.heap.size w w' := by
  obtain ⟨i1, hj1, hy0, hy1, hy2⟩ := info_parts Try.infoMd
  have HM0 := hide (RowM.nil w)
  go_enter Try.func28, Try.ntmps28
  go_wp2_with fail
  go_loopw [5, 6] (fun x i wr => ∃ j : Nat, j ≤ v ∧ i = .int .i64 j ∧ Hid (RowM w.heap.size wr x (bitsM j n)) ∧ w.heap.size ≤ wr.heap.size ∧ Hid (Below w.heap.size w wr)) (fun _ i _ => v - (intOf i).toNat)
  case atStart => exact ⟨0, Nat.zero_le _, rfl, HM0, by simp, (Below.refl _ _).alloc (Nat.le_refl _) _⟩
  case round =>
    rename World => wi
    obtain ⟨j, hj, rfl, HM, hwi, HB⟩ := hrel
    clear HM0
    have hbl := bitsM_len j n
    by_cases hjv : j < v
    · have j2 : (j : Int) < (v : Int) := by omega
      have hown : wi.ownsRow w.heap.size 4 1 u5 j ((bitsM j n).map fun i => .bool i) := by
        have := unhide HM
        unfold RowM at this
        rwa [hbl] at this
      have hblk : ∀ b, u5.ownBlock = some b → w.heap.size ≤ b := fun b hb => (World.ownsRow.lt hown b hb).1
      go_wp2_with (first
        | (at_builtin; refine wpList_append_own _ rfl _ _ 28 rfl w.heap.size 4 i1 (.bool false) 1 1 Try.underlying28 hj1 hy0 hy1 hy2 rfl (by decide) _ _ _ rfl (hown.alloc _) ⟨wi.heap.size, 0, none⟩ 1 1 [.bool (((n : Int) / 2 ^ j).tmod 2 == 1)] rfl rfl ?c1 ?c2 ?c3 ?c4 ?c5 ?_))
      case c1 =>
        intro j u hj
        match j, hj with
        | 0, hj => simp at hj; subst hj; simp [Addr.add]
      case c2 => intro u hu; simp at hu; subst hu; rfl
      case c3 => unfold maxLen; omega
      case c4 => omega
      case c5 => simp; omega
      intro v' wj hown' hgrow _
      have HM2 : Hid (RowM w.heap.size wj v' (bitsM (j + 1) n)) := by
        show RowM _ _ _ _
        have hb2 := bitsM_len (j + 1) n
        rw [shr_bit] at hown'
        unfold RowM
        rw [hb2, bitsM_more, List.map_append]
        exact hown'
      have hzj := hgrow.size
      simp at hzj
      have HB2 : Hid (Below w.heap.size w wj) := ⟨hgrow.os.trans (unhide HB).os, hgrow.tape.trans (unhide HB).tape, hgrow.output.trans (unhide HB).output, by omega, fun b hb => (hgrow.block b (by simp; omega) (fun e => by have := hblk b e.symm; omega)).trans ((blk_alloc_lt _ _ _ (by omega)).trans ((unhide HB).block b hb))⟩
      clear hown hown' hgrow HB HM
      go_wp2_with fail
      go_roundw
      case rel => exact ⟨j + 1, by omega, by go_num, HM2, by omega, HB2⟩
      case measure => simp [intOf]; omega
    · have hjv2 : j = v := by omega
      subst hjv2
      have j2 : ¬ (j : Int) < (j : Int) := by omega
      go_wp2_with fail
      go_ret
      exact ⟨⟨_, rfl, unhide HM⟩, unhide HB⟩
/-- A model is laid. -/
structure CMd (W : World) (v n : Nat) (b : Bool) (us : List Value) (x : World) : Prop where
  below : Below W.heap.size W x
  val : ∀ y, us = [y] → ∃ a c, y = .slice a v c ∧ BoolsAt x a (bitsM v n)
theorem CMd.on {W x y : World} {v n : Nat} {b b' : Bool} {us : List Value} (h : CMd W v n b us x) (hb : Below x.heap.size x y) : CMd W v n b' us y :=
  ⟨h.below.trans (hb.mono h.below.size), fun u e => by
    obtain ⟨a, c, h1, h2⟩ := h.val u e
    exact ⟨a, c, h1, h2.on hb⟩⟩

set_option maxRecDepth 100000 in
set_option maxHeartbeats 4000000 in
theorem specCoreCount_any (vars : Int) (a : Option Addr) (cs : List (List Int)) (cap : Nat) (w : World) (h : ClsAt w a cs) :
    Calls Try.prog 11 #[.agg #[.int .i64 vars, .slice a cs.length cap]] w fun e w' => e = .returned (.int .i64 (countZ vars cs)) ∧ Below w.heap.size w w' := by
  have b1 := (Below.refl w.heap.size w).alloc (Nat.le_refl _) (.cells #[.int .i64 vars, .slice a cs.length cap] 25)
  obtain ⟨w1, hw1⟩ : ∃ w1, w1 = w.alloc (.cells #[.int .i64 vars, .slice a cs.length cap] 25) := ⟨_, rfl⟩
  rw [← hw1] at b1
  have x0 : w1.cell? ⟨w.heap.size, 0, none⟩ = some (.int .i64 vars) := by rw [hw1]; simp
  have x1 : w1.cell? ⟨w.heap.size, 1, none⟩ = some (.slice a cs.length cap) := by rw [hw1]; simp
  have hlt1 : w.heap.size < w1.heap.size := by rw [hw1]; simp
  have HK := hide (l13Small_any vars a cs cap w1 (h.on b1))
  have HB1 := hide b1
  have HA := hide (h.on b1)
  obtain ⟨R, hR⟩ : ∃ R, R = countZ vars cs := ⟨_, rfl⟩
  rw [← hR]
  have HR := hide hR
  clear b1 h hR
  go_enter Try.func11, Try.ntmps11
  go_upto_region 1 with fail
  rw [← hw1]
  clear hw1
  go_wp2_with fail
  refine (unhide HK).mono ?_
  rintro e w2 ⟨rfl, b2⟩
  rw [← b2.cell (p := ⟨w.heap.size, _, none⟩) hlt1] at x0 x1
  have hlt2 : w.heap.size < w2.heap.size := Nat.lt_of_lt_of_le hlt1 b2.size
  have HB2 := hide ((unhide HB1).trans (b2.mono (unhide HB1).size))
  have HA2 := hide ((unhide HA).on b2)
  clear HK b2 HB1 HA
  cases hs : smallB vars cs with
  | false =>
    have HE := hide (show (-1 : Int) = R by rw [unhide HR]; unfold countZ; rw [if_neg (by rw [hs]; decide)])
    clear hs HR
    go_wp2_with fail
    go_ret
    exact ⟨by rw [← unhide HE]; rfl, unhide HB2⟩
  | true =>
    obtain ⟨hok, hv10, hl60⟩ := small_parts hs
    have hv0 := (cnf_rng hok).1
    obtain ⟨v, rfl⟩ : ∃ v : Nat, vars = (v : Int) := ⟨vars.toNat, by omega⟩
    have HE := hide (show ((modelsTo v cs (2 ^ v)).length : Int) = R by rw [unhide HR]; unfold countZ; rw [if_pos hs, Int.toNat_natCast]; rfl)
    have HTB := hide (fun b => true_bits (b := b) hok)
    obtain ⟨hshl, hpw⟩ := shl_wrap (v := v) (by omega)
    clear hs HR hok
    generalize hN : 2 ^ v = N at hpw hshl HE
    clear hN
    go_wp2_with fail
    go_loopw [3, 4] (fun c i wr => ∃ n : Nat, n ≤ N ∧ c = .int .i64 ((modelsTo v cs n).length : Int) ∧ i = .int .i64 n ∧ Hid (Below w2.heap.size w2 wr)) (fun _ i _ => N - (intOf i).toNat)
    case atStart => exact ⟨0, Nat.zero_le _, rfl, rfl, Below.refl _ _⟩
    case round =>
      rename World => wo
      obtain ⟨n, hn, rfl, rfl, HW⟩ := hrel
      have y0 := ((unhide HW).cell (p := ⟨w.heap.size, 0, none⟩) hlt2).trans x0
      have y1 := ((unhide HW).cell (p := ⟨w.heap.size, 1, none⟩) hlt2).trans x1
      have hlto := Nat.lt_of_lt_of_le hlt2 (unhide HW).size
      have hml := models_len v cs n
      by_cases hnN : n < N
      · have j1 : (n : Int) < (N : Int) := by omega
        have HMM := hide (models_more v cs n)
        obtain ⟨ml, hml2⟩ : ∃ ml, ml = (modelsTo v cs n).length := ⟨_, rfl⟩
        rw [← hml2] at hml
        rw [← hml2]
        have HML := hide hml2
        clear hml2
        go_upto_region 7 with fail
        refine wp_region_mix (k := 100) 5 [4] [.agg #[.int .i64 (v : Int), .slice a cs.length cap], .pointer (some ⟨w.heap.size, 0, none⟩), .int .i64 (v : Int), .int .i64 (n : Int), undef] (CMd wo v n) (by kernel_rfl) (by kernel_rfl) (by kernel_rfl) (by kernel_rfl) (by kernel_rfl) (by kernel_rfl) ⟨(Below.refl _ _).drew, (fun _ h => by cases h)⟩ ?_ ?_ ?_
        · intro full hfull i oo hi' hns ho x fl us hC hb'
          simp [putAll, slotOf, Act.put] at hfull
          subst hfull
          have p0 := (hC.below.cell (p := ⟨w.heap.size, 0, none⟩) hlto).trans y0
          have p1 := (hC.below.cell (p := ⟨w.heap.size, 1, none⟩) hlto).trans y1
          have hC0 := hC.on (b' := fl) (Below.refl _ _)
          match i with
          | 0 => simp at ho; subst ho; simp [gwp, Region.wanted, yielded]; go_simp; first | done | exact hC0 | exact ⟨rfl, hC0⟩ | (simp; exact hC0)
          | 1 => simp at ho; subst ho; simp [gwp, Region.wanted, yielded]; go_simp; first | done | exact hC0 | exact ⟨rfl, hC0⟩ | (simp; exact hC0)
          | 2 => simp at ho; subst ho; simp [gwp, Region.wanted, yielded]; go_simp; first | done | exact hC0 | exact ⟨rfl, hC0⟩ | (simp; exact hC0)
          | 3 => simp at ho; subst ho; simp [gwp, Region.wanted, yielded]; go_simp; first | done | exact hC0 | exact ⟨rfl, hC0⟩ | (simp; exact hC0)
          | 4 => simp at hns
          | i + 5 => omega
        · intro full hfull us j hj oo ho x fl hC
          simp [putAll, slotOf, Act.put] at hfull
          subst hfull
          have bx := hC.below
          match us with
          | [] =>
            simp at hj
            subst hj
            simp at ho
            subst ho
            clear hC
            simp [gwp, Region.wanted, yielded, putP, slotOf, Act.put]
            go_simp
            refine (l13Model_any v n (by omega) x).mono ?_
            rintro e wy ⟨⟨u, rfl, hu⟩, by1⟩
            obtain ⟨ua, uc, huv, hub⟩ := RowM.at hu (by rw [bitsM_len]; omega)
            rw [bitsM_len] at huv
            subst huv
            have hC1 : CMd wo v n fl [.slice ua v uc] wy := ⟨bx.trans (by1.mono bx.size), fun y h => by cases h; exact ⟨_, _, rfl, hub⟩⟩
            go_simp
            first | done | exact hC1 | exact ⟨_, rfl, hC1⟩ | (simp; exact hC1)
          | _ :: _ => simp at hj
        intro full hfull us x hus hC
        simp [putAll, slotOf, Act.put] at hfull
        subst hfull
        match us, hus with
        | [y], _ =>
        obtain ⟨ua, uc, hy, hub⟩ := hC.val y rfl
        subst hy
        have HCT := hide (specCnfTrue_any (v : Int) a cs cap ua (bitsM v n) uc x (((unhide HA2).on (unhide HW)).on hC.below) hub)
        rw [unhide HTB n, bitsM_len] at HCT
        have HWX := hide ((unhide HW).trans (hC.below.mono (unhide HW).size))
        have hwm : IntKind.i64.wrap ((ml : Int) + 1) = ((ml + 1 : Nat) : Int) := by rw [IntKind.wrap_i64]; omega
        clear hC hub HW
        simp [putP, slotOf, Act.put]
        cases hh : holdN v cs n with
        | false =>
          rw [hh] at HCT HMM
          have HL2 := hide (show ml = (modelsTo v cs (n + 1)).length by rw [unhide HMM]; exact unhide HML)
          clear hh HMM HML
          go_wp2_with fail
          refine (unhide HCT).mono ?_
          rintro e w5 ⟨rfl, b5⟩
          have HW5 := hide ((unhide HWX).trans (b5.mono (unhide HWX).size))
          clear b5 HCT HWX
          go_wp2_with fail
          go_roundw
          case rel => exact ⟨n + 1, by omega, by rw [← unhide HL2], by go_num, HW5⟩
          case measure => simp [intOf]; omega
        | true =>
          rw [hh, if_pos rfl] at HMM
          rw [hh] at HCT
          have HL2 := hide (show ml + 1 = (modelsTo v cs (n + 1)).length by rw [unhide HMM, List.length_append, ← unhide HML]; rfl)
          clear hh HMM HML
          go_wp2_with fail
          refine (unhide HCT).mono ?_
          rintro e w5 ⟨rfl, b5⟩
          have HW5 := hide ((unhide HWX).trans (b5.mono (unhide HWX).size))
          clear b5 HCT HWX
          go_wp2_with fail
          go_roundw
          case rel => exact ⟨n + 1, by omega, by rw [← unhide HL2]; simp, by go_num, HW5⟩
          case measure => simp [intOf]; omega
      · have j1 : ¬ (n : Int) < (N : Int) := by omega
        have hnn : n = N := by omega
        rw [← hnn] at HE
        generalize (modelsTo v cs n).length = ml at HE ⊢
        clear hml
        go_wp2_with fail
        go_ret
        exact ⟨by rw [← unhide HE]; rfl, (unhide HB2).trans ((unhide HW).mono (unhide HB2).size)⟩
end Go.Proofs.Ythkhaemlcmkkjaq
