/- The walk of the law FnProofTwice: at every code it answers true. -/
import Derived.Test.YthkhaemlcmkkjaiPfL
import Derived.Deep.QuietTactic
import Derived.BigQuiet
namespace Go.Proofs.Ythkhaemlcmkkjai
set_option linter.unusedVariables false
set_option linter.unusedSimpArgs false
open Go.RowKit Go.Deep

/-- Two lists of rows put one behind the other, and asked for. -/
structure CTw (W : World) (p q : List Value) (b : Bool) (us : List Value) (x : World) : Prop where
  below : Below W.heap.size W x
  r0 : ∀ y, us = [y] → x.ownsRow W.heap.size 34 1 y 0 []
  r1 : ∀ y z, us = [y, z] → x.ownsRow W.heap.size 34 1 z p.length p
  r2 : ∀ y z u, us = [y, z, u] → x.ownsRow W.heap.size 34 1 u (p ++ q).length (p ++ q)
  r3 : ∀ y z u v, us = [y, z, u, v] → v = .bool true
theorem CTw.on {W : World} {p q : List Value} {b b' : Bool} {us : List Value} {x y : World} (h : CTw W p q b us x) (hb : Below x.heap.size x y) : CTw W p q b' us y :=
  ⟨h.below.trans (hb.mono h.below.size), fun _ hz => ownsRow_on (h.r0 _ hz) hb, fun _ _ hz => ownsRow_on (h.r1 _ _ hz) hb, fun _ _ _ hz => ownsRow_on (h.r2 _ _ _ hz) hb, h.r3⟩

set_option maxRecDepth 100000 in
set_option maxHeartbeats 2000000 in
theorem prooftwice_law (a : Option Addr) (n c : Nat) (w : World) (h : CodeAt w.heap.size w a n) (hc : n ≤ c) (hc2 : c ≤ maxLen) :
    Calls Try.prog 8 #[.slice a n c] w fun e w' => e = .returned (.bool true) ∧ Below w.heap.size w w' := by
  have hmx := hc2
  unfold maxLen at hmx
  by_cases hbig : 1048576 < n
  · have hb' : (1048576 : Int) < (n : Int) := by omega
    go_enter Try.func8, Try.ntmps8
    go_wp2_with fail
    go_ret
    exact ⟨rfl, Below.refl _ _⟩
  have hb' : ¬ (1048576 : Int) < (n : Int) := by omega
  go_enter Try.func8, Try.ntmps8
  go_wp2_with fail
  refine (DrawSatProof_V a n c w h (by omega) hc hc2).mono ?_
  rintro e w1 ⟨⟨vars, va, vc, ls, pa, ps, pc, rfl, ⟨hcls, hvn, hvc1, hvc2, hll⟩, hps, hpc1, hpc2, hpn, hpl⟩, b1⟩
  have hvm := hvc2
  unfold maxLen at hvm
  have hpm := hpc2
  unfold maxLen at hpm
  have HC1 := hide hcls
  have HP1 := hide hps
  have HB1 := hide b1
  clear hcls hps b1 h
  go_upto_region 4 with fail
  obtain ⟨w2, hw2⟩ : ∃ w2, w2 = w1.alloc (.cells #[.int .i64 vars, .slice va ls.length vc] 25) := ⟨_, rfl⟩
  rw [← hw2]
  have b2 : Below w1.heap.size w1 w2 := by rw [hw2]; exact (Below.refl _ _).alloc (Nat.le_refl _) _
  have x0 : w2.cell? ⟨w1.heap.size, 0, none⟩ = some (.int .i64 vars) := by rw [hw2]; simp
  have x1 : w2.cell? ⟨w1.heap.size, 1, none⟩ = some (.slice va ls.length vc) := by rw [hw2]; simp
  have hlt2 : w1.heap.size < w2.heap.size := by rw [hw2]; simp
  have HC2 := hide ((unhide HC1).on b2)
  have HP2 := hide ((unhide HP1).on b2)
  have HB2 := hide ((unhide HB1).trans (b2.mono (unhide HB1).size))
  clear hw2 b2 HC1 HP1 HB1
  have HI := hide (fun x (hx : Below w2.heap.size w2 x) => implSatProof_any vars va ls vc pa ps pc hpc1 x ((unhide HC2).on hx) ((unhide HP2).on hx))
  have HS := hide (fun x (hx : Below w2.heap.size w2 x) => specSatProof_any vars va ls vc hvn pa ps pc x ((unhide HC2).on hx) ((unhide HP2).on hx))
  obtain ⟨z, hz⟩ : ∃ z, proofZ vars ls ps = z := ⟨_, rfl⟩
  rw [hz] at HI HS
  have HZ := hide hz
  have H22 := hide (Below.refl w2.heap.size w2)
  clear hz
  go_wp2_with fail
  refine (unhide HI w2 (unhide H22)).mono ?_
  rintro e w3 ⟨rfl, b3⟩
  have H23 := hide ((unhide H22).trans (b3.mono (unhide H22).size))
  clear H22
  have HC3 := hide ((unhide HC2).on b3)
  have HP3 := hide ((unhide HP2).on b3)
  have HB3 := hide ((unhide HB2).trans (b3.mono (unhide HB2).size))
  have hlt3 : w1.heap.size < w3.heap.size := Nat.lt_of_lt_of_le hlt2 b3.size
  rw [← b3.cell (p := ⟨w1.heap.size, _, none⟩) hlt2] at x0 x1
  clear HC2 HP2 HB2 b3 hlt2
  cases z with
  | false =>
    go_wp2_with fail
    refine (unhide HS w3 (unhide H23)).mono ?_
    rintro e w4 ⟨rfl, b4⟩
    have H24 := hide ((unhide H23).trans (b4.mono (unhide H23).size))
    clear H23
    have HC4 := hide ((unhide HC3).on b4)
    have HP4 := hide ((unhide HP3).on b4)
    have HB4 := hide ((unhide HB3).trans (b4.mono (unhide HB3).size))
    have hlt4 : w1.heap.size < w4.heap.size := Nat.lt_of_lt_of_le hlt3 b4.size
    rw [← b4.cell (p := ⟨w1.heap.size, _, none⟩) hlt3] at x0 x1
    clear HC3 HP3 HB3 b4 hlt3
    go_wp2_with fail
    refine (unhide HS w4 (unhide H24)).mono ?_
    rintro e w5 ⟨rfl, b5⟩
    have H25 := hide ((unhide H24).trans (b5.mono (unhide H24).size))
    clear H24
    have HC5 := hide ((unhide HC4).on b5)
    have HP5 := hide ((unhide HP4).on b5)
    have HB5 := hide ((unhide HB4).trans (b5.mono (unhide HB4).size))
    have hlt5 : w1.heap.size < w5.heap.size := Nat.lt_of_lt_of_le hlt4 b5.size
    rw [← b5.cell (p := ⟨w1.heap.size, _, none⟩) hlt4] at x0 x1
    clear HC4 HP4 HB4 b5 hlt4
    go_wp2_with fail
    go_ret
    exact ⟨rfl, unhide HB5⟩
  | true =>
    have hwad : IntKind.i64.wrap ((ls.length : Int) + (ps.length : Int)) = (ls.length : Int) + (ps.length : Int) := by rw [IntKind.wrap_i64]; omega
    by_cases hbg : (6000 : Int) < (ls.length : Int) + (ps.length : Int)
    · go_wp2_with fail
      refine (unhide HS w3 (unhide H23)).mono ?_
      rintro e w4 ⟨rfl, b4⟩
      have H24 := hide ((unhide H23).trans (b4.mono (unhide H23).size))
      clear H23
      have HC4 := hide ((unhide HC3).on b4)
      have HP4 := hide ((unhide HP3).on b4)
      have HB4 := hide ((unhide HB3).trans (b4.mono (unhide HB3).size))
      have hlt4 : w1.heap.size < w4.heap.size := Nat.lt_of_lt_of_le hlt3 b4.size
      rw [← b4.cell (p := ⟨w1.heap.size, _, none⟩) hlt3] at x0 x1
      clear HC3 HP3 HB3 b4 hlt3
      go_wp2_with fail
      refine (unhide HS w4 (unhide H24)).mono ?_
      rintro e w5 ⟨rfl, b5⟩
      have H25 := hide ((unhide H24).trans (b5.mono (unhide H24).size))
      clear H24
      have HC5 := hide ((unhide HC4).on b5)
      have HP5 := hide ((unhide HP4).on b5)
      have HB5 := hide ((unhide HB4).trans (b5.mono (unhide HB4).size))
      have hlt5 : w1.heap.size < w5.heap.size := Nat.lt_of_lt_of_le hlt4 b5.size
      rw [← b5.cell (p := ⟨w1.heap.size, _, none⟩) hlt4] at x0 x1
      clear HC4 HP4 HB4 b5 hlt4
      go_wp2_with fail
      go_ret
      exact ⟨rfl, unhide HB5⟩
    · go_wp2_with fail
      refine (unhide HS w3 (unhide H23)).mono ?_
      rintro e w4 ⟨rfl, b4⟩
      have H24 := hide ((unhide H23).trans (b4.mono (unhide H23).size))
      clear H23
      have HC4 := hide ((unhide HC3).on b4)
      have HP4 := hide ((unhide HP3).on b4)
      have HB4 := hide ((unhide HB3).trans (b4.mono (unhide HB3).size))
      have hlt4 : w1.heap.size < w4.heap.size := Nat.lt_of_lt_of_le hlt3 b4.size
      rw [← b4.cell (p := ⟨w1.heap.size, _, none⟩) hlt3] at x0 x1
      clear HC3 HP3 HB3 b4 hlt3
      have htw := proof_twice (unhide HZ) (by omega)
      have HTW := hide htw
      obtain ⟨xs, hxl, hxc, hxr, hxo, hxn⟩ := (unhide HC4).vals
      obtain ⟨qs, hql, hqc, hqr, hqo, hqn⟩ := (unhide HP4).vals
      have HXC := hide hxc
      have HXR := hide hxr
      have HXO := hide hxo
      have HQC := hide hqc
      have HQR := hide hqr
      have HQO := hide hqo
      clear hxc hxr hxo hqc hqr hqo htw HI HS HZ H24
      go_upto_region 7 with fail
      refine wp_region_mix (k := 100) 8 [1, 4, 6, 7] [.agg #[.int .i64 vars, .slice va ls.length vc], undef, .pointer (some ⟨w1.heap.size, 1, none⟩), .slice va ls.length vc, undef, .slice pa ps.length pc, undef, undef] (CTw w4 xs qs) (by kernel_rfl) (by kernel_rfl) (by kernel_rfl) (by kernel_rfl) (by kernel_rfl) (by kernel_rfl) ⟨(Below.refl _ _).drew, (fun _ h => by cases h), (fun _ _ h => by cases h), (fun _ _ _ h => by cases h), (fun _ _ _ _ h => by cases h)⟩ ?_ ?_ ?_
      · intro full hfull i oo hi' hns ho x fl us hC hb
        simp [putAll, slotOf, Act.put] at hfull
        subst hfull
        have bx := hC.below
        have y0 := (bx.cell (p := ⟨w1.heap.size, 0, none⟩) hlt4).trans x0
        have y1 := (bx.cell (p := ⟨w1.heap.size, 1, none⟩) hlt4).trans x1
        have hC0 := hC.on (b' := fl) (Below.refl _ _)
        match i with
        | 0 => simp at ho; subst ho; simp [gwp, Region.wanted, yielded]; go_simp; first | done | exact hC0 | exact ⟨rfl, hC0⟩ | (simp; exact hC0) | (refine ⟨by simp <;> omega, hC0⟩)
        | 1 => simp at hns
        | 2 => simp at ho; subst ho; simp [gwp, Region.wanted, yielded]; go_simp; first | done | exact hC0 | exact ⟨rfl, hC0⟩ | (simp; exact hC0) | (refine ⟨by simp <;> omega, hC0⟩)
        | 3 => simp at ho; subst ho; simp [gwp, Region.wanted, yielded]; go_simp; first | done | exact hC0 | exact ⟨rfl, hC0⟩ | (simp; exact hC0) | (refine ⟨by simp <;> omega, hC0⟩)
        | 4 => simp at hns
        | 5 => simp at ho; subst ho; simp [gwp, Region.wanted, yielded]; go_simp; first | done | exact hC0 | exact ⟨rfl, hC0⟩ | (simp; exact hC0) | (refine ⟨by simp <;> omega, hC0⟩)
        | 6 => simp at hns
        | 7 => simp at hns
        | i + 8 => omega
      · intro full hfull us j hj oo ho x fl hC
        simp [putAll, slotOf, Act.put] at hfull
        subst hfull
        have bx := hC.below
        match us with
        | [] =>
          simp at hj
          subst hj
          simp at ho
          subst ho
          simp [gwp, Region.wanted, yielded, putP]
          go_simp
          have h1 := hC.on (b' := fl) ((Below.refl x.heap.size x).alloc (Nat.le_refl _) (.cells #[] 34))
          refine ⟨h1.below, fun y hy => ?_, (fun y z h => by cases h), (fun y z u h => by cases h), (fun _ _ _ _ h => by cases h)⟩
          cases hy
          have := World.ownsRow_lit (base := w4.heap.size) (e := 34) (size := 1) x #[] 0 bx.size (Nat.zero_le _) rfl
          simpa using this
        | [y] =>
          simp at hj
          subst hj
          simp at ho
          subst ho
          have hown := hC.r0 y rfl
          obtain ⟨v', w', hr, h2, h3⟩ := append_vals hown hxl (cap := vc) (fun e => ⟨hxn e, hvn e⟩) (fun ad e j u hju => by
            obtain ⟨h1, h2⟩ := unhide HXC ad e j u hju
            exact (bx.cell (p := ad.add j) (by unfold Addr.add; split <;> exact h2)).trans h1) (unhide HXO) (by omega) hvc1 bx.size
          simp only [gwp, Region.wanted, yielded, if_true]
          refine wp_append_runV _ _ 23 rfl y (.slice va ls.length vc) v' w' ?_ ?_ hr ⟨v', rfl, ⟨bx.grown h3 bx.size (fun j hj => (World.ownsRow.lt hown j hj).1), (fun y h => by cases h), fun a z h => ?_, (fun a z u h => by cases h), (fun _ _ _ _ h => by cases h)⟩⟩
          · simp [putP, slotOf, Act.put, Act.eval]
          · simp [putP, slotOf, Act.put, Act.eval]
          · cases h
            have e : xs.length = 0 + ls.length := by omega
            rw [e]
            simpa using h2
        | [y, z] =>
          simp at hj
          subst hj
          simp at ho
          subst ho
          have hown := hC.r1 y z rfl
          obtain ⟨v', w', hr, h2, h3⟩ := append_vals hown hql (cap := pc) (fun e => ⟨hqn e, hpn e⟩) (fun ad e j u hju => by
            obtain ⟨h1, h2⟩ := unhide HQC ad e j u hju
            exact (bx.cell (p := ad.add j) (by unfold Addr.add; split <;> exact h2)).trans h1) (unhide HQO) (by omega) hpc1 bx.size
          simp only [gwp, Region.wanted, yielded, if_true]
          refine wp_append_runV _ _ 23 rfl z (.slice pa ps.length pc) v' w' ?_ ?_ hr ⟨v', rfl, ⟨bx.grown h3 bx.size (fun j hj => (World.ownsRow.lt hown j hj).1), (fun y h => by cases h), (fun a z h => by cases h), fun a b u h => ?_, (fun _ _ _ _ h => by cases h)⟩⟩
          · simp [putP, slotOf, Act.put, Act.eval]
          · simp [putP, slotOf, Act.put, Act.eval]
          · cases h
            have e : (xs ++ qs).length = xs.length + ps.length := by rw [List.length_append]; omega
            rw [e]
            exact h2
        | [y, z, u] =>
          simp at hj
          subst hj
          simp at ho
          subst ho
          have hown := hC.r2 y z u rfl
          have e : (xs ++ qs).length = (ls ++ ps).length := by rw [List.length_append, List.length_append]; omega
          rw [e] at hown
          obtain ⟨oa, oc, hu, ho1, hcl⟩ := clsA_of (ls ++ ps) hown (by rw [List.length_append]; omega) (fun i hi => by
            by_cases h1 : i < ls.length
            · rw [show (xs ++ qs).getD i undef = xs.getD i undef by simp [List.getD, List.getElem?_append, hxl, h1], show (ls ++ ps).getD i [] = ls.getD i [] by simp [List.getD, List.getElem?_append, h1]]
              obtain ⟨a', c', e1, e2⟩ := unhide HXR i h1
              exact ⟨a', c', e1, e2.on bx⟩
            · have h2 : i - ls.length < ps.length := by rw [List.length_append] at hi; omega
              rw [show (xs ++ qs).getD i undef = qs.getD (i - ls.length) undef by simp [List.getD, List.getElem?_append, hxl, h1], show (ls ++ ps).getD i [] = ps.getD (i - ls.length) [] by simp [List.getD, List.getElem?_append, h1]]
              obtain ⟨a', c', e1, e2⟩ := unhide HQR _ h2
              exact ⟨a', c', e1, e2.on bx⟩)
          subst hu
          have HT := hide (implSatProof_any vars va ls vc oa (ls ++ ps) oc ho1 x ((unhide HC4).on bx) hcl)
          rw [unhide HTW] at HT
          generalize (ls ++ ps).length = tl at HT
          clear hcl hown hC
          simp [gwp, Region.wanted, yielded, putP, slotOf, Act.put]
          go_simp
          refine (unhide HT).mono ?_
          rintro e wy ⟨rfl, by1⟩
          have hC1 : CTw w4 xs qs fl [y, z, .slice oa tl oc, .bool true] wy := ⟨bx.trans (by1.mono bx.size), (fun y h => by cases h), (fun a z h => by cases h), (fun a z u h => by cases h), fun _ _ _ _ h => by cases h; rfl⟩
          go_simp
          first | done | exact hC1 | exact ⟨rfl, hC1⟩ | (simp; exact hC1)
        | _ :: _ :: _ :: _ :: _ => simp at hj
      intro full hfull us w5 hus hC
      simp [putAll, slotOf, Act.put] at hfull
      subst hfull
      match us, hus with
      | [y, z, u, v], _ =>
      have hv := hC.r3 y z u v rfl
      subst hv
      have b5 := hC.below
      clear hC
      have HB5 := hide ((unhide HB4).trans (b5.mono (unhide HB4).size))
      simp [putP, slotOf, Act.put]
      go_wp2_with fail
      go_ret
      exact ⟨rfl, unhide HB5⟩
end Go.Proofs.Ythkhaemlcmkkjai
