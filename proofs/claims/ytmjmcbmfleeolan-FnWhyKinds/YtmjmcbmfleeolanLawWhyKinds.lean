/- The walk of the law FnWhyKinds: of every code it answers true, and writes nothing that was there. -/
import Derived.Test.YtmjmcbmfleeolanDrawW
import Derived.Test.YtmjmcbmfleeolanWhyC
import Derived.Test.YtmjmcbmfleeolanWhyS
import Derived.Test.YtmjmcbmfleeolanWhyQ
import Derived.Test.YtmjmcbmfleeolanWhyN
import Derived.Test.YtmjmcbmfleeolanWhyK
import Derived.Test.YtmjmcbmfleeolanLdFits
import Derived.Test.YtmjmcbmfleeolanFormS
namespace Go.Proofs.Ytmjmcbmfleeolan
set_option linter.unusedVariables false
set_option linter.unusedSimpArgs false
open Go.RowKit Go.Deep

set_option maxRecDepth 100000 in
set_option maxHeartbeats 8000000 in
theorem whykinds_law (a : Option Addr) (n c : Nat) (w : World) (h : CodeAt w.heap.size w a n) (hc : n ≤ c) (hc2 : c ≤ maxLen) :
    Calls Try.prog 4 #[.slice a n c] w fun e w' => e = .returned (.bool true) ∧ Below w.heap.size w w' := by
  have hmx := hc2
  unfold maxLen at hmx
  by_cases hbig : 1048576 < n
  · have hb' : (1048576 : Int) < (n : Int) := by omega
    go_enter Try.func4, Try.ntmps4
    go_wp2_with fail
    go_ret
    exact ⟨rfl, Below.refl _ _⟩
  have hb' : ¬ (1048576 : Int) < (n : Int) := by omega
  go_enter Try.func4, Try.ntmps4
  go_wp2_with fail
  refine (DrawWhyNot_V a n c w h (by omega) hc hc2).mono ?_
  rintro e w1 ⟨⟨v, room, u, rfl, hV, set, hrow, hsl⟩, b1⟩
  obtain ⟨va, vn, vc, rfl, _⟩ := SlBy.slice hV
  obtain ⟨l, rfl, hP⟩ := V2.packs hV
  obtain ⟨sa, sc, hu, hset⟩ := RowI.set hrow (by omega)
  subst hu
  have hscl : set.length ≤ sc := row_le hrow
  have HP1 := hide hP
  have HS1 := hide hset
  have HB1 := hide b1
  clear hV hrow hP hset b1 h
  go_upto_region 4 with fail
  obtain ⟨w2, hw2⟩ : ∃ w2, w2 = w1.alloc (.cells #[.slice va l.length vc, .int .i64 room] 25) := ⟨_, rfl⟩
  rw [← hw2]
  have b2 : Below w1.heap.size w1 w2 := by rw [hw2]; exact (Below.refl _ _).alloc (Nat.le_refl _) _
  have x0 : w2.cell? ⟨w1.heap.size, 0, none⟩ = some (.slice va l.length vc) := by rw [hw2]; simp
  have x1 : w2.cell? ⟨w1.heap.size, 1, none⟩ = some (.int .i64 room) := by rw [hw2]; simp
  have hlt2 : w1.heap.size < w2.heap.size := by rw [hw2]; simp
  have HP2 := hide ((unhide HP1).on b2)
  have HS2 := hide ((unhide HS1).on b2)
  have HB2 := hide ((unhide HB1).trans (b2.mono (unhide HB1).size))
  clear hw2 b2 HP1 HS1 HB1
  obtain ⟨ws, hws⟩ : ∃ ws, ws = whyZ l room set := ⟨_, rfl⟩
  have hwl : ws.length ≤ 400 := by rw [hws]; exact whyZ_len l room set
  have HWS := hide hws
  have HC3 := hide (specWhyNot_any va l vc room sa set sc w2 (unhide HP2) (unhide HS2) hscl)
  rw [← why_same, ← hws] at HC3
  have HC4 := hide (fun x (hx : Below w2.heap.size w2 x) => implWhyNot_any va l vc room sa set sc x ((unhide HP2).on hx) ((unhide HS2).on hx))
  rw [← hws] at HC4
  clear hws
  go_wp2_with fail
  refine (unhide HC3).mono ?_
  rintro e w3 ⟨⟨v3, rfl, hr3⟩, b3⟩
  obtain ⟨pa, pc, hv3, hW3⟩ := hr3.at (by omega)
  subst hv3
  have HW3 := hide hW3
  have HC4b := hide (unhide HC4 w3 b3)
  have HP3 := hide ((unhide HP2).on b3)
  have HS3 := hide ((unhide HS2).on b3)
  have HB3 := hide ((unhide HB2).trans (b3.mono (unhide HB2).size))
  have hlt3 : w1.heap.size < w3.heap.size := Nat.lt_of_lt_of_le hlt2 b3.size
  rw [← b3.cell (p := ⟨w1.heap.size, _, none⟩) hlt2] at x0 x1
  clear HB2 b3 hlt2 HP2 HS2
  clear hr3 hW3 HC3 HC4
  go_wp2_with fail
  refine (unhide HC4b).mono ?_
  rintro e w4 ⟨⟨v4, rfl, hr4⟩, b4⟩
  obtain ⟨ta, tc, hv4, hT4⟩ := hr4.at (by omega)
  subst hv4
  have HT4 := hide hT4
  have HP4 := hide ((unhide HP3).on b4)
  have HS4 := hide ((unhide HS3).on b4)
  have HW4 := hide ((unhide HW3).on b4)
  have HB4 := hide ((unhide HB3).trans (b4.mono (unhide HB3).size))
  have hlt4 : w1.heap.size < w4.heap.size := Nat.lt_of_lt_of_le hlt3 b4.size
  rw [← b4.cell (p := ⟨w1.heap.size, _, none⟩) hlt3] at x0 x1
  clear HB3 b4 hlt3 HP3 HS3 HW3
  clear hr4 hT4 HC4b
  go_wp2_with fail
  refine (ldWhys_same ta ws tc pa pc w4 (unhide HT4) (unhide HW4)).mono ?_
  rintro e w5 ⟨rfl, b5⟩
  have HP5 := hide ((unhide HP4).on b5)
  have HS5 := hide ((unhide HS4).on b5)
  have HW5 := hide ((unhide HW4).on b5)
  have HT5 := hide ((unhide HT4).on b5)
  have HB5 := hide ((unhide HB4).trans (b5.mono (unhide HB4).size))
  have hlt5 : w1.heap.size < w5.heap.size := Nat.lt_of_lt_of_le hlt4 b5.size
  rw [← b5.cell (p := ⟨w1.heap.size, _, none⟩) hlt4] at x0 x1
  clear HB4 b5 hlt4 HP4 HS4 HW4 HT4
  have HSAY : Hid (∀ s ∈ ws, formB l room set = true ∧ FaultB l room set s) := fun s hs => by rw [unhide HWS] at hs; exact why_says hs
  clear HWS
  go_wp2_with fail
  go_loopw [7] (fun ii wr => ∃ i : Nat, i ≤ ws.length ∧ ii = .int .i64 i ∧ Hid (Below w5.heap.size w5 wr)) (fun ii _ => ws.length - (intOf ii).toNat)
  case atStart => exact ⟨0, Nat.zero_le _, rfl, Below.refl _ _⟩
  case round =>
    rename World => wo
    obtain ⟨i, hi, rfl, HB⟩ := hrel
    have hzo := (unhide HB).size
    by_cases hil : i < ws.length
    · have i1 : (i : Int) < (ws.length : Int) := by omega
      have i0 : (0 : Int) ≤ (i : Int) := by omega
      rcases (unhide HT5).2 with hnil | ⟨tb, to_, rfl, htb, hrk⟩
      · rw [hnil] at hil; simp at hil
      obtain ⟨c0, c1, c2⟩ := hrk i hil
      rw [← (unhide HB).cell (p := ⟨tb, _, none⟩) htb] at c0 c1 c2
      obtain ⟨hfm, hfa⟩ := unhide HSAY _ (getD_mem (d := dStep) hil)
      generalize ws.getD i dStep = s at c0 c1 c2 hfa
      obtain ⟨w6, hw6⟩ : ∃ w6, w6 = wo.alloc (.cells #[.int .i64 s.kind, .int .i64 s.inn, .int .i64 s.out] 36) := ⟨_, rfl⟩
      have b6 : Below wo.heap.size wo w6 := by rw [hw6]; exact (Below.refl _ _).alloc (Nat.le_refl _) _
      have e0 : w6.cell? ⟨wo.heap.size, 0, none⟩ = some (.int .i64 s.kind) := by rw [hw6]; simp
      have e1 : w6.cell? ⟨wo.heap.size, 1, none⟩ = some (.int .i64 s.inn) := by rw [hw6]; simp
      have e2 : w6.cell? ⟨wo.heap.size, 2, none⟩ = some (.int .i64 s.out) := by rw [hw6]; simp
      have hz6 : wo.heap.size < w6.heap.size := by rw [hw6]; simp
      have b6w : Below w5.heap.size w5 w6 := (unhide HB).trans (b6.mono (unhide HB).size)
      have HB6 := hide b6w
      have y0 := (b6w.cell (p := ⟨w1.heap.size, 0, none⟩) hlt5).trans x0
      have y1 := (b6w.cell (p := ⟨w1.heap.size, 1, none⟩) hlt5).trans x1
      clear hrk b6 HB
      go_upto_region 12 with fail
      rw [← hw6]
      clear hw6 c0 c1 c2
      rcases hfa with ⟨hk1, hk2, hk3, hk4⟩ | ⟨a, b, ha, hb, rfl, hnm⟩ | ⟨a, jj, ha, hj, rfl, hsm⟩ | ⟨a, b, ha, hb, hab, rfl, hsm⟩
      · have hsz := form_bounds hfm
        rw [hk1] at e0
        rw [hk3] at e2 hk4
        have HSZ := hide (fun x (hx : Below w6.heap.size w6 x) => implStateSize_any va l vc room sa set sc x ((unhide HP5).on (b6w.trans (hx.mono b6w.size))) ((unhide HS5).on (b6w.trans (hx.mono b6w.size))))
        generalize sizeZ l room set = zz at HSZ hsz e2 hk4
        have hws : IntKind.i64.wrap (zz - room) = zz - room := by rw [IntKind.wrap_i64]; omega
        have hlt1 : ¬ (zz - room < 1) := by omega
        generalize hzl : zz - room = zl at hws hlt1 e2
        clear hfm hk1 hk2 hk3 hk4 b6w
        go_upto_region 15 with fail
        refine wp_region_mix (k := 100) 13 [] [.agg #[.slice va l.length vc, .int .i64 room], .slice sa set.length sc, .int .i64 zz, .pointer (some ⟨w1.heap.size, 1, none⟩), .int .i64 room, .int .i64 zl, .pointer (some ⟨wo.heap.size, 2, none⟩), .int .i64 zl, .bool false, .bool false, .pointer (some ⟨wo.heap.size, 2, none⟩), .int .i64 zl, .bool false] (CZ w6) (by kernel_rfl) (by kernel_rfl) (by kernel_rfl) (by kernel_rfl) (by kernel_rfl) (by kernel_rfl) ⟨(Below.refl _ _).drew⟩ ?_ ?_ ?_
        · intro full hfull i oo hi hns ho x fl us hC hb
          simp [putAll, slotOf, Act.put] at hfull
          subst hfull
          have bx := hC.below
          rw [← bx.cell (p := ⟨w1.heap.size, _, none⟩) (by simp; omega)] at y0 y1
          rw [← bx.cell (p := ⟨wo.heap.size, _, none⟩) (by simp; omega)] at e0 e1 e2
          have hC0 := hC.on (b' := fl) (Below.refl _ _)
          match i with
          | 0 => simp at ho; subst ho; simp [gwp, Region.wanted, yielded]; go_simp; first | done | exact hC0 | exact ⟨rfl, hC0⟩ | (simp; exact hC0) | (refine ⟨by simp <;> omega, hC0⟩) | omega
          | 1 => simp at ho; subst ho; simp [gwp, Region.wanted, yielded]; go_simp; first | done | exact hC0 | exact ⟨rfl, hC0⟩ | (simp; exact hC0) | (refine ⟨by simp <;> omega, hC0⟩) | omega
          | 2 =>
            simp at ho; subst ho; simp [gwp, Region.wanted, yielded]; go_simp
            refine (unhide HSZ x bx).mono ?_
            rintro e w' ⟨rfl, hb2⟩
            go_simp
            first | done | exact hC.on hb2 | exact ⟨rfl, hC.on hb2⟩ | (simp; exact hC.on hb2)
          | 3 => simp at ho; subst ho; simp [gwp, Region.wanted, yielded]; go_simp; first | done | exact hC0 | exact ⟨rfl, hC0⟩ | (simp; exact hC0) | (refine ⟨by simp <;> omega, hC0⟩) | omega
          | 4 => simp at ho; subst ho; simp [gwp, Region.wanted, yielded]; go_simp; first | done | exact hC0 | exact ⟨rfl, hC0⟩ | (simp; exact hC0) | (refine ⟨by simp <;> omega, hC0⟩) | omega
          | 5 => simp at ho; subst ho; simp [gwp, Region.wanted, yielded]; go_simp; first | done | exact hC0 | exact ⟨rfl, hC0⟩ | (simp; exact hC0) | (refine ⟨by simp <;> omega, hC0⟩) | omega
          | 6 => simp at ho; subst ho; simp [gwp, Region.wanted, yielded]; go_simp; first | done | exact hC0 | exact ⟨rfl, hC0⟩ | (simp; exact hC0) | (refine ⟨by simp <;> omega, hC0⟩) | omega
          | 7 => simp at ho; subst ho; simp [gwp, Region.wanted, yielded]; go_simp; first | done | exact hC0 | exact ⟨rfl, hC0⟩ | (simp; exact hC0) | (refine ⟨by simp <;> omega, hC0⟩) | omega
          | 8 => simp at ho; subst ho; simp [gwp, Region.wanted, yielded]; go_simp; first | done | exact hC0 | exact ⟨rfl, hC0⟩ | (simp; exact hC0) | (refine ⟨by simp <;> omega, hC0⟩) | omega
          | 9 => simp at ho; subst ho; simp [gwp, Region.wanted, yielded]; go_simp; first | done | exact hC0 | exact ⟨rfl, hC0⟩ | (simp; exact hC0) | (refine ⟨by simp <;> omega, hC0⟩) | omega
          | 10 => simp at ho; subst ho; simp [gwp, Region.wanted, yielded]; go_simp; first | done | exact hC0 | exact ⟨rfl, hC0⟩ | (simp; exact hC0) | (refine ⟨by simp <;> omega, hC0⟩) | omega
          | 11 => simp at ho; subst ho; simp [gwp, Region.wanted, yielded]; go_simp; first | done | exact hC0 | exact ⟨rfl, hC0⟩ | (simp; exact hC0) | (refine ⟨by simp <;> omega, hC0⟩) | omega
          | 12 => simp at ho; subst ho; simp [gwp, Region.wanted, yielded]; go_simp; first | done | exact hC0 | exact ⟨rfl, hC0⟩ | (simp; exact hC0) | (refine ⟨by simp <;> omega, hC0⟩) | omega
          | i + 13 => omega
        · intro full hfull us j hj
          simp at hj
        intro full hfull us w7 hus hC
        simp [putAll, slotOf, Act.put] at hfull
        subst hfull
        match us, hus with
        | [], _ =>
        have HB7 := hide ((unhide HB6).trans (hC.below.mono (unhide HB6).size))
        clear hC
        simp [putP]
        go_wp2_with fail
        go_roundw
        case rel => exact ⟨i + 1, by omega, by go_num, HB7⟩
        case measure => simp [intOf]; omega
      · simp only at e0 e1 e2
        have hpin := form_place hfm ha
        obtain ⟨p, hpz⟩ : ∃ p : Nat, set.getD a 0 = (p : Int) := ⟨(set.getD a 0).toNat, by omega⟩
        rw [hpz] at hpin e1
        have hpl : p < l.length := by omega
        have hpp : packOf l set a = l.getD p dPack := by unfold packOf; rw [hpz]; simp
        have hqin := form_place hfm (show b < set.length by omega)
        obtain ⟨q, hqz⟩ : ∃ q : Nat, set.getD b 0 = (q : Int) := ⟨(set.getD b 0).toNat, by omega⟩
        rw [hqz] at hqin e2
        have hql : q < l.length := by omega
        have hqq : packOf l set b = l.getD q dPack := by unfold packOf; rw [hqz]; simp
        have hqp : q < p := by have := form_asc hfm hb ha; omega
        rcases (unhide HP5).2 with hnil | ⟨pb, po, rfl, hpS, hpk⟩
        · rw [hnil] at hpl; simp at hpl
        have hpb : pb < w5.heap.size := hpS
        obtain ⟨p1, pd1, p2, pd2, p3, pd3, hcp, hvp⟩ := hpk p hpl
        rw [← hpp] at hcp hvp
        have HVP := hide hvp
        obtain ⟨np0, np1, np2, np3, np4, np5⟩ := hcp.stay (b6w.block pb hpb)
        have hpi : (p : Int) < (l.length : Int) := by omega
        have hp0 : (0 : Int) ≤ (p : Int) := by omega
        have hpb6 : pb < w6.heap.size := by omega
        obtain ⟨q1, qd1, q2, qd2, q3, qd3, hcq, hvq⟩ := hpk q hql
        rw [← hqq] at hcq hvq
        obtain ⟨nq0, nq1, nq2, nq3, nq4, nq5⟩ := hcq.stay (b6w.block pb hpb)
        have hqi : (q : Int) < (l.length : Int) := by omega
        have hq0 : (0 : Int) ≤ (q : Int) := by omega
        generalize packOf l set a = P at hnm np0 np1 np2 np3 np4 np5 HVP hpp hcp hvp
        generalize packOf l set b = Q at hnm nq0 nq1 nq2 nq3 nq4 nq5 hqq hcq hvq
        have hnb : (P.name.toList == Q.name.toList) = true := by rw [beq_iff_eq]; exact hnm.symm
        have hnb2 : (P.name.toList != Q.name.toList) = false := by simp [bne, hnb]
        have hge : ¬ ((p : Int) ≤ (q : Int)) := by omega
        clear hpk hcp hvp hcq hvq hpp hqq hnm b6w hpz hqz HVP hfm
        go_upto_region 18 with fail
        refine wp_region_mix (k := 100) 21 [] [.pointer (some ⟨w1.heap.size, 0, none⟩), .slice (some ⟨pb, po, none⟩) l.length vc, .pointer (some ⟨wo.heap.size, 1, none⟩), .int .i64 (p : Int), .pointer (some ⟨pb, po + p * 6, none⟩), .pointer (some ⟨pb, po + p * 6, none⟩), .string P.name, .pointer (some ⟨w1.heap.size, 0, none⟩), .slice (some ⟨pb, po, none⟩) l.length vc, .pointer (some ⟨wo.heap.size, 2, none⟩), .int .i64 (q : Int), .pointer (some ⟨pb, po + q * 6, none⟩), .pointer (some ⟨pb, po + q * 6, none⟩), .string Q.name, .bool false, .bool false, .pointer (some ⟨wo.heap.size, 2, none⟩), .int .i64 (q : Int), .pointer (some ⟨wo.heap.size, 1, none⟩), .int .i64 (p : Int), .bool false] (CZ w6) (by kernel_rfl) (by kernel_rfl) (by kernel_rfl) (by kernel_rfl) (by kernel_rfl) (by kernel_rfl) ⟨(Below.refl _ _).drew⟩ ?_ ?_ ?_
        · intro full hfull i oo hi hns ho x fl us hC hb
          simp [putAll, slotOf, Act.put] at hfull
          subst hfull
          have bx := hC.below
          rw [← bx.cell (p := ⟨w1.heap.size, _, none⟩) (by simp; omega)] at y0 y1
          rw [← bx.cell (p := ⟨wo.heap.size, _, none⟩) (by simp; omega)] at e0 e1 e2
          rw [← bx.cell (p := ⟨pb, _, none⟩) (by simp; omega)] at np0 nq0
          have hC0 := hC.on (b' := fl) (Below.refl _ _)
          match i with
          | 0 => simp at ho; subst ho; simp [gwp, Region.wanted, yielded]; go_simp; first | done | exact hC0 | exact ⟨rfl, hC0⟩ | (simp; exact hC0) | (refine ⟨by simp <;> omega, hC0⟩) | omega
          | 1 => simp at ho; subst ho; simp [gwp, Region.wanted, yielded]; go_simp; first | done | exact hC0 | exact ⟨rfl, hC0⟩ | (simp; exact hC0) | (refine ⟨by simp <;> omega, hC0⟩) | omega
          | 2 => simp at ho; subst ho; simp [gwp, Region.wanted, yielded]; go_simp; first | done | exact hC0 | exact ⟨rfl, hC0⟩ | (simp; exact hC0) | (refine ⟨by simp <;> omega, hC0⟩) | omega
          | 3 => simp at ho; subst ho; simp [gwp, Region.wanted, yielded]; go_simp; first | done | exact hC0 | exact ⟨rfl, hC0⟩ | (simp; exact hC0) | (refine ⟨by simp <;> omega, hC0⟩) | omega
          | 4 => simp at ho; subst ho; simp [gwp, Region.wanted, yielded]; go_simp; first | done | exact hC0 | exact ⟨rfl, hC0⟩ | (simp; exact hC0) | (refine ⟨by simp <;> omega, hC0⟩) | omega
          | 5 => simp at ho; subst ho; simp [gwp, Region.wanted, yielded]; go_simp; first | done | exact hC0 | exact ⟨rfl, hC0⟩ | (simp; exact hC0) | (refine ⟨by simp <;> omega, hC0⟩) | omega
          | 6 => simp at ho; subst ho; simp [gwp, Region.wanted, yielded]; go_simp; first | done | exact hC0 | exact ⟨rfl, hC0⟩ | (simp; exact hC0) | (refine ⟨by simp <;> omega, hC0⟩) | omega
          | 7 => simp at ho; subst ho; simp [gwp, Region.wanted, yielded]; go_simp; first | done | exact hC0 | exact ⟨rfl, hC0⟩ | (simp; exact hC0) | (refine ⟨by simp <;> omega, hC0⟩) | omega
          | 8 => simp at ho; subst ho; simp [gwp, Region.wanted, yielded]; go_simp; first | done | exact hC0 | exact ⟨rfl, hC0⟩ | (simp; exact hC0) | (refine ⟨by simp <;> omega, hC0⟩) | omega
          | 9 => simp at ho; subst ho; simp [gwp, Region.wanted, yielded]; go_simp; first | done | exact hC0 | exact ⟨rfl, hC0⟩ | (simp; exact hC0) | (refine ⟨by simp <;> omega, hC0⟩) | omega
          | 10 => simp at ho; subst ho; simp [gwp, Region.wanted, yielded]; go_simp; first | done | exact hC0 | exact ⟨rfl, hC0⟩ | (simp; exact hC0) | (refine ⟨by simp <;> omega, hC0⟩) | omega
          | 11 => simp at ho; subst ho; simp [gwp, Region.wanted, yielded]; go_simp; first | done | exact hC0 | exact ⟨rfl, hC0⟩ | (simp; exact hC0) | (refine ⟨by simp <;> omega, hC0⟩) | omega
          | 12 => simp at ho; subst ho; simp [gwp, Region.wanted, yielded]; go_simp; first | done | exact hC0 | exact ⟨rfl, hC0⟩ | (simp; exact hC0) | (refine ⟨by simp <;> omega, hC0⟩) | omega
          | 13 => simp at ho; subst ho; simp [gwp, Region.wanted, yielded]; go_simp; first | done | exact hC0 | exact ⟨rfl, hC0⟩ | (simp; exact hC0) | (refine ⟨by simp <;> omega, hC0⟩) | omega
          | 14 => simp at ho; subst ho; simp [gwp, Region.wanted, yielded]; go_simp; first | done | exact hC0 | exact ⟨rfl, hC0⟩ | (simp; exact hC0) | (refine ⟨by simp <;> omega, hC0⟩) | omega
          | 15 => simp at ho; subst ho; simp [gwp, Region.wanted, yielded]; go_simp; first | done | exact hC0 | exact ⟨rfl, hC0⟩ | (simp; exact hC0) | (refine ⟨by simp <;> omega, hC0⟩) | omega
          | 16 => simp at ho; subst ho; simp [gwp, Region.wanted, yielded]; go_simp; first | done | exact hC0 | exact ⟨rfl, hC0⟩ | (simp; exact hC0) | (refine ⟨by simp <;> omega, hC0⟩) | omega
          | 17 => simp at ho; subst ho; simp [gwp, Region.wanted, yielded]; go_simp; first | done | exact hC0 | exact ⟨rfl, hC0⟩ | (simp; exact hC0) | (refine ⟨by simp <;> omega, hC0⟩) | omega
          | 18 => simp at ho; subst ho; simp [gwp, Region.wanted, yielded]; go_simp; first | done | exact hC0 | exact ⟨rfl, hC0⟩ | (simp; exact hC0) | (refine ⟨by simp <;> omega, hC0⟩) | omega
          | 19 => simp at ho; subst ho; simp [gwp, Region.wanted, yielded]; go_simp; first | done | exact hC0 | exact ⟨rfl, hC0⟩ | (simp; exact hC0) | (refine ⟨by simp <;> omega, hC0⟩) | omega
          | 20 => simp at ho; subst ho; simp [gwp, Region.wanted, yielded]; go_simp; first | done | exact hC0 | exact ⟨rfl, hC0⟩ | (simp; exact hC0) | (refine ⟨by simp <;> omega, hC0⟩) | omega
          | i + 21 => omega
        · intro full hfull us j hj
          simp at hj
        intro full hfull us w7 hus hC
        simp [putAll, slotOf, Act.put] at hfull
        subst hfull
        match us, hus with
        | [], _ =>
        have HB7 := hide ((unhide HB6).trans (hC.below.mono (unhide HB6).size))
        clear hC
        simp [putP]
        go_wp2_with fail
        go_roundw
        case rel => exact ⟨i + 1, by omega, by go_num, HB7⟩
        case measure => simp [intOf]; omega
      · simp only at e0 e1 e2
        have hpin := form_place hfm ha
        obtain ⟨p, hpz⟩ : ∃ p : Nat, set.getD a 0 = (p : Int) := ⟨(set.getD a 0).toNat, by omega⟩
        rw [hpz] at hpin e1
        have hpl : p < l.length := by omega
        have hpp : packOf l set a = l.getD p dPack := by unfold packOf; rw [hpz]; simp
        rcases (unhide HP5).2 with hnil | ⟨pb, po, rfl, hpS, hpk⟩
        · rw [hnil] at hpl; simp at hpl
        have hpb : pb < w5.heap.size := hpS
        obtain ⟨p1, pd1, p2, pd2, p3, pd3, hcp, hvp⟩ := hpk p hpl
        rw [← hpp] at hcp hvp
        have HVP := hide hvp
        obtain ⟨np0, np1, np2, np3, np4, np5⟩ := hcp.stay (b6w.block pb hpb)
        have hpi : (p : Int) < (l.length : Int) := by omega
        have hp0 : (0 : Int) ≤ (p : Int) := by omega
        have hpb6 : pb < w6.heap.size := by omega
        have HNO := hide (fun k (hk : k < set.length) => some_none hsm hk (form_place hfm hk).1)
        have HIN := hide (fun i (hi : i < set.length) => form_place hfm hi)
        generalize packOf l set a = P at hj np0 np1 np2 np3 np4 np5 HVP HNO hpp hcp hvp hsm
        rcases (unhide HVP).deps.2 with hnil | ⟨db, dof, rfl, hdS, hdk⟩
        · rw [hnil] at hj; simp at hj
        obtain ⟨ra, rc, d0, hrq⟩ := hdk jj hj
        have hdb : db < w5.heap.size := hdS
        have hji : (jj : Int) < (P.deps.length : Int) := by omega
        have hj0 : (0 : Int) ≤ (jj : Int) := by omega
        generalize P.deps.getD jj [] = ROW at d0 hrq HNO hsm
        have HRQ := hide hrq
        have HPK := hide hpk
        have HD0 := hide d0
        have HE := hide (And.intro e1 e2)
        have HNP := hide (And.intro np3 hdb)
        have HB6' := HB6
        have b6h := hide b6w
        clear hpk hcp hvp hpp hsm hpz hfm hdk hrq d0 np0 np1 np2 np4 np5 b6w
        go_wp2_with fail
        generalize set.getD a 0 = za
        go_loopw [9] (fun kk wr => ∃ k : Nat, k ≤ set.length ∧ kk = .int .i64 k ∧ Hid (Below w6.heap.size w6 wr)) (fun kk _ => set.length - (intOf kk).toNat)
        case atStart => exact ⟨0, Nat.zero_le _, rfl, Below.refl _ _⟩
        case round =>
          rename World => wk
          obtain ⟨k, hk, rfl, HBk⟩ := hrel
          have hzk := (unhide HBk).size
          by_cases hkl : k < set.length
          · have k1 : (k : Int) < (set.length : Int) := by omega
            have k0 : (0 : Int) ≤ (k : Int) := by omega
            have hqin := unhide HIN k hkl
            have hno := unhide HNO k hkl
            have bwk : Below w5.heap.size w5 wk := (unhide b6h).trans ((unhide HBk).mono (unhide b6h).size)
            rcases (unhide HS5).2 with hnil | ⟨sb, so, rfl, hsbl, hsc'⟩
            · rw [hnil] at hkl; simp at hkl
            have t0 := (bwk.cell (p := ⟨sb, so + k, none⟩) hsbl).trans (hsc' k hkl)
            have hqq : packOf l set k = l.getD (set.getD k 0).toNat dPack := rfl
            generalize set.getD k 0 = z at t0 hqin hqq
            obtain ⟨q, rfl⟩ : ∃ q : Nat, z = (q : Int) := ⟨z.toNat, by omega⟩
            rw [show ((q : Int)).toNat = q by simp] at hqq
            have hql : q < l.length := by omega
            obtain ⟨q1, qd1, q2, qd2, q3, qd3, hcq, hvq⟩ := unhide HPK q hql
            rw [← hqq] at hcq
            obtain ⟨nq0, nq1, nq2, nq3, nq4, nq5⟩ := hcq.stay (bwk.block pb hpb)
            have hqi : (q : Int) < (l.length : Int) := by omega
            have hq0 : (0 : Int) ≤ (q : Int) := by omega
            generalize packOf l set k = Q at hno nq0 nq1 nq2 nq3 nq4 nq5 hqq hcq
            obtain ⟨e1, e2⟩ := unhide HE
            rw [← (unhide HBk).cell (p := ⟨wo.heap.size, _, none⟩) (by show wo.heap.size < _; omega)] at e1 e2
            have z0 := y0
            have z1 := y1
            rw [← (unhide HBk).cell (p := ⟨w1.heap.size, _, none⟩) (by show w1.heap.size < _; omega)] at z0 z1
            have np3' := (unhide HNP).1
            rw [← (unhide HBk).cell (p := ⟨pb, _, none⟩) hpb6] at np3'
            have d0' := (bwk.cell (p := ⟨db, dof + jj, none⟩) hdb).trans (unhide HD0)
            have HFT := hide (fun x (hx : Below wk.heap.size wk x) => ldFits_any Q q1 qd1 q2 qd2 q3 qd3 ra ROW rc x ((unhide HRQ).on (bwk.trans (hx.mono bwk.size))))
            rw [hno] at HFT
            have hsbk : sb < wk.heap.size := by omega
            have hdbk : db < wk.heap.size := by omega
            clear hsc' hcq hvq hqq hno bwk
            go_upto_region 24 with fail
            refine wp_region_mix (k := 100) 19 [] [.pointer (some ⟨w1.heap.size, 0, none⟩), .slice (some ⟨pb, po, none⟩) l.length vc, .slice (some ⟨sb, so, none⟩) set.length sc, .int .i64 (k : Int), .pointer (some ⟨sb, so + k, none⟩), .int .i64 (q : Int), .pointer (some ⟨pb, po + q * 6, none⟩), .agg #[.string Q.name, .int .i64 Q.ver, .int .i64 Q.size, .slice q1 Q.deps.length qd1, .slice q2 Q.pres.length qd2, .slice q3 Q.bans.length qd3], .pointer (some ⟨w1.heap.size, 0, none⟩), .slice (some ⟨pb, po, none⟩) l.length vc, .pointer (some ⟨wo.heap.size, 1, none⟩), .int .i64 (p : Int), .pointer (some ⟨pb, po + p * 6, none⟩), .pointer (some ⟨pb, po + p * 6 + 3, none⟩), .slice (some ⟨db, dof, none⟩) P.deps.length pd1, .pointer (some ⟨wo.heap.size, 2, none⟩), .int .i64 (jj : Int), .pointer (some ⟨db, dof + jj, none⟩), .slice ra ROW.length rc] (CZ wk) (by kernel_rfl) (by kernel_rfl) (by kernel_rfl) (by kernel_rfl) (by kernel_rfl) (by kernel_rfl) ⟨(Below.refl _ _).drew⟩ ?_ ?_ ?_
            · intro full hfull i oo hi hns ho x fl us hC hb
              simp [putAll, slotOf, Act.put] at hfull
              subst hfull
              have bx := hC.below
              rw [← bx.cell (p := ⟨w1.heap.size, _, none⟩) (by simp; omega)] at z0 z1
              rw [← bx.cell (p := ⟨sb, _, none⟩) (by simp; omega)] at t0
              rw [← bx.cell (p := ⟨pb, _, none⟩) (by simp; omega)] at nq0 nq1 nq2 nq3 nq4 nq5 np3'
              rw [← bx.cell (p := ⟨wo.heap.size, _, none⟩) (by simp; omega)] at e1 e2
              rw [← bx.cell (p := ⟨db, _, none⟩) (by simp; omega)] at d0'
              have hC0 := hC.on (b' := fl) (Below.refl _ _)
              match i with
              | 0 => simp at ho; subst ho; simp [gwp, Region.wanted, yielded]; go_simp; first | done | exact hC0 | exact ⟨rfl, hC0⟩ | (simp; exact hC0) | (refine ⟨by simp <;> omega, hC0⟩) | omega
              | 1 => simp at ho; subst ho; simp [gwp, Region.wanted, yielded]; go_simp; first | done | exact hC0 | exact ⟨rfl, hC0⟩ | (simp; exact hC0) | (refine ⟨by simp <;> omega, hC0⟩) | omega
              | 2 => simp at ho; subst ho; simp [gwp, Region.wanted, yielded]; go_simp; first | done | exact hC0 | exact ⟨rfl, hC0⟩ | (simp; exact hC0) | (refine ⟨by simp <;> omega, hC0⟩) | omega
              | 3 => simp at ho; subst ho; simp [gwp, Region.wanted, yielded]; go_simp; first | done | exact hC0 | exact ⟨rfl, hC0⟩ | (simp; exact hC0) | (refine ⟨by simp <;> omega, hC0⟩) | omega
              | 4 => simp at ho; subst ho; simp [gwp, Region.wanted, yielded]; go_simp; first | done | exact hC0 | exact ⟨rfl, hC0⟩ | (simp; exact hC0) | (refine ⟨by simp <;> omega, hC0⟩) | omega
              | 5 => simp at ho; subst ho; simp [gwp, Region.wanted, yielded]; go_simp; first | done | exact hC0 | exact ⟨rfl, hC0⟩ | (simp; exact hC0) | (refine ⟨by simp <;> omega, hC0⟩) | omega
              | 6 => simp at ho; subst ho; simp [gwp, Region.wanted, yielded]; go_simp; first | done | exact hC0 | exact ⟨rfl, hC0⟩ | (simp; exact hC0) | (refine ⟨by simp <;> omega, hC0⟩) | omega
              | 7 => simp at ho; subst ho; simp [gwp, Region.wanted, yielded]; go_simp; first | done | exact hC0 | exact ⟨rfl, hC0⟩ | (simp; exact hC0) | (refine ⟨by simp <;> omega, hC0⟩) | omega
              | 8 => simp at ho; subst ho; simp [gwp, Region.wanted, yielded]; go_simp; first | done | exact hC0 | exact ⟨rfl, hC0⟩ | (simp; exact hC0) | (refine ⟨by simp <;> omega, hC0⟩) | omega
              | 9 => simp at ho; subst ho; simp [gwp, Region.wanted, yielded]; go_simp; first | done | exact hC0 | exact ⟨rfl, hC0⟩ | (simp; exact hC0) | (refine ⟨by simp <;> omega, hC0⟩) | omega
              | 10 => simp at ho; subst ho; simp [gwp, Region.wanted, yielded]; go_simp; first | done | exact hC0 | exact ⟨rfl, hC0⟩ | (simp; exact hC0) | (refine ⟨by simp <;> omega, hC0⟩) | omega
              | 11 => simp at ho; subst ho; simp [gwp, Region.wanted, yielded]; go_simp; first | done | exact hC0 | exact ⟨rfl, hC0⟩ | (simp; exact hC0) | (refine ⟨by simp <;> omega, hC0⟩) | omega
              | 12 => simp at ho; subst ho; simp [gwp, Region.wanted, yielded]; go_simp; first | done | exact hC0 | exact ⟨rfl, hC0⟩ | (simp; exact hC0) | (refine ⟨by simp <;> omega, hC0⟩) | omega
              | 13 => simp at ho; subst ho; simp [gwp, Region.wanted, yielded]; go_simp; first | done | exact hC0 | exact ⟨rfl, hC0⟩ | (simp; exact hC0) | (refine ⟨by simp <;> omega, hC0⟩) | omega
              | 14 => simp at ho; subst ho; simp [gwp, Region.wanted, yielded]; go_simp; first | done | exact hC0 | exact ⟨rfl, hC0⟩ | (simp; exact hC0) | (refine ⟨by simp <;> omega, hC0⟩) | omega
              | 15 => simp at ho; subst ho; simp [gwp, Region.wanted, yielded]; go_simp; first | done | exact hC0 | exact ⟨rfl, hC0⟩ | (simp; exact hC0) | (refine ⟨by simp <;> omega, hC0⟩) | omega
              | 16 => simp at ho; subst ho; simp [gwp, Region.wanted, yielded]; go_simp; first | done | exact hC0 | exact ⟨rfl, hC0⟩ | (simp; exact hC0) | (refine ⟨by simp <;> omega, hC0⟩) | omega
              | 17 => simp at ho; subst ho; simp [gwp, Region.wanted, yielded]; go_simp; first | done | exact hC0 | exact ⟨rfl, hC0⟩ | (simp; exact hC0) | (refine ⟨by simp <;> omega, hC0⟩) | omega
              | 18 => simp at ho; subst ho; simp [gwp, Region.wanted, yielded]; go_simp; first | done | exact hC0 | exact ⟨rfl, hC0⟩ | (simp; exact hC0) | (refine ⟨by simp <;> omega, hC0⟩) | omega
              | i + 19 => omega
            · intro full hfull us j hj
              simp at hj
            intro full hfull us w7 hus hC
            simp [putAll, slotOf, Act.put] at hfull
            subst hfull
            match us, hus with
            | [], _ =>
            have b7 := hC.below
            have HFT7 := hide (unhide HFT w7 b7)
            have HBk7 := hide ((unhide HBk).trans (b7.mono (unhide HBk).size))
            clear hC b7 HFT HBk z0 z1 t0 nq0 nq1 nq2 nq3 nq4 nq5 np3' e1 e2 d0'
            simp [putP]
            go_wp2_with fail
            refine (unhide HFT7).mono ?_
            rintro e w8 ⟨rfl, b8⟩
            have HB8 := hide ((unhide HBk7).trans (b8.mono (unhide HBk7).size))
            clear b8 HFT7 HBk7
            go_wp2_with fail
            go_roundw
            case rel => exact ⟨k + 1, by omega, by go_num, HB8⟩
            case measure => simp [intOf]; omega
          · have k1 : ¬ (k : Int) < (set.length : Int) := by omega
            have HB7 := hide ((unhide HB6).trans ((unhide HBk).mono (unhide HB6).size))
            clear HBk
            go_wp2_with fail
            go_roundw
            case rel => exact ⟨i + 1, by omega, by go_num, HB7⟩
            case measure => simp [intOf]; omega
      · simp only at e0 e1 e2
        have hpin := form_place hfm ha
        obtain ⟨p, hpz⟩ : ∃ p : Nat, set.getD a 0 = (p : Int) := ⟨(set.getD a 0).toNat, by omega⟩
        rw [hpz] at hpin e1
        have hpl : p < l.length := by omega
        have hpp : packOf l set a = l.getD p dPack := by unfold packOf; rw [hpz]; simp
        have hqin := form_place hfm hb
        obtain ⟨q, hqz⟩ : ∃ q : Nat, set.getD b 0 = (q : Int) := ⟨(set.getD b 0).toNat, by omega⟩
        rw [hqz] at hqin e2 hsm
        have hql : q < l.length := by omega
        have hqq : packOf l set b = l.getD q dPack := by unfold packOf; rw [hqz]; simp
        have hne : p ≠ q := by
          intro e
          subst e
          rcases Nat.lt_or_ge a b with h1 | h1
          · have := form_asc hfm h1 hb; omega
          · have := form_asc hfm (show b < a by omega) ha; omega
        rw [some_one] at hsm
        rw [← hqq] at hsm
        rcases (unhide HP5).2 with hnil | ⟨pb, po, rfl, hpS, hpk⟩
        · rw [hnil] at hpl; simp at hpl
        have hpb : pb < w5.heap.size := hpS
        obtain ⟨p1, pd1, p2, pd2, p3, pd3, hcp, hvp⟩ := hpk p hpl
        rw [← hpp] at hcp hvp
        have HVP := hide hvp
        obtain ⟨np0, np1, np2, np3, np4, np5⟩ := hcp.stay (b6w.block pb hpb)
        have hpi : (p : Int) < (l.length : Int) := by omega
        have hp0 : (0 : Int) ≤ (p : Int) := by omega
        have hpb6 : pb < w6.heap.size := by omega
        obtain ⟨q1, qd1, q2, qd2, q3, qd3, hcq, hvq⟩ := hpk q hql
        rw [← hqq] at hcq hvq
        obtain ⟨nq0, nq1, nq2, nq3, nq4, nq5⟩ := hcq.stay (b6w.block pb hpb)
        have hqi : (q : Int) < (l.length : Int) := by omega
        have hq0 : (0 : Int) ≤ (q : Int) := by omega
        generalize packOf l set a = P at hsm np0 np1 np2 np3 np4 np5 HVP hpp hcp hvp
        generalize packOf l set b = Q at hsm nq0 nq1 nq2 nq3 nq4 nq5 hqq hcq hvq
        have HFT := hide (fun x (hx : Below w6.heap.size w6 x) => ldFits_any Q q1 qd1 q2 qd2 q3 qd3 p3 P.bans pd3 x ((unhide HVP).bans.on (b6w.trans (hx.mono b6w.size))))
        rw [hsm] at HFT
        have hpq : ((p : Int) == (q : Int)) = false := by rw [beq_eq_false_iff_ne]; omega
        clear hpk hcp hvp hcq hvq hpp hqq hsm b6w hpz hqz HVP hfm hab
        go_upto_region 27 with fail
        refine wp_region_mix (k := 100) 21 [] [.pointer (some ⟨wo.heap.size, 1, none⟩), .int .i64 (p : Int), .pointer (some ⟨wo.heap.size, 2, none⟩), .int .i64 (q : Int), .bool false, .bool false, .pointer (some ⟨w1.heap.size, 0, none⟩), .slice (some ⟨pb, po, none⟩) l.length vc, .pointer (some ⟨wo.heap.size, 2, none⟩), .int .i64 (q : Int), .pointer (some ⟨pb, po + q * 6, none⟩), .agg #[.string Q.name, .int .i64 Q.ver, .int .i64 Q.size, .slice q1 Q.deps.length qd1, .slice q2 Q.pres.length qd2, .slice q3 Q.bans.length qd3], .pointer (some ⟨w1.heap.size, 0, none⟩), .slice (some ⟨pb, po, none⟩) l.length vc, .pointer (some ⟨wo.heap.size, 1, none⟩), .int .i64 (p : Int), .pointer (some ⟨pb, po + p * 6, none⟩), .pointer (some ⟨pb, po + p * 6 + 5, none⟩), .slice p3 P.bans.length pd3, .bool true, .bool false] (CZ w6) (by kernel_rfl) (by kernel_rfl) (by kernel_rfl) (by kernel_rfl) (by kernel_rfl) (by kernel_rfl) ⟨(Below.refl _ _).drew⟩ ?_ ?_ ?_
        · intro full hfull i oo hi hns ho x fl us hC hb
          simp [putAll, slotOf, Act.put] at hfull
          subst hfull
          have bx := hC.below
          rw [← bx.cell (p := ⟨w1.heap.size, _, none⟩) (by simp; omega)] at y0 y1
          rw [← bx.cell (p := ⟨wo.heap.size, _, none⟩) (by simp; omega)] at e0 e1 e2
          rw [← bx.cell (p := ⟨pb, _, none⟩) (by simp; omega)] at np5 nq0 nq1 nq2 nq3 nq4 nq5
          have hC0 := hC.on (b' := fl) (Below.refl _ _)
          match i with
          | 0 => simp at ho; subst ho; simp [gwp, Region.wanted, yielded]; go_simp; first | done | exact hC0 | exact ⟨rfl, hC0⟩ | (simp; exact hC0) | (refine ⟨by simp <;> omega, hC0⟩) | omega
          | 1 => simp at ho; subst ho; simp [gwp, Region.wanted, yielded]; go_simp; first | done | exact hC0 | exact ⟨rfl, hC0⟩ | (simp; exact hC0) | (refine ⟨by simp <;> omega, hC0⟩) | omega
          | 2 => simp at ho; subst ho; simp [gwp, Region.wanted, yielded]; go_simp; first | done | exact hC0 | exact ⟨rfl, hC0⟩ | (simp; exact hC0) | (refine ⟨by simp <;> omega, hC0⟩) | omega
          | 3 => simp at ho; subst ho; simp [gwp, Region.wanted, yielded]; go_simp; first | done | exact hC0 | exact ⟨rfl, hC0⟩ | (simp; exact hC0) | (refine ⟨by simp <;> omega, hC0⟩) | omega
          | 4 => simp at ho; subst ho; simp [gwp, Region.wanted, yielded]; go_simp; first | done | exact hC0 | exact ⟨rfl, hC0⟩ | (simp; exact hC0) | (refine ⟨by simp <;> omega, hC0⟩) | omega
          | 5 => simp at ho; subst ho; simp [gwp, Region.wanted, yielded]; go_simp; first | done | exact hC0 | exact ⟨rfl, hC0⟩ | (simp; exact hC0) | (refine ⟨by simp <;> omega, hC0⟩) | omega
          | 6 => simp at ho; subst ho; simp [gwp, Region.wanted, yielded]; go_simp; first | done | exact hC0 | exact ⟨rfl, hC0⟩ | (simp; exact hC0) | (refine ⟨by simp <;> omega, hC0⟩) | omega
          | 7 => simp at ho; subst ho; simp [gwp, Region.wanted, yielded]; go_simp; first | done | exact hC0 | exact ⟨rfl, hC0⟩ | (simp; exact hC0) | (refine ⟨by simp <;> omega, hC0⟩) | omega
          | 8 => simp at ho; subst ho; simp [gwp, Region.wanted, yielded]; go_simp; first | done | exact hC0 | exact ⟨rfl, hC0⟩ | (simp; exact hC0) | (refine ⟨by simp <;> omega, hC0⟩) | omega
          | 9 => simp at ho; subst ho; simp [gwp, Region.wanted, yielded]; go_simp; first | done | exact hC0 | exact ⟨rfl, hC0⟩ | (simp; exact hC0) | (refine ⟨by simp <;> omega, hC0⟩) | omega
          | 10 => simp at ho; subst ho; simp [gwp, Region.wanted, yielded]; go_simp; first | done | exact hC0 | exact ⟨rfl, hC0⟩ | (simp; exact hC0) | (refine ⟨by simp <;> omega, hC0⟩) | omega
          | 11 => simp at ho; subst ho; simp [gwp, Region.wanted, yielded]; go_simp; first | done | exact hC0 | exact ⟨rfl, hC0⟩ | (simp; exact hC0) | (refine ⟨by simp <;> omega, hC0⟩) | omega
          | 12 => simp at ho; subst ho; simp [gwp, Region.wanted, yielded]; go_simp; first | done | exact hC0 | exact ⟨rfl, hC0⟩ | (simp; exact hC0) | (refine ⟨by simp <;> omega, hC0⟩) | omega
          | 13 => simp at ho; subst ho; simp [gwp, Region.wanted, yielded]; go_simp; first | done | exact hC0 | exact ⟨rfl, hC0⟩ | (simp; exact hC0) | (refine ⟨by simp <;> omega, hC0⟩) | omega
          | 14 => simp at ho; subst ho; simp [gwp, Region.wanted, yielded]; go_simp; first | done | exact hC0 | exact ⟨rfl, hC0⟩ | (simp; exact hC0) | (refine ⟨by simp <;> omega, hC0⟩) | omega
          | 15 => simp at ho; subst ho; simp [gwp, Region.wanted, yielded]; go_simp; first | done | exact hC0 | exact ⟨rfl, hC0⟩ | (simp; exact hC0) | (refine ⟨by simp <;> omega, hC0⟩) | omega
          | 16 => simp at ho; subst ho; simp [gwp, Region.wanted, yielded]; go_simp; first | done | exact hC0 | exact ⟨rfl, hC0⟩ | (simp; exact hC0) | (refine ⟨by simp <;> omega, hC0⟩) | omega
          | 17 => simp at ho; subst ho; simp [gwp, Region.wanted, yielded]; go_simp; first | done | exact hC0 | exact ⟨rfl, hC0⟩ | (simp; exact hC0) | (refine ⟨by simp <;> omega, hC0⟩) | omega
          | 18 => simp at ho; subst ho; simp [gwp, Region.wanted, yielded]; go_simp; first | done | exact hC0 | exact ⟨rfl, hC0⟩ | (simp; exact hC0) | (refine ⟨by simp <;> omega, hC0⟩) | omega
          | 19 =>
            simp at ho; subst ho; simp [gwp, Region.wanted, yielded]; go_simp
            refine (unhide HFT x bx).mono ?_
            rintro e w' ⟨rfl, hb2⟩
            go_simp
            first | done | exact hC.on hb2 | exact ⟨rfl, hC.on hb2⟩ | (simp; exact hC.on hb2)
          | 20 => simp at ho; subst ho; simp [gwp, Region.wanted, yielded]; go_simp; first | done | exact hC0 | exact ⟨rfl, hC0⟩ | (simp; exact hC0) | (refine ⟨by simp <;> omega, hC0⟩) | omega
          | i + 21 => omega
        · intro full hfull us j hj
          simp at hj
        intro full hfull us w7 hus hC
        simp [putAll, slotOf, Act.put] at hfull
        subst hfull
        match us, hus with
        | [], _ =>
        have HB7 := hide ((unhide HB6).trans (hC.below.mono (unhide HB6).size))
        clear hC
        simp [putP]
        go_wp2_with fail
        go_roundw
        case rel => exact ⟨i + 1, by omega, by go_num, HB7⟩
        case measure => simp [intOf]; omega
    · have i1 : ¬ (i : Int) < (ws.length : Int) := by omega
      have HB6 := hide ((unhide HB5).trans ((unhide HB).mono (unhide HB5).size))
      clear HB
      go_wp2_with fail
      go_ret
      exact ⟨rfl, unhide HB6⟩
end Go.Proofs.Ytmjmcbmfleeolan
