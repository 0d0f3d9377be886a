/- The walk of the law FnStepPre: of every code it answers true, and writes nothing that was there. -/
import Derived.Test.YthkhaemlcmkkjadGCv
import Derived.Test.YthkhaemlcmkkjadGPd
import Derived.Test.YthkhaemlcmkkjadGIm
import Derived.Test.YthkhaemlcmkkjadLdInts
import Derived.Test.YthkhaemlcmkkjadDoS
import Derived.Test.YthkhaemlcmkkjadLdFits
import Derived.Test.YthkhaemlcmkkjadRegL
namespace Go.Proofs.Ythkhaemlcmkkjad
set_option linter.unusedVariables false
set_option linter.unusedSimpArgs false
open Go.RowKit Go.Deep

set_option maxRecDepth 100000 in
set_option maxHeartbeats 8000000 in
theorem pre_any (a : Option Addr) (n c : Nat) (w : World) (h : CodeAt w.heap.size w a n) (hc : n ≤ c) (hc2 : c ≤ maxLen) :
    Calls Try.prog 3 #[.slice a n c] w fun e w' => e = .returned (.bool true) ∧ Below w.heap.size w w' := by
  have hmx := hc2
  unfold maxLen at hmx
  by_cases hbig : 1048576 < n
  · have hb' : (1048576 : Int) < (n : Int) := by omega
    go_enter Try.func3, Try.ntmps3
    go_wp2_with fail
    go_ret
    exact ⟨rfl, Below.refl _ _⟩
  have hb' : ¬ (1048576 : Int) < (n : Int) := by omega
  go_enter Try.func3, Try.ntmps3
  go_wp2_with fail
  refine (DrawStepDo_V a n c w h (by omega) hc hc2).mono ?_
  rintro e w1 ⟨⟨v, room, u, s, rfl, hV, set, hrow, hsl⟩, b1⟩
  obtain ⟨va, vn, vc, rfl, _⟩ := SlBy.slice hV
  obtain ⟨l, rfl, hP⟩ := V2.packs hV
  obtain ⟨sa, sc, hu, hset⟩ := RowI.set hrow (by omega)
  subst hu
  have HSC : Hid (sa = none → sc = 0) := row_cap0 hrow
  have HC1 := hide (V2.caps hV hP)
  have HP1 := hide hP
  have HS1 := hide hset
  have HB1 := hide b1
  clear hV hrow hP hset b1 h
  go_upto_region 4 with fail
  obtain ⟨w2, hw2⟩ : ∃ w2, w2 = (w1.alloc (.cells #[.slice va l.length vc, .int .i64 room] 25)).alloc (.cells #[.int .i64 s.kind, .int .i64 s.inn, .int .i64 s.out] 28) := ⟨_, rfl⟩
  rw [← hw2]
  have b2 : Below w1.heap.size w1 w2 := by rw [hw2]; exact ((Below.refl _ _).alloc (Nat.le_refl _) _).alloc (by simp) _
  have x0 : w2.cell? ⟨w1.heap.size, 0, none⟩ = some (.slice va l.length vc) := by rw [hw2]; simp
  have x1 : w2.cell? ⟨w1.heap.size, 1, none⟩ = some (.int .i64 room) := by rw [hw2]; simp
  have y0 : w2.cell? ⟨w1.heap.size + 1, 0, none⟩ = some (.int .i64 s.kind) := by rw [hw2]; simp
  have y1 : w2.cell? ⟨w1.heap.size + 1, 1, none⟩ = some (.int .i64 s.inn) := by rw [hw2]; simp
  have y2 : w2.cell? ⟨w1.heap.size + 1, 2, none⟩ = some (.int .i64 s.out) := by rw [hw2]; simp
  have hlt2 : w1.heap.size + 1 < w2.heap.size := by rw [hw2]; simp
  have HP2 := hide ((unhide HP1).on b2)
  have HC2 := hide ((unhide HC1).on b2)
  have HS2 := hide ((unhide HS1).on b2)
  have HB2 := hide ((unhide HB1).trans (b2.mono (unhide HB1).size))
  clear hw2 b2 HP1 HS1 HB1 HC1
  have hdl := do_len (l := l) (room := room) (set := set) (s := s)
  go_wp2_with fail
  refine (specStepDo_any va l vc room sa set sc s w2 (unhide HP2) (unhide HC2) (unhide HS2) (unhide HSC) (by omega)).mono ?_
  rintro e w3 ⟨⟨v3, rfl, hr3⟩, b3⟩
  rw [do_same] at hr3 ⊢
  obtain ⟨pa, pc, rfl, hS3⟩ := RowI.set hr3 (by omega)
  have HW3 := hide hS3
  have HP3 := hide ((unhide HP2).on b3)
  have HS3 := hide ((unhide HS2).on b3)
  have HC3 := hide ((unhide HC2).on b3)
  have HB3 := hide ((unhide HB2).trans (b3.mono (unhide HB2).size))
  have hlt3 : w1.heap.size + 1 < w3.heap.size := Nat.lt_of_lt_of_le hlt2 b3.size
  rw [← b3.cell (p := ⟨w1.heap.size, _, none⟩) (show w1.heap.size < w2.heap.size by omega)] at x0 x1
  rw [← b3.cell (p := ⟨w1.heap.size + 1, _, none⟩) hlt2] at y0 y1 y2
  clear HB2 b3 hlt2 HP2 HS2 HC2
  clear hr3 hS3
  have HOD : Hid (implDo l room set s = implDo l room set s) := rfl
  go_wp2_with fail
  refine (implStepDo_any va l vc room sa set sc s w3 (unhide HP3) (unhide HS3)).mono ?_
  rintro e w4 ⟨⟨v4, rfl, hr4⟩, b4⟩
  obtain ⟨ta, tc, rfl, hS4⟩ := RowI.set hr4 (by omega)
  have HT4 := hide hS4
  have HP4 := hide ((unhide HP3).on b4)
  have HS4 := hide ((unhide HS3).on b4)
  have HC4 := hide ((unhide HC3).on b4)
  have HW4 := hide ((unhide HW3).on b4)
  have HB4 := hide ((unhide HB3).trans (b4.mono (unhide HB3).size))
  have hlt4 : w1.heap.size + 1 < w4.heap.size := Nat.lt_of_lt_of_le hlt3 b4.size
  rw [← b4.cell (p := ⟨w1.heap.size, _, none⟩) (show w1.heap.size < w3.heap.size by omega)] at x0 x1
  rw [← b4.cell (p := ⟨w1.heap.size + 1, _, none⟩) hlt3] at y0 y1 y2
  clear HB3 b4 hlt3 HP3 HS3 HC3 HW3
  clear hr4 hS4
  generalize hod : implDo l room set s = od at *
  replace HOD := hide hod
  clear hod
  go_wp2_with fail
  refine (ldIntsZ_any ta (od.getD []) tc pa (od.getD []) pc w4 (unhide HT4) (unhide HW4)).mono ?_
  rintro e w5 ⟨rfl, b5⟩
  have HP5 := hide ((unhide HP4).on b5)
  have HS5 := hide ((unhide HS4).on b5)
  have HC5 := hide ((unhide HC4).on b5)
  have HW5 := hide ((unhide HW4).on b5)
  have HT5 := hide ((unhide HT4).on b5)
  have HB5 := hide ((unhide HB4).trans (b5.mono (unhide HB4).size))
  have hlt5 : w1.heap.size + 1 < w5.heap.size := Nat.lt_of_lt_of_le hlt4 b5.size
  rw [← b5.cell (p := ⟨w1.heap.size, _, none⟩) (show w1.heap.size < w4.heap.size by omega)] at x0 x1
  rw [← b5.cell (p := ⟨w1.heap.size + 1, _, none⟩) hlt4] at y0 y1 y2
  clear HB4 b5 hlt4 HP4 HS4 HC4 HW4 HT4
  simp only [decide_true]
  cases od with
  | none =>
    go_wp2_with fail
    refine (ldIntsZ_any ta _ tc pa _ pc w5 (unhide HT5) (unhide HW5)).mono ?_
    rintro e w6 ⟨rfl, b6⟩
    have HB6 := hide ((unhide HB5).trans (b6.mono (unhide HB5).size))
    clear b6 HB5 HP5 HS5 HC5 HT5 HW5
    simp only [decide_true]
    go_wp2_with fail
    go_ret
    exact ⟨by simp, unhide HB6⟩
  | some t =>
    simp only [Option.getD_some, Option.isSome_some] at *
    by_cases hk : s.kind = 2
    · rw [hk] at y0
      go_wp2_with fail
      refine (ldIntsZ_any ta _ tc pa _ pc w5 (unhide HT5) (unhide HW5)).mono ?_
      rintro e w6 ⟨rfl, b6⟩
      have HB6 := hide ((unhide HB5).trans (b6.mono (unhide HB5).size))
      clear b6 HB5 HP5 HS5 HC5 HT5 HW5
      simp only [decide_true]
      go_wp2_with fail
      go_ret
      exact ⟨by simp, unhide HB6⟩
    · have hkb : (s.kind == 2) = false := by simpa using hk
      obtain ⟨m, hms, hd⟩ := do_parts (unhide HOD)
      have hk2 : m.step.kind ≠ 2 := by rw [← hms]; exact hk
      have hroom := hd.room hk2
      obtain ⟨hn0, hn1⟩ := hd.inn_lt hk2
      rw [← hms] at hroom hn0 hn1
      have hokr := okz_form hd.ok
      obtain ⟨i, hi⟩ : ∃ i : Nat, s.inn = (i : Int) := ⟨s.inn.toNat, by omega⟩
      rw [hi] at hroom hn0 hn1 y1
      simp only [Int.toNat_natCast] at hroom
      have hil : i < l.length := by omega
      have hkk := (do_any (unhide HOD)).kind
      rcases hkk with hk | hk | hk
      · have HPF : Hid (∀ q ∈ (l.getD i dPack).pres, (List.range set.length).any (preB l set 1 s.out q) = true) := fun q hq => by
          have := pre_found hd hk2 (q := q) (by rw [← hms, hi]; simpa using hq)
          rw [← hms, hk] at this
          exact this
        rw [hk] at y0
        clear hd hk2 hms hroom hk HOD
        have hfm := hokr
        rcases (unhide HP5).2 with hnil | ⟨pb, po, rfl, hpS, hpk⟩
        · rw [hnil] at hil; simp at hil
        obtain ⟨_, a2, d2, n4, hcap, hcm⟩ := unhide HC5 pb po rfl i hil
        obtain ⟨_, _, a2', d2', _, _, hce, hpv⟩ := hpk i hil
        have n4' := hce.pres
        rw [n4] at n4'
        simp at n4'
        obtain ⟨rfl, rfl⟩ := n4'
        have hpres := hpv.pres
        have hpm := hpres.1
        generalize (l.getD i dPack).pres = P at n4 hcap hpres hpm HPF
        have HPR := hide hpres
        have HPK := hide hpk
        have hpw5 : pb < w5.heap.size := hpS
        unfold maxLen at hpm hcm
        clear hce hpv hpres hpk hokr hi
        go_wp2_with fail
        go_loopw [11] (fun i wr => ∃ k : Nat, k ≤ P.length ∧ i = .int .i64 k ∧ Hid (Below w5.heap.size w5 wr)) (fun i _ => P.length - (intOf i).toNat)
        case atStart => exact ⟨0, Nat.zero_le _, rfl, Below.refl _ _⟩
        case round =>
          rename World => wo
          obtain ⟨k, hk, rfl, HBO⟩ := hrel
          by_cases hlt : k < P.length
          · have j1 : (k : Int) < (P.length : Int) := by omega
            have j0 : (0 : Int) ≤ (k : Int) := by omega
            have HQ := hide (unhide HPF (P.getD k dReq) (getD_mem hlt))
            rcases (unhide HPR).2 with hnil | ⟨rb, ro, rfl, hrb, hrr⟩
            · rw [hnil] at hlt; simp at hlt
            have HONE := hide (ReqsAt.one (unhide HPR) hlt)
            generalize P.getD k dReq = q at HQ HONE
            clear hrr
            go_wp2_with fail
            go_loopw [12, 13] (fun f i wr => ∃ j : Nat, j ≤ set.length ∧ i = .int .i64 j ∧ f = .bool ((List.range j).any (preB l set 1 s.out q)) ∧ Hid (Below w5.heap.size w5 wr)) (fun _ i _ => set.length - (intOf i).toNat)
            case atStart => exact ⟨0, Nat.zero_le _, rfl, rfl, HBO⟩
            case round =>
              rename World => wx
              obtain ⟨j, hj, rfl, rfl, HBX⟩ := hrel
              by_cases hjl : j < set.length
              · have j2 : (j : Int) < (set.length : Int) := by omega
                have jj0 : (0 : Int) ≤ (j : Int) := by omega
                have hpl := form_place hfm hjl
                have hsucc : (List.range (j + 1)).any (preB l set 1 s.out q) = ((List.range j).any (preB l set 1 s.out q) || (anyB [q] (l.getD (set.getD j 0).toNat dPack) && !(decide ((1 : Int) = 3) && decide (set.getD j 0 = s.out)))) := by
                  rw [List.range_succ, List.any_append]
                  simp [preB]
                rcases (unhide HS5).2 with hnil | ⟨sb, so, rfl, hsb, hsc⟩
                · rw [hnil] at hjl; simp at hjl
                have s0 := hsc j hjl
                clear hsc
                generalize set.getD j 0 = z at s0 hpl hsucc
                obtain ⟨p, rfl⟩ : ∃ p : Nat, z = (p : Int) := ⟨z.toNat, by omega⟩
                simp only [Int.toNat_natCast] at hsucc
                have hpl2 : p < l.length := by omega
                have i10 : (0 : Int) ≤ (p : Int) := by omega
                have i11 : (p : Int) < (l.length : Int) := by omega
                obtain ⟨b1, e1, b2, e2, b3, e3, hcp, _⟩ := unhide HPK p hpl2
                have f0 := hcp.name
                have f1 := hcp.ver
                have f2 := hcp.size
                have f3 := hcp.deps
                have f4 := hcp.pres
                have f5 := hcp.bans
                clear hcp
                have HFT := hide (fun x (hx : Below wx.heap.size wx x) => ldFits_any (l.getD p dPack) b1 e1 b2 e2 b3 e3 (some ⟨rb, ro + k * 3, none⟩) [q] (d2 - k) x (((unhide HONE).on (unhide HBX)).on hx))
                generalize l.getD p dPack = P2 at f0 f1 f2 f3 f4 f5 HFT hsucc
                generalize (List.range j).any (preB l set 1 s.out q) = fb at hsucc
                generalize anyB [q] P2 = ft at HFT hsucc
                have HSX := hide hsucc
                have X0 := x0
                have X1 := x1
                have Y0 := y0
                have Y1 := y1
                have Y2 := y2
                rw [← (unhide HBX).cell (p := ⟨w1.heap.size, _, none⟩) (show w1.heap.size < w5.heap.size by omega)] at X0 X1
                rw [← (unhide HBX).cell (p := ⟨w1.heap.size + 1, _, none⟩) hlt5] at Y0 Y1 Y2
                rw [← (unhide HBX).cell (p := ⟨sb, _, none⟩) hsb] at s0
                rw [← (unhide HBX).cell (p := ⟨pb, _, none⟩) hpw5] at f0 f1 f2 f3 f4 f5
                have hzx := (unhide HBX).size
                have hlx : w1.heap.size < wx.heap.size := by omega
                have hlx1 : w1.heap.size + 1 < wx.heap.size := by omega
                have hsw : sb < wx.heap.size := by omega
                have hpw : pb < wx.heap.size := by omega
                have hw1 : IntKind.i64.wrap ((k : Int) + 1) = ((k + 1 : Nat) : Int) := by rw [IntKind.wrap_i64]; omega
                have hcc : 0 ≤ (k : Int) + 1 ∧ (k : Int) + 1 ≤ (d2 : Int) := by omega
                have hdk : ¬ d2 = k := by omega
                clear hsucc hpl
                cases fb with
                | true =>
                  have HNX := hide (show _ = true from (unhide HSX).trans (by simp))
                  clear HSX
                  go_upto_region 16 with fail
                  refine wp_region_mixL (k := 100) 32 [] [.bool true, .bool true, undef, undef, undef, undef, undef, undef, undef, undef, undef, undef, undef, undef, undef, undef, undef, undef, undef, undef, undef, undef, undef, undef, undef, undef, undef, undef, undef, undef, undef, .bool true] (C0 wx) (by kernel_rfl) (by kernel_rfl) (by kernel_rfl) (by kernel_rfl) (by kernel_rfl) (by kernel_rfl) ⟨(Below.refl _ _).drew⟩ ?_ ?_ ?_
                  · intro full hfull i oo hi hns ho x fl us hC hb
                    simp [putAll, slotOf, Act.put] at hfull
                    subst hfull
                    have bx := hC.below
                    rw [← bx.cell (p := ⟨w1.heap.size, _, none⟩) hlx] at X0 X1
                    rw [← bx.cell (p := ⟨w1.heap.size + 1, _, none⟩) hlx1] at Y0 Y1 Y2
                    rw [← bx.cell (p := ⟨sb, _, none⟩) hsw] at s0
                    rw [← bx.cell (p := ⟨pb, _, none⟩) hpw] at f0 f1 f2 f3 f4 f5
                    have hC0 := hC.on (b' := fl) (Below.refl _ _)
                    match i with
                    | 0 => simp at ho; subst ho; simp [gwp, Region.wanted, yielded]; first | exact hC0 | (go_simp; first | done | exact hC0 | exact ⟨rfl, hC0⟩ | (simp; exact hC0) | rfl | (intro h; omega) | (simp; omega))
                    | 1 => simp at ho; subst ho; simp [gwp, Region.wanted, yielded]; first | exact hC0 | (go_simp; first | done | exact hC0 | exact ⟨rfl, hC0⟩ | (simp; exact hC0) | rfl | (intro h; omega) | (simp; omega))
                    | 2 => simp at ho; subst ho; simp [gwp, Region.wanted, yielded]; first | exact hC0 | (go_simp; first | done | exact hC0 | exact ⟨rfl, hC0⟩ | (simp; exact hC0) | rfl | (intro h; omega) | (simp; omega))
                    | 3 => simp at ho; subst ho; simp [gwp, Region.wanted, yielded]; first | exact hC0 | (go_simp; first | done | exact hC0 | exact ⟨rfl, hC0⟩ | (simp; exact hC0) | rfl | (intro h; omega) | (simp; omega))
                    | 4 => simp at ho; subst ho; simp [gwp, Region.wanted, yielded]; first | exact hC0 | (go_simp; first | done | exact hC0 | exact ⟨rfl, hC0⟩ | (simp; exact hC0) | rfl | (intro h; omega) | (simp; omega))
                    | 5 => simp at ho; subst ho; simp [gwp, Region.wanted, yielded]; first | exact hC0 | (go_simp; first | done | exact hC0 | exact ⟨rfl, hC0⟩ | (simp; exact hC0) | rfl | (intro h; omega) | (simp; omega))
                    | 6 => simp at ho; subst ho; simp [gwp, Region.wanted, yielded]; first | exact hC0 | (go_simp; first | done | exact hC0 | exact ⟨rfl, hC0⟩ | (simp; exact hC0) | rfl | (intro h; omega) | (simp; omega))
                    | 7 => simp at ho; subst ho; simp [gwp, Region.wanted, yielded]; first | exact hC0 | (go_simp; first | done | exact hC0 | exact ⟨rfl, hC0⟩ | (simp; exact hC0) | rfl | (intro h; omega) | (simp; omega))
                    | 8 => simp at ho; subst ho; simp [gwp, Region.wanted, yielded]; first | exact hC0 | (go_simp; first | done | exact hC0 | exact ⟨rfl, hC0⟩ | (simp; exact hC0) | rfl | (intro h; omega) | (simp; omega))
                    | 9 => simp at ho; subst ho; simp [gwp, Region.wanted, yielded]; first | exact hC0 | (go_simp; first | done | exact hC0 | exact ⟨rfl, hC0⟩ | (simp; exact hC0) | rfl | (intro h; omega) | (simp; omega))
                    | 10 => simp at ho; subst ho; simp [gwp, Region.wanted, yielded]; first | exact hC0 | (go_simp; first | done | exact hC0 | exact ⟨rfl, hC0⟩ | (simp; exact hC0) | rfl | (intro h; omega) | (simp; omega))
                    | 11 => simp at ho; subst ho; simp [gwp, Region.wanted, yielded]; first | exact hC0 | (go_simp; first | done | exact hC0 | exact ⟨rfl, hC0⟩ | (simp; exact hC0) | rfl | (intro h; omega) | (simp; omega))
                    | 12 => simp at ho; subst ho; simp [gwp, Region.wanted, yielded]; first | exact hC0 | (go_simp; first | done | exact hC0 | exact ⟨rfl, hC0⟩ | (simp; exact hC0) | rfl | (intro h; omega) | (simp; omega))
                    | 13 => simp at ho; subst ho; simp [gwp, Region.wanted, yielded]; first | exact hC0 | (go_simp; first | done | exact hC0 | exact ⟨rfl, hC0⟩ | (simp; exact hC0) | rfl | (intro h; omega) | (simp; omega))
                    | 14 => simp at ho; subst ho; simp [gwp, Region.wanted, yielded]; first | exact hC0 | (go_simp; first | done | exact hC0 | exact ⟨rfl, hC0⟩ | (simp; exact hC0) | rfl | (intro h; omega) | (simp; omega))
                    | 15 => simp at ho; subst ho; simp [gwp, Region.wanted, yielded]; first | exact hC0 | (go_simp; first | done | exact hC0 | exact ⟨rfl, hC0⟩ | (simp; exact hC0) | rfl | (intro h; omega) | (simp; omega))
                    | 16 => simp at ho; subst ho; simp [gwp, Region.wanted, yielded]; first | exact hC0 | (go_simp; first | done | exact hC0 | exact ⟨rfl, hC0⟩ | (simp; exact hC0) | rfl | (intro h; omega) | (simp; omega))
                    | 17 => simp at ho; subst ho; simp [gwp, Region.wanted, yielded]; first | exact hC0 | (go_simp; first | done | exact hC0 | exact ⟨rfl, hC0⟩ | (simp; exact hC0) | rfl | (intro h; omega) | (simp; omega))
                    | 18 => simp at ho; subst ho; simp [gwp, Region.wanted, yielded]; first | exact hC0 | (go_simp; first | done | exact hC0 | exact ⟨rfl, hC0⟩ | (simp; exact hC0) | rfl | (intro h; omega) | (simp; omega))
                    | 19 => simp at ho; subst ho; simp [gwp, Region.wanted, yielded]; first | exact hC0 | (go_simp; first | done | exact hC0 | exact ⟨rfl, hC0⟩ | (simp; exact hC0) | rfl | (intro h; omega) | (simp; omega))
                    | 20 => simp at ho; subst ho; simp [gwp, Region.wanted, yielded]; first | exact hC0 | (go_simp; first | done | exact hC0 | exact ⟨rfl, hC0⟩ | (simp; exact hC0) | rfl | (intro h; omega) | (simp; omega))
                    | 21 => simp at ho; subst ho; simp [gwp, Region.wanted, yielded]; first | exact hC0 | (go_simp; first | done | exact hC0 | exact ⟨rfl, hC0⟩ | (simp; exact hC0) | rfl | (intro h; omega) | (simp; omega))
                    | 22 => simp at ho; subst ho; simp [gwp, Region.wanted, yielded]; first | exact hC0 | (go_simp; first | done | exact hC0 | exact ⟨rfl, hC0⟩ | (simp; exact hC0) | rfl | (intro h; omega) | (simp; omega))
                    | 23 => simp at ho; subst ho; simp [gwp, Region.wanted, yielded]; first | exact hC0 | (go_simp; first | done | exact hC0 | exact ⟨rfl, hC0⟩ | (simp; exact hC0) | rfl | (intro h; omega) | (simp; omega))
                    | 24 => simp at ho; subst ho; simp [gwp, Region.wanted, yielded]; first | exact hC0 | (go_simp; first | done | exact hC0 | exact ⟨rfl, hC0⟩ | (simp; exact hC0) | rfl | (intro h; omega) | (simp; omega))
                    | 25 => simp at ho; subst ho; simp [gwp, Region.wanted, yielded]; first | exact hC0 | (go_simp; first | done | exact hC0 | exact ⟨rfl, hC0⟩ | (simp; exact hC0) | rfl | (intro h; omega) | (simp; omega))
                    | 26 => simp at ho; subst ho; simp [gwp, Region.wanted, yielded]; first | exact hC0 | (go_simp; first | done | exact hC0 | exact ⟨rfl, hC0⟩ | (simp; exact hC0) | rfl | (intro h; omega) | (simp; omega))
                    | 27 => simp at ho; subst ho; simp [gwp, Region.wanted, yielded]; first | exact hC0 | (go_simp; first | done | exact hC0 | exact ⟨rfl, hC0⟩ | (simp; exact hC0) | rfl | (intro h; omega) | (simp; omega))
                    | 28 => simp at ho; subst ho; simp [gwp, Region.wanted, yielded]; first | exact hC0 | (go_simp; first | done | exact hC0 | exact ⟨rfl, hC0⟩ | (simp; exact hC0) | rfl | (intro h; omega) | (simp; omega))
                    | 29 => simp at ho; subst ho; simp [gwp, Region.wanted, yielded]; first | exact hC0 | (go_simp; first | done | exact hC0 | exact ⟨rfl, hC0⟩ | (simp; exact hC0) | rfl | (intro h; omega) | (simp; omega))
                    | 30 => simp at ho; subst ho; simp [gwp, Region.wanted, yielded]; first | exact hC0 | (go_simp; first | done | exact hC0 | exact ⟨rfl, hC0⟩ | (simp; exact hC0) | rfl | (intro h; omega) | (simp; omega))
                    | 31 => simp at ho; subst ho; simp [gwp, Region.wanted, yielded]; first | exact hC0 | (go_simp; first | done | exact hC0 | exact ⟨rfl, hC0⟩ | (simp; exact hC0) | rfl | (intro h; omega) | (simp; omega))
                    | i + 32 => omega
                  · intro full hfull us j hj
                    simp at hj
                  · intro full hfull us wz hus hC
                    simp [putAll, slotOf, Act.put] at hfull
                    subst hfull
                    match us, hus with
                    | [], _ =>
                    have bz := hC.below
                    clear hC
                    simp [putP]
                    have HB6 := hide ((unhide HBX).trans (bz.mono (unhide HBX).size))
                    clear bz HBX
                    go_wp2_with fail
                    go_roundw
                    case rel => exact ⟨j + 1, by omega, by go_num, by rw [unhide HNX], HB6⟩
                    case measure => simp [intOf]; omega
                | false =>
                  cases ft with
                  | false =>
                    have HNX := hide (show _ = false from (unhide HSX).trans (by simp))
                    clear HSX
                    go_upto_region 16 with fail
                    refine wp_region_mixL (k := 100) 32 [] [.bool false, .bool false, .pointer (some ⟨w1.heap.size, 0, none⟩), .slice (some ⟨pb, po, none⟩) l.length vc, .slice (some ⟨sb, so, none⟩) set.length sc, .int .i64 (j : Int), .pointer (some ⟨sb, so + j, none⟩), .int .i64 (p : Int), .pointer (some ⟨pb, po + p * 6, none⟩), .agg #[.string P2.name, .int .i64 P2.ver, .int .i64 P2.size, .slice b1 P2.deps.length e1, .slice b2 P2.pres.length e2, .slice b3 P2.bans.length e3], .slice (some ⟨rb, ro, none⟩) P.length d2, .int .i64 (k : Int), .int .i64 (k : Int), .int .i64 ((k + 1 : Nat) : Int), .slice (some ⟨rb, ro + k * 3, none⟩) 1 (d2 - k), .bool false, .bool false, undef, undef, undef, undef, undef, undef, undef, undef, undef, undef, undef, undef, undef, .bool false, .bool false] (C0 wx) (by kernel_rfl) (by kernel_rfl) (by kernel_rfl) (by kernel_rfl) (by kernel_rfl) (by kernel_rfl) ⟨(Below.refl _ _).drew⟩ ?_ ?_ ?_
                    · intro full hfull i oo hi hns ho x fl us hC hb
                      simp [putAll, slotOf, Act.put] at hfull
                      subst hfull
                      have bx := hC.below
                      rw [← bx.cell (p := ⟨w1.heap.size, _, none⟩) hlx] at X0 X1
                      rw [← bx.cell (p := ⟨w1.heap.size + 1, _, none⟩) hlx1] at Y0 Y1 Y2
                      rw [← bx.cell (p := ⟨sb, _, none⟩) hsw] at s0
                      rw [← bx.cell (p := ⟨pb, _, none⟩) hpw] at f0 f1 f2 f3 f4 f5
                      have hC0 := hC.on (b' := fl) (Below.refl _ _)
                      match i with
                      | 0 => simp at ho; subst ho; simp [gwp, Region.wanted, yielded]; first | exact hC0 | (go_simp; first | done | exact hC0 | exact ⟨rfl, hC0⟩ | (simp; exact hC0) | rfl | (intro h; omega) | (simp; omega))
                      | 1 => simp at ho; subst ho; simp [gwp, Region.wanted, yielded]; first | exact hC0 | (go_simp; first | done | exact hC0 | exact ⟨rfl, hC0⟩ | (simp; exact hC0) | rfl | (intro h; omega) | (simp; omega))
                      | 2 => simp at ho; subst ho; simp [gwp, Region.wanted, yielded]; first | exact hC0 | (go_simp; first | done | exact hC0 | exact ⟨rfl, hC0⟩ | (simp; exact hC0) | rfl | (intro h; omega) | (simp; omega))
                      | 3 => simp at ho; subst ho; simp [gwp, Region.wanted, yielded]; first | exact hC0 | (go_simp; first | done | exact hC0 | exact ⟨rfl, hC0⟩ | (simp; exact hC0) | rfl | (intro h; omega) | (simp; omega))
                      | 4 => simp at ho; subst ho; simp [gwp, Region.wanted, yielded]; first | exact hC0 | (go_simp; first | done | exact hC0 | exact ⟨rfl, hC0⟩ | (simp; exact hC0) | rfl | (intro h; omega) | (simp; omega))
                      | 5 => simp at ho; subst ho; simp [gwp, Region.wanted, yielded]; first | exact hC0 | (go_simp; first | done | exact hC0 | exact ⟨rfl, hC0⟩ | (simp; exact hC0) | rfl | (intro h; omega) | (simp; omega))
                      | 6 => simp at ho; subst ho; simp [gwp, Region.wanted, yielded]; first | exact hC0 | (go_simp; first | done | exact hC0 | exact ⟨rfl, hC0⟩ | (simp; exact hC0) | rfl | (intro h; omega) | (simp; omega))
                      | 7 => simp at ho; subst ho; simp [gwp, Region.wanted, yielded]; first | exact hC0 | (go_simp; first | done | exact hC0 | exact ⟨rfl, hC0⟩ | (simp; exact hC0) | rfl | (intro h; omega) | (simp; omega))
                      | 8 => simp at ho; subst ho; simp [gwp, Region.wanted, yielded]; first | exact hC0 | (go_simp; first | done | exact hC0 | exact ⟨rfl, hC0⟩ | (simp; exact hC0) | rfl | (intro h; omega) | (simp; omega))
                      | 9 => simp at ho; subst ho; simp [gwp, Region.wanted, yielded]; first | exact hC0 | (go_simp; first | done | exact hC0 | exact ⟨rfl, hC0⟩ | (simp; exact hC0) | rfl | (intro h; omega) | (simp; omega))
                      | 10 => simp at ho; subst ho; simp [gwp, Region.wanted, yielded]; first | exact hC0 | (go_simp; first | done | exact hC0 | exact ⟨rfl, hC0⟩ | (simp; exact hC0) | rfl | (intro h; omega) | (simp; omega))
                      | 11 => simp at ho; subst ho; simp [gwp, Region.wanted, yielded]; first | exact hC0 | (go_simp; first | done | exact hC0 | exact ⟨rfl, hC0⟩ | (simp; exact hC0) | rfl | (intro h; omega) | (simp; omega))
                      | 12 => simp at ho; subst ho; simp [gwp, Region.wanted, yielded]; first | exact hC0 | (go_simp; first | done | exact hC0 | exact ⟨rfl, hC0⟩ | (simp; exact hC0) | rfl | (intro h; omega) | (simp; omega))
                      | 13 => simp at ho; subst ho; simp [gwp, Region.wanted, yielded]; first | exact hC0 | (go_simp; first | done | exact hC0 | exact ⟨rfl, hC0⟩ | (simp; exact hC0) | rfl | (intro h; omega) | (simp; omega))
                      | 14 => simp at ho; subst ho; simp [gwp, Region.wanted, yielded]; first | exact hC0 | (go_simp; first | done | exact hC0 | exact ⟨rfl, hC0⟩ | (simp; exact hC0) | rfl | (intro h; omega) | (simp; omega))
                      | 15 =>
                        simp at ho; subst ho; simp [gwp, Region.wanted, yielded]; go_simp
                        refine (unhide HFT x bx).mono ?_
                        rintro e w' ⟨rfl, hb2⟩
                        go_simp
                        first | done | exact hC.on hb2 | exact ⟨rfl, hC.on hb2⟩ | (simp; exact hC.on hb2)
                      | 16 => simp at ho; subst ho; simp [gwp, Region.wanted, yielded]; first | exact hC0 | (go_simp; first | done | exact hC0 | exact ⟨rfl, hC0⟩ | (simp; exact hC0) | rfl | (intro h; omega) | (simp; omega))
                      | 17 => simp at ho; subst ho; simp [gwp, Region.wanted, yielded]; first | exact hC0 | (go_simp; first | done | exact hC0 | exact ⟨rfl, hC0⟩ | (simp; exact hC0) | rfl | (intro h; omega) | (simp; omega))
                      | 18 => simp at ho; subst ho; simp [gwp, Region.wanted, yielded]; first | exact hC0 | (go_simp; first | done | exact hC0 | exact ⟨rfl, hC0⟩ | (simp; exact hC0) | rfl | (intro h; omega) | (simp; omega))
                      | 19 => simp at ho; subst ho; simp [gwp, Region.wanted, yielded]; first | exact hC0 | (go_simp; first | done | exact hC0 | exact ⟨rfl, hC0⟩ | (simp; exact hC0) | rfl | (intro h; omega) | (simp; omega))
                      | 20 => simp at ho; subst ho; simp [gwp, Region.wanted, yielded]; first | exact hC0 | (go_simp; first | done | exact hC0 | exact ⟨rfl, hC0⟩ | (simp; exact hC0) | rfl | (intro h; omega) | (simp; omega))
                      | 21 => simp at ho; subst ho; simp [gwp, Region.wanted, yielded]; first | exact hC0 | (go_simp; first | done | exact hC0 | exact ⟨rfl, hC0⟩ | (simp; exact hC0) | rfl | (intro h; omega) | (simp; omega))
                      | 22 => simp at ho; subst ho; simp [gwp, Region.wanted, yielded]; first | exact hC0 | (go_simp; first | done | exact hC0 | exact ⟨rfl, hC0⟩ | (simp; exact hC0) | rfl | (intro h; omega) | (simp; omega))
                      | 23 => simp at ho; subst ho; simp [gwp, Region.wanted, yielded]; first | exact hC0 | (go_simp; first | done | exact hC0 | exact ⟨rfl, hC0⟩ | (simp; exact hC0) | rfl | (intro h; omega) | (simp; omega))
                      | 24 => simp at ho; subst ho; simp [gwp, Region.wanted, yielded]; first | exact hC0 | (go_simp; first | done | exact hC0 | exact ⟨rfl, hC0⟩ | (simp; exact hC0) | rfl | (intro h; omega) | (simp; omega))
                      | 25 => simp at ho; subst ho; simp [gwp, Region.wanted, yielded]; first | exact hC0 | (go_simp; first | done | exact hC0 | exact ⟨rfl, hC0⟩ | (simp; exact hC0) | rfl | (intro h; omega) | (simp; omega))
                      | 26 => simp at ho; subst ho; simp [gwp, Region.wanted, yielded]; first | exact hC0 | (go_simp; first | done | exact hC0 | exact ⟨rfl, hC0⟩ | (simp; exact hC0) | rfl | (intro h; omega) | (simp; omega))
                      | 27 => simp at ho; subst ho; simp [gwp, Region.wanted, yielded]; first | exact hC0 | (go_simp; first | done | exact hC0 | exact ⟨rfl, hC0⟩ | (simp; exact hC0) | rfl | (intro h; omega) | (simp; omega))
                      | 28 => simp at ho; subst ho; simp [gwp, Region.wanted, yielded]; first | exact hC0 | (go_simp; first | done | exact hC0 | exact ⟨rfl, hC0⟩ | (simp; exact hC0) | rfl | (intro h; omega) | (simp; omega))
                      | 29 => simp at ho; subst ho; simp [gwp, Region.wanted, yielded]; first | exact hC0 | (go_simp; first | done | exact hC0 | exact ⟨rfl, hC0⟩ | (simp; exact hC0) | rfl | (intro h; omega) | (simp; omega))
                      | 30 => simp at ho; subst ho; simp [gwp, Region.wanted, yielded]; first | exact hC0 | (go_simp; first | done | exact hC0 | exact ⟨rfl, hC0⟩ | (simp; exact hC0) | rfl | (intro h; omega) | (simp; omega))
                      | 31 => simp at ho; subst ho; simp [gwp, Region.wanted, yielded]; first | exact hC0 | (go_simp; first | done | exact hC0 | exact ⟨rfl, hC0⟩ | (simp; exact hC0) | rfl | (intro h; omega) | (simp; omega))
                      | i + 32 => omega
                    · intro full hfull us j hj
                      simp at hj
                    · intro full hfull us wz hus hC
                      simp [putAll, slotOf, Act.put] at hfull
                      subst hfull
                      match us, hus with
                      | [], _ =>
                      have bz := hC.below
                      clear hC
                      simp [putP]
                      have HB6 := hide ((unhide HBX).trans (bz.mono (unhide HBX).size))
                      clear bz HBX
                      go_wp2_with fail
                      go_roundw
                      case rel => exact ⟨j + 1, by omega, by go_num, by rw [unhide HNX], HB6⟩
                      case measure => simp [intOf]; omega
                  | true =>
                    have HNX := hide (show _ = true from (unhide HSX).trans (by simp))
                    clear HSX
                    go_upto_region 16 with fail
                    refine wp_region_mixL (k := 100) 32 [] [.bool false, .bool false, .pointer (some ⟨w1.heap.size, 0, none⟩), .slice (some ⟨pb, po, none⟩) l.length vc, .slice (some ⟨sb, so, none⟩) set.length sc, .int .i64 (j : Int), .pointer (some ⟨sb, so + j, none⟩), .int .i64 (p : Int), .pointer (some ⟨pb, po + p * 6, none⟩), .agg #[.string P2.name, .int .i64 P2.ver, .int .i64 P2.size, .slice b1 P2.deps.length e1, .slice b2 P2.pres.length e2, .slice b3 P2.bans.length e3], .slice (some ⟨rb, ro, none⟩) P.length d2, .int .i64 (k : Int), .int .i64 (k : Int), .int .i64 ((k + 1 : Nat) : Int), .slice (some ⟨rb, ro + k * 3, none⟩) 1 (d2 - k), .bool true, .bool true, .pointer (some ⟨w1.heap.size + 1, 0, none⟩), .int .i64 1, .bool false, .bool false, undef, undef, undef, undef, undef, undef, undef, .bool false, .bool true, .bool true, .bool true] (C0 wx) (by kernel_rfl) (by kernel_rfl) (by kernel_rfl) (by kernel_rfl) (by kernel_rfl) (by kernel_rfl) ⟨(Below.refl _ _).drew⟩ ?_ ?_ ?_
                    · intro full hfull i oo hi hns ho x fl us hC hb
                      simp [putAll, slotOf, Act.put] at hfull
                      subst hfull
                      have bx := hC.below
                      rw [← bx.cell (p := ⟨w1.heap.size, _, none⟩) hlx] at X0 X1
                      rw [← bx.cell (p := ⟨w1.heap.size + 1, _, none⟩) hlx1] at Y0 Y1 Y2
                      rw [← bx.cell (p := ⟨sb, _, none⟩) hsw] at s0
                      rw [← bx.cell (p := ⟨pb, _, none⟩) hpw] at f0 f1 f2 f3 f4 f5
                      have hC0 := hC.on (b' := fl) (Below.refl _ _)
                      match i with
                      | 0 => simp at ho; subst ho; simp [gwp, Region.wanted, yielded]; first | exact hC0 | (go_simp; first | done | exact hC0 | exact ⟨rfl, hC0⟩ | (simp; exact hC0) | rfl | (intro h; omega) | (simp; omega))
                      | 1 => simp at ho; subst ho; simp [gwp, Region.wanted, yielded]; first | exact hC0 | (go_simp; first | done | exact hC0 | exact ⟨rfl, hC0⟩ | (simp; exact hC0) | rfl | (intro h; omega) | (simp; omega))
                      | 2 => simp at ho; subst ho; simp [gwp, Region.wanted, yielded]; first | exact hC0 | (go_simp; first | done | exact hC0 | exact ⟨rfl, hC0⟩ | (simp; exact hC0) | rfl | (intro h; omega) | (simp; omega))
                      | 3 => simp at ho; subst ho; simp [gwp, Region.wanted, yielded]; first | exact hC0 | (go_simp; first | done | exact hC0 | exact ⟨rfl, hC0⟩ | (simp; exact hC0) | rfl | (intro h; omega) | (simp; omega))
                      | 4 => simp at ho; subst ho; simp [gwp, Region.wanted, yielded]; first | exact hC0 | (go_simp; first | done | exact hC0 | exact ⟨rfl, hC0⟩ | (simp; exact hC0) | rfl | (intro h; omega) | (simp; omega))
                      | 5 => simp at ho; subst ho; simp [gwp, Region.wanted, yielded]; first | exact hC0 | (go_simp; first | done | exact hC0 | exact ⟨rfl, hC0⟩ | (simp; exact hC0) | rfl | (intro h; omega) | (simp; omega))
                      | 6 => simp at ho; subst ho; simp [gwp, Region.wanted, yielded]; first | exact hC0 | (go_simp; first | done | exact hC0 | exact ⟨rfl, hC0⟩ | (simp; exact hC0) | rfl | (intro h; omega) | (simp; omega))
                      | 7 => simp at ho; subst ho; simp [gwp, Region.wanted, yielded]; first | exact hC0 | (go_simp; first | done | exact hC0 | exact ⟨rfl, hC0⟩ | (simp; exact hC0) | rfl | (intro h; omega) | (simp; omega))
                      | 8 => simp at ho; subst ho; simp [gwp, Region.wanted, yielded]; first | exact hC0 | (go_simp; first | done | exact hC0 | exact ⟨rfl, hC0⟩ | (simp; exact hC0) | rfl | (intro h; omega) | (simp; omega))
                      | 9 => simp at ho; subst ho; simp [gwp, Region.wanted, yielded]; first | exact hC0 | (go_simp; first | done | exact hC0 | exact ⟨rfl, hC0⟩ | (simp; exact hC0) | rfl | (intro h; omega) | (simp; omega))
                      | 10 => simp at ho; subst ho; simp [gwp, Region.wanted, yielded]; first | exact hC0 | (go_simp; first | done | exact hC0 | exact ⟨rfl, hC0⟩ | (simp; exact hC0) | rfl | (intro h; omega) | (simp; omega))
                      | 11 => simp at ho; subst ho; simp [gwp, Region.wanted, yielded]; first | exact hC0 | (go_simp; first | done | exact hC0 | exact ⟨rfl, hC0⟩ | (simp; exact hC0) | rfl | (intro h; omega) | (simp; omega))
                      | 12 => simp at ho; subst ho; simp [gwp, Region.wanted, yielded]; first | exact hC0 | (go_simp; first | done | exact hC0 | exact ⟨rfl, hC0⟩ | (simp; exact hC0) | rfl | (intro h; omega) | (simp; omega))
                      | 13 => simp at ho; subst ho; simp [gwp, Region.wanted, yielded]; first | exact hC0 | (go_simp; first | done | exact hC0 | exact ⟨rfl, hC0⟩ | (simp; exact hC0) | rfl | (intro h; omega) | (simp; omega))
                      | 14 => simp at ho; subst ho; simp [gwp, Region.wanted, yielded]; first | exact hC0 | (go_simp; first | done | exact hC0 | exact ⟨rfl, hC0⟩ | (simp; exact hC0) | rfl | (intro h; omega) | (simp; omega))
                      | 15 =>
                        simp at ho; subst ho; simp [gwp, Region.wanted, yielded]; go_simp
                        refine (unhide HFT x bx).mono ?_
                        rintro e w' ⟨rfl, hb2⟩
                        go_simp
                        first | done | exact hC.on hb2 | exact ⟨rfl, hC.on hb2⟩ | (simp; exact hC.on hb2)
                      | 16 => simp at ho; subst ho; simp [gwp, Region.wanted, yielded]; first | exact hC0 | (go_simp; first | done | exact hC0 | exact ⟨rfl, hC0⟩ | (simp; exact hC0) | rfl | (intro h; omega) | (simp; omega))
                      | 17 => simp at ho; subst ho; simp [gwp, Region.wanted, yielded]; first | exact hC0 | (go_simp; first | done | exact hC0 | exact ⟨rfl, hC0⟩ | (simp; exact hC0) | rfl | (intro h; omega) | (simp; omega))
                      | 18 => simp at ho; subst ho; simp [gwp, Region.wanted, yielded]; first | exact hC0 | (go_simp; first | done | exact hC0 | exact ⟨rfl, hC0⟩ | (simp; exact hC0) | rfl | (intro h; omega) | (simp; omega))
                      | 19 => simp at ho; subst ho; simp [gwp, Region.wanted, yielded]; first | exact hC0 | (go_simp; first | done | exact hC0 | exact ⟨rfl, hC0⟩ | (simp; exact hC0) | rfl | (intro h; omega) | (simp; omega))
                      | 20 => simp at ho; subst ho; simp [gwp, Region.wanted, yielded]; first | exact hC0 | (go_simp; first | done | exact hC0 | exact ⟨rfl, hC0⟩ | (simp; exact hC0) | rfl | (intro h; omega) | (simp; omega))
                      | 21 => simp at ho; subst ho; simp [gwp, Region.wanted, yielded]; first | exact hC0 | (go_simp; first | done | exact hC0 | exact ⟨rfl, hC0⟩ | (simp; exact hC0) | rfl | (intro h; omega) | (simp; omega))
                      | 22 => simp at ho; subst ho; simp [gwp, Region.wanted, yielded]; first | exact hC0 | (go_simp; first | done | exact hC0 | exact ⟨rfl, hC0⟩ | (simp; exact hC0) | rfl | (intro h; omega) | (simp; omega))
                      | 23 => simp at ho; subst ho; simp [gwp, Region.wanted, yielded]; first | exact hC0 | (go_simp; first | done | exact hC0 | exact ⟨rfl, hC0⟩ | (simp; exact hC0) | rfl | (intro h; omega) | (simp; omega))
                      | 24 => simp at ho; subst ho; simp [gwp, Region.wanted, yielded]; first | exact hC0 | (go_simp; first | done | exact hC0 | exact ⟨rfl, hC0⟩ | (simp; exact hC0) | rfl | (intro h; omega) | (simp; omega))
                      | 25 => simp at ho; subst ho; simp [gwp, Region.wanted, yielded]; first | exact hC0 | (go_simp; first | done | exact hC0 | exact ⟨rfl, hC0⟩ | (simp; exact hC0) | rfl | (intro h; omega) | (simp; omega))
                      | 26 => simp at ho; subst ho; simp [gwp, Region.wanted, yielded]; first | exact hC0 | (go_simp; first | done | exact hC0 | exact ⟨rfl, hC0⟩ | (simp; exact hC0) | rfl | (intro h; omega) | (simp; omega))
                      | 27 => simp at ho; subst ho; simp [gwp, Region.wanted, yielded]; first | exact hC0 | (go_simp; first | done | exact hC0 | exact ⟨rfl, hC0⟩ | (simp; exact hC0) | rfl | (intro h; omega) | (simp; omega))
                      | 28 => simp at ho; subst ho; simp [gwp, Region.wanted, yielded]; first | exact hC0 | (go_simp; first | done | exact hC0 | exact ⟨rfl, hC0⟩ | (simp; exact hC0) | rfl | (intro h; omega) | (simp; omega))
                      | 29 => simp at ho; subst ho; simp [gwp, Region.wanted, yielded]; first | exact hC0 | (go_simp; first | done | exact hC0 | exact ⟨rfl, hC0⟩ | (simp; exact hC0) | rfl | (intro h; omega) | (simp; omega))
                      | 30 => simp at ho; subst ho; simp [gwp, Region.wanted, yielded]; first | exact hC0 | (go_simp; first | done | exact hC0 | exact ⟨rfl, hC0⟩ | (simp; exact hC0) | rfl | (intro h; omega) | (simp; omega))
                      | 31 => simp at ho; subst ho; simp [gwp, Region.wanted, yielded]; first | exact hC0 | (go_simp; first | done | exact hC0 | exact ⟨rfl, hC0⟩ | (simp; exact hC0) | rfl | (intro h; omega) | (simp; omega))
                      | i + 32 => omega
                    · intro full hfull us j hj
                      simp at hj
                    · intro full hfull us wz hus hC
                      simp [putAll, slotOf, Act.put] at hfull
                      subst hfull
                      match us, hus with
                      | [], _ =>
                      have bz := hC.below
                      clear hC
                      simp [putP]
                      have HB6 := hide ((unhide HBX).trans (bz.mono (unhide HBX).size))
                      clear bz HBX
                      go_wp2_with fail
                      go_roundw
                      case rel => exact ⟨j + 1, by omega, by go_num, by rw [unhide HNX], HB6⟩
                      case measure => simp [intOf]; omega
              · have j2 : ¬ (j : Int) < (set.length : Int) := by omega
                have hje : j = set.length := by omega
                subst hje
                rw [unhide HQ]
                go_wp2_with fail
                go_roundw
                case rel => exact ⟨k + 1, by omega, by go_num, HBX⟩
                case measure => simp [intOf]; omega
          · have j1 : ¬ (k : Int) < (P.length : Int) := by omega
            have HB7 := hide ((unhide HB5).trans ((unhide HBO).mono (unhide HB5).size))
            go_wp2_with fail
            go_ret
            exact ⟨by simp, unhide HB7⟩
      · omega
      · have HPF : Hid (∀ q ∈ (l.getD i dPack).pres, (List.range set.length).any (preB l set 3 s.out q) = true) := fun q hq => by
          have := pre_found hd hk2 (q := q) (by rw [← hms, hi]; simpa using hq)
          rw [← hms, hk] at this
          exact this
        rw [hk] at y0
        clear hd hk2 hms hroom hk HOD
        have hfm := hokr
        rcases (unhide HP5).2 with hnil | ⟨pb, po, rfl, hpS, hpk⟩
        · rw [hnil] at hil; simp at hil
        obtain ⟨_, a2, d2, n4, hcap, hcm⟩ := unhide HC5 pb po rfl i hil
        obtain ⟨_, _, a2', d2', _, _, hce, hpv⟩ := hpk i hil
        have n4' := hce.pres
        rw [n4] at n4'
        simp at n4'
        obtain ⟨rfl, rfl⟩ := n4'
        have hpres := hpv.pres
        have hpm := hpres.1
        generalize (l.getD i dPack).pres = P at n4 hcap hpres hpm HPF
        have HPR := hide hpres
        have HPK := hide hpk
        have hpw5 : pb < w5.heap.size := hpS
        unfold maxLen at hpm hcm
        clear hce hpv hpres hpk hokr hi
        go_wp2_with fail
        go_loopw [11] (fun i wr => ∃ k : Nat, k ≤ P.length ∧ i = .int .i64 k ∧ Hid (Below w5.heap.size w5 wr)) (fun i _ => P.length - (intOf i).toNat)
        case atStart => exact ⟨0, Nat.zero_le _, rfl, Below.refl _ _⟩
        case round =>
          rename World => wo
          obtain ⟨k, hk, rfl, HBO⟩ := hrel
          by_cases hlt : k < P.length
          · have j1 : (k : Int) < (P.length : Int) := by omega
            have j0 : (0 : Int) ≤ (k : Int) := by omega
            have HQ := hide (unhide HPF (P.getD k dReq) (getD_mem hlt))
            rcases (unhide HPR).2 with hnil | ⟨rb, ro, rfl, hrb, hrr⟩
            · rw [hnil] at hlt; simp at hlt
            have HONE := hide (ReqsAt.one (unhide HPR) hlt)
            generalize P.getD k dReq = q at HQ HONE
            clear hrr
            go_wp2_with fail
            go_loopw [12, 13] (fun f i wr => ∃ j : Nat, j ≤ set.length ∧ i = .int .i64 j ∧ f = .bool ((List.range j).any (preB l set 3 s.out q)) ∧ Hid (Below w5.heap.size w5 wr)) (fun _ i _ => set.length - (intOf i).toNat)
            case atStart => exact ⟨0, Nat.zero_le _, rfl, rfl, HBO⟩
            case round =>
              rename World => wx
              obtain ⟨j, hj, rfl, rfl, HBX⟩ := hrel
              by_cases hjl : j < set.length
              · have j2 : (j : Int) < (set.length : Int) := by omega
                have jj0 : (0 : Int) ≤ (j : Int) := by omega
                have hpl := form_place hfm hjl
                have hsucc : (List.range (j + 1)).any (preB l set 3 s.out q) = ((List.range j).any (preB l set 3 s.out q) || (anyB [q] (l.getD (set.getD j 0).toNat dPack) && !(decide ((3 : Int) = 3) && decide (set.getD j 0 = s.out)))) := by
                  rw [List.range_succ, List.any_append]
                  simp [preB]
                rcases (unhide HS5).2 with hnil | ⟨sb, so, rfl, hsb, hsc⟩
                · rw [hnil] at hjl; simp at hjl
                have s0 := hsc j hjl
                clear hsc
                generalize set.getD j 0 = z at s0 hpl hsucc
                obtain ⟨p, rfl⟩ : ∃ p : Nat, z = (p : Int) := ⟨z.toNat, by omega⟩
                simp only [Int.toNat_natCast] at hsucc
                have hpl2 : p < l.length := by omega
                have i10 : (0 : Int) ≤ (p : Int) := by omega
                have i11 : (p : Int) < (l.length : Int) := by omega
                obtain ⟨b1, e1, b2, e2, b3, e3, hcp, _⟩ := unhide HPK p hpl2
                have f0 := hcp.name
                have f1 := hcp.ver
                have f2 := hcp.size
                have f3 := hcp.deps
                have f4 := hcp.pres
                have f5 := hcp.bans
                clear hcp
                have HFT := hide (fun x (hx : Below wx.heap.size wx x) => ldFits_any (l.getD p dPack) b1 e1 b2 e2 b3 e3 (some ⟨rb, ro + k * 3, none⟩) [q] (d2 - k) x (((unhide HONE).on (unhide HBX)).on hx))
                generalize l.getD p dPack = P2 at f0 f1 f2 f3 f4 f5 HFT hsucc
                generalize (List.range j).any (preB l set 3 s.out q) = fb at hsucc
                generalize anyB [q] P2 = ft at HFT hsucc
                have HSX := hide hsucc
                have X0 := x0
                have X1 := x1
                have Y0 := y0
                have Y1 := y1
                have Y2 := y2
                rw [← (unhide HBX).cell (p := ⟨w1.heap.size, _, none⟩) (show w1.heap.size < w5.heap.size by omega)] at X0 X1
                rw [← (unhide HBX).cell (p := ⟨w1.heap.size + 1, _, none⟩) hlt5] at Y0 Y1 Y2
                rw [← (unhide HBX).cell (p := ⟨sb, _, none⟩) hsb] at s0
                rw [← (unhide HBX).cell (p := ⟨pb, _, none⟩) hpw5] at f0 f1 f2 f3 f4 f5
                have hzx := (unhide HBX).size
                have hlx : w1.heap.size < wx.heap.size := by omega
                have hlx1 : w1.heap.size + 1 < wx.heap.size := by omega
                have hsw : sb < wx.heap.size := by omega
                have hpw : pb < wx.heap.size := by omega
                have hw1 : IntKind.i64.wrap ((k : Int) + 1) = ((k + 1 : Nat) : Int) := by rw [IntKind.wrap_i64]; omega
                have hcc : 0 ≤ (k : Int) + 1 ∧ (k : Int) + 1 ≤ (d2 : Int) := by omega
                have hdk : ¬ d2 = k := by omega
                clear hsucc hpl
                cases fb with
                | true =>
                  have HNX := hide (show _ = true from (unhide HSX).trans (by simp))
                  clear HSX
                  go_upto_region 16 with fail
                  refine wp_region_mixL (k := 100) 32 [] [.bool true, .bool true, undef, undef, undef, undef, undef, undef, undef, undef, undef, undef, undef, undef, undef, undef, undef, undef, undef, undef, undef, undef, undef, undef, undef, undef, undef, undef, undef, undef, undef, .bool true] (C0 wx) (by kernel_rfl) (by kernel_rfl) (by kernel_rfl) (by kernel_rfl) (by kernel_rfl) (by kernel_rfl) ⟨(Below.refl _ _).drew⟩ ?_ ?_ ?_
                  · intro full hfull i oo hi hns ho x fl us hC hb
                    simp [putAll, slotOf, Act.put] at hfull
                    subst hfull
                    have bx := hC.below
                    rw [← bx.cell (p := ⟨w1.heap.size, _, none⟩) hlx] at X0 X1
                    rw [← bx.cell (p := ⟨w1.heap.size + 1, _, none⟩) hlx1] at Y0 Y1 Y2
                    rw [← bx.cell (p := ⟨sb, _, none⟩) hsw] at s0
                    rw [← bx.cell (p := ⟨pb, _, none⟩) hpw] at f0 f1 f2 f3 f4 f5
                    have hC0 := hC.on (b' := fl) (Below.refl _ _)
                    match i with
                    | 0 => simp at ho; subst ho; simp [gwp, Region.wanted, yielded]; first | exact hC0 | (go_simp; first | done | exact hC0 | exact ⟨rfl, hC0⟩ | (simp; exact hC0) | rfl | (intro h; omega) | (simp; omega))
                    | 1 => simp at ho; subst ho; simp [gwp, Region.wanted, yielded]; first | exact hC0 | (go_simp; first | done | exact hC0 | exact ⟨rfl, hC0⟩ | (simp; exact hC0) | rfl | (intro h; omega) | (simp; omega))
                    | 2 => simp at ho; subst ho; simp [gwp, Region.wanted, yielded]; first | exact hC0 | (go_simp; first | done | exact hC0 | exact ⟨rfl, hC0⟩ | (simp; exact hC0) | rfl | (intro h; omega) | (simp; omega))
                    | 3 => simp at ho; subst ho; simp [gwp, Region.wanted, yielded]; first | exact hC0 | (go_simp; first | done | exact hC0 | exact ⟨rfl, hC0⟩ | (simp; exact hC0) | rfl | (intro h; omega) | (simp; omega))
                    | 4 => simp at ho; subst ho; simp [gwp, Region.wanted, yielded]; first | exact hC0 | (go_simp; first | done | exact hC0 | exact ⟨rfl, hC0⟩ | (simp; exact hC0) | rfl | (intro h; omega) | (simp; omega))
                    | 5 => simp at ho; subst ho; simp [gwp, Region.wanted, yielded]; first | exact hC0 | (go_simp; first | done | exact hC0 | exact ⟨rfl, hC0⟩ | (simp; exact hC0) | rfl | (intro h; omega) | (simp; omega))
                    | 6 => simp at ho; subst ho; simp [gwp, Region.wanted, yielded]; first | exact hC0 | (go_simp; first | done | exact hC0 | exact ⟨rfl, hC0⟩ | (simp; exact hC0) | rfl | (intro h; omega) | (simp; omega))
                    | 7 => simp at ho; subst ho; simp [gwp, Region.wanted, yielded]; first | exact hC0 | (go_simp; first | done | exact hC0 | exact ⟨rfl, hC0⟩ | (simp; exact hC0) | rfl | (intro h; omega) | (simp; omega))
                    | 8 => simp at ho; subst ho; simp [gwp, Region.wanted, yielded]; first | exact hC0 | (go_simp; first | done | exact hC0 | exact ⟨rfl, hC0⟩ | (simp; exact hC0) | rfl | (intro h; omega) | (simp; omega))
                    | 9 => simp at ho; subst ho; simp [gwp, Region.wanted, yielded]; first | exact hC0 | (go_simp; first | done | exact hC0 | exact ⟨rfl, hC0⟩ | (simp; exact hC0) | rfl | (intro h; omega) | (simp; omega))
                    | 10 => simp at ho; subst ho; simp [gwp, Region.wanted, yielded]; first | exact hC0 | (go_simp; first | done | exact hC0 | exact ⟨rfl, hC0⟩ | (simp; exact hC0) | rfl | (intro h; omega) | (simp; omega))
                    | 11 => simp at ho; subst ho; simp [gwp, Region.wanted, yielded]; first | exact hC0 | (go_simp; first | done | exact hC0 | exact ⟨rfl, hC0⟩ | (simp; exact hC0) | rfl | (intro h; omega) | (simp; omega))
                    | 12 => simp at ho; subst ho; simp [gwp, Region.wanted, yielded]; first | exact hC0 | (go_simp; first | done | exact hC0 | exact ⟨rfl, hC0⟩ | (simp; exact hC0) | rfl | (intro h; omega) | (simp; omega))
                    | 13 => simp at ho; subst ho; simp [gwp, Region.wanted, yielded]; first | exact hC0 | (go_simp; first | done | exact hC0 | exact ⟨rfl, hC0⟩ | (simp; exact hC0) | rfl | (intro h; omega) | (simp; omega))
                    | 14 => simp at ho; subst ho; simp [gwp, Region.wanted, yielded]; first | exact hC0 | (go_simp; first | done | exact hC0 | exact ⟨rfl, hC0⟩ | (simp; exact hC0) | rfl | (intro h; omega) | (simp; omega))
                    | 15 => simp at ho; subst ho; simp [gwp, Region.wanted, yielded]; first | exact hC0 | (go_simp; first | done | exact hC0 | exact ⟨rfl, hC0⟩ | (simp; exact hC0) | rfl | (intro h; omega) | (simp; omega))
                    | 16 => simp at ho; subst ho; simp [gwp, Region.wanted, yielded]; first | exact hC0 | (go_simp; first | done | exact hC0 | exact ⟨rfl, hC0⟩ | (simp; exact hC0) | rfl | (intro h; omega) | (simp; omega))
                    | 17 => simp at ho; subst ho; simp [gwp, Region.wanted, yielded]; first | exact hC0 | (go_simp; first | done | exact hC0 | exact ⟨rfl, hC0⟩ | (simp; exact hC0) | rfl | (intro h; omega) | (simp; omega))
                    | 18 => simp at ho; subst ho; simp [gwp, Region.wanted, yielded]; first | exact hC0 | (go_simp; first | done | exact hC0 | exact ⟨rfl, hC0⟩ | (simp; exact hC0) | rfl | (intro h; omega) | (simp; omega))
                    | 19 => simp at ho; subst ho; simp [gwp, Region.wanted, yielded]; first | exact hC0 | (go_simp; first | done | exact hC0 | exact ⟨rfl, hC0⟩ | (simp; exact hC0) | rfl | (intro h; omega) | (simp; omega))
                    | 20 => simp at ho; subst ho; simp [gwp, Region.wanted, yielded]; first | exact hC0 | (go_simp; first | done | exact hC0 | exact ⟨rfl, hC0⟩ | (simp; exact hC0) | rfl | (intro h; omega) | (simp; omega))
                    | 21 => simp at ho; subst ho; simp [gwp, Region.wanted, yielded]; first | exact hC0 | (go_simp; first | done | exact hC0 | exact ⟨rfl, hC0⟩ | (simp; exact hC0) | rfl | (intro h; omega) | (simp; omega))
                    | 22 => simp at ho; subst ho; simp [gwp, Region.wanted, yielded]; first | exact hC0 | (go_simp; first | done | exact hC0 | exact ⟨rfl, hC0⟩ | (simp; exact hC0) | rfl | (intro h; omega) | (simp; omega))
                    | 23 => simp at ho; subst ho; simp [gwp, Region.wanted, yielded]; first | exact hC0 | (go_simp; first | done | exact hC0 | exact ⟨rfl, hC0⟩ | (simp; exact hC0) | rfl | (intro h; omega) | (simp; omega))
                    | 24 => simp at ho; subst ho; simp [gwp, Region.wanted, yielded]; first | exact hC0 | (go_simp; first | done | exact hC0 | exact ⟨rfl, hC0⟩ | (simp; exact hC0) | rfl | (intro h; omega) | (simp; omega))
                    | 25 => simp at ho; subst ho; simp [gwp, Region.wanted, yielded]; first | exact hC0 | (go_simp; first | done | exact hC0 | exact ⟨rfl, hC0⟩ | (simp; exact hC0) | rfl | (intro h; omega) | (simp; omega))
                    | 26 => simp at ho; subst ho; simp [gwp, Region.wanted, yielded]; first | exact hC0 | (go_simp; first | done | exact hC0 | exact ⟨rfl, hC0⟩ | (simp; exact hC0) | rfl | (intro h; omega) | (simp; omega))
                    | 27 => simp at ho; subst ho; simp [gwp, Region.wanted, yielded]; first | exact hC0 | (go_simp; first | done | exact hC0 | exact ⟨rfl, hC0⟩ | (simp; exact hC0) | rfl | (intro h; omega) | (simp; omega))
                    | 28 => simp at ho; subst ho; simp [gwp, Region.wanted, yielded]; first | exact hC0 | (go_simp; first | done | exact hC0 | exact ⟨rfl, hC0⟩ | (simp; exact hC0) | rfl | (intro h; omega) | (simp; omega))
                    | 29 => simp at ho; subst ho; simp [gwp, Region.wanted, yielded]; first | exact hC0 | (go_simp; first | done | exact hC0 | exact ⟨rfl, hC0⟩ | (simp; exact hC0) | rfl | (intro h; omega) | (simp; omega))
                    | 30 => simp at ho; subst ho; simp [gwp, Region.wanted, yielded]; first | exact hC0 | (go_simp; first | done | exact hC0 | exact ⟨rfl, hC0⟩ | (simp; exact hC0) | rfl | (intro h; omega) | (simp; omega))
                    | 31 => simp at ho; subst ho; simp [gwp, Region.wanted, yielded]; first | exact hC0 | (go_simp; first | done | exact hC0 | exact ⟨rfl, hC0⟩ | (simp; exact hC0) | rfl | (intro h; omega) | (simp; omega))
                    | i + 32 => omega
                  · intro full hfull us j hj
                    simp at hj
                  · intro full hfull us wz hus hC
                    simp [putAll, slotOf, Act.put] at hfull
                    subst hfull
                    match us, hus with
                    | [], _ =>
                    have bz := hC.below
                    clear hC
                    simp [putP]
                    have HB6 := hide ((unhide HBX).trans (bz.mono (unhide HBX).size))
                    clear bz HBX
                    go_wp2_with fail
                    go_roundw
                    case rel => exact ⟨j + 1, by omega, by go_num, by rw [unhide HNX], HB6⟩
                    case measure => simp [intOf]; omega
                | false =>
                  cases ft with
                  | false =>
                    have HNX := hide (show _ = false from (unhide HSX).trans (by simp))
                    clear HSX
                    go_upto_region 16 with fail
                    refine wp_region_mixL (k := 100) 32 [] [.bool false, .bool false, .pointer (some ⟨w1.heap.size, 0, none⟩), .slice (some ⟨pb, po, none⟩) l.length vc, .slice (some ⟨sb, so, none⟩) set.length sc, .int .i64 (j : Int), .pointer (some ⟨sb, so + j, none⟩), .int .i64 (p : Int), .pointer (some ⟨pb, po + p * 6, none⟩), .agg #[.string P2.name, .int .i64 P2.ver, .int .i64 P2.size, .slice b1 P2.deps.length e1, .slice b2 P2.pres.length e2, .slice b3 P2.bans.length e3], .slice (some ⟨rb, ro, none⟩) P.length d2, .int .i64 (k : Int), .int .i64 (k : Int), .int .i64 ((k + 1 : Nat) : Int), .slice (some ⟨rb, ro + k * 3, none⟩) 1 (d2 - k), .bool false, .bool false, undef, undef, undef, undef, undef, undef, undef, undef, undef, undef, undef, undef, undef, .bool false, .bool false] (C0 wx) (by kernel_rfl) (by kernel_rfl) (by kernel_rfl) (by kernel_rfl) (by kernel_rfl) (by kernel_rfl) ⟨(Below.refl _ _).drew⟩ ?_ ?_ ?_
                    · intro full hfull i oo hi hns ho x fl us hC hb
                      simp [putAll, slotOf, Act.put] at hfull
                      subst hfull
                      have bx := hC.below
                      rw [← bx.cell (p := ⟨w1.heap.size, _, none⟩) hlx] at X0 X1
                      rw [← bx.cell (p := ⟨w1.heap.size + 1, _, none⟩) hlx1] at Y0 Y1 Y2
                      rw [← bx.cell (p := ⟨sb, _, none⟩) hsw] at s0
                      rw [← bx.cell (p := ⟨pb, _, none⟩) hpw] at f0 f1 f2 f3 f4 f5
                      have hC0 := hC.on (b' := fl) (Below.refl _ _)
                      match i with
                      | 0 => simp at ho; subst ho; simp [gwp, Region.wanted, yielded]; first | exact hC0 | (go_simp; first | done | exact hC0 | exact ⟨rfl, hC0⟩ | (simp; exact hC0) | rfl | (intro h; omega) | (simp; omega))
                      | 1 => simp at ho; subst ho; simp [gwp, Region.wanted, yielded]; first | exact hC0 | (go_simp; first | done | exact hC0 | exact ⟨rfl, hC0⟩ | (simp; exact hC0) | rfl | (intro h; omega) | (simp; omega))
                      | 2 => simp at ho; subst ho; simp [gwp, Region.wanted, yielded]; first | exact hC0 | (go_simp; first | done | exact hC0 | exact ⟨rfl, hC0⟩ | (simp; exact hC0) | rfl | (intro h; omega) | (simp; omega))
                      | 3 => simp at ho; subst ho; simp [gwp, Region.wanted, yielded]; first | exact hC0 | (go_simp; first | done | exact hC0 | exact ⟨rfl, hC0⟩ | (simp; exact hC0) | rfl | (intro h; omega) | (simp; omega))
                      | 4 => simp at ho; subst ho; simp [gwp, Region.wanted, yielded]; first | exact hC0 | (go_simp; first | done | exact hC0 | exact ⟨rfl, hC0⟩ | (simp; exact hC0) | rfl | (intro h; omega) | (simp; omega))
                      | 5 => simp at ho; subst ho; simp [gwp, Region.wanted, yielded]; first | exact hC0 | (go_simp; first | done | exact hC0 | exact ⟨rfl, hC0⟩ | (simp; exact hC0) | rfl | (intro h; omega) | (simp; omega))
                      | 6 => simp at ho; subst ho; simp [gwp, Region.wanted, yielded]; first | exact hC0 | (go_simp; first | done | exact hC0 | exact ⟨rfl, hC0⟩ | (simp; exact hC0) | rfl | (intro h; omega) | (simp; omega))
                      | 7 => simp at ho; subst ho; simp [gwp, Region.wanted, yielded]; first | exact hC0 | (go_simp; first | done | exact hC0 | exact ⟨rfl, hC0⟩ | (simp; exact hC0) | rfl | (intro h; omega) | (simp; omega))
                      | 8 => simp at ho; subst ho; simp [gwp, Region.wanted, yielded]; first | exact hC0 | (go_simp; first | done | exact hC0 | exact ⟨rfl, hC0⟩ | (simp; exact hC0) | rfl | (intro h; omega) | (simp; omega))
                      | 9 => simp at ho; subst ho; simp [gwp, Region.wanted, yielded]; first | exact hC0 | (go_simp; first | done | exact hC0 | exact ⟨rfl, hC0⟩ | (simp; exact hC0) | rfl | (intro h; omega) | (simp; omega))
                      | 10 => simp at ho; subst ho; simp [gwp, Region.wanted, yielded]; first | exact hC0 | (go_simp; first | done | exact hC0 | exact ⟨rfl, hC0⟩ | (simp; exact hC0) | rfl | (intro h; omega) | (simp; omega))
                      | 11 => simp at ho; subst ho; simp [gwp, Region.wanted, yielded]; first | exact hC0 | (go_simp; first | done | exact hC0 | exact ⟨rfl, hC0⟩ | (simp; exact hC0) | rfl | (intro h; omega) | (simp; omega))
                      | 12 => simp at ho; subst ho; simp [gwp, Region.wanted, yielded]; first | exact hC0 | (go_simp; first | done | exact hC0 | exact ⟨rfl, hC0⟩ | (simp; exact hC0) | rfl | (intro h; omega) | (simp; omega))
                      | 13 => simp at ho; subst ho; simp [gwp, Region.wanted, yielded]; first | exact hC0 | (go_simp; first | done | exact hC0 | exact ⟨rfl, hC0⟩ | (simp; exact hC0) | rfl | (intro h; omega) | (simp; omega))
                      | 14 => simp at ho; subst ho; simp [gwp, Region.wanted, yielded]; first | exact hC0 | (go_simp; first | done | exact hC0 | exact ⟨rfl, hC0⟩ | (simp; exact hC0) | rfl | (intro h; omega) | (simp; omega))
                      | 15 =>
                        simp at ho; subst ho; simp [gwp, Region.wanted, yielded]; go_simp
                        refine (unhide HFT x bx).mono ?_
                        rintro e w' ⟨rfl, hb2⟩
                        go_simp
                        first | done | exact hC.on hb2 | exact ⟨rfl, hC.on hb2⟩ | (simp; exact hC.on hb2)
                      | 16 => simp at ho; subst ho; simp [gwp, Region.wanted, yielded]; first | exact hC0 | (go_simp; first | done | exact hC0 | exact ⟨rfl, hC0⟩ | (simp; exact hC0) | rfl | (intro h; omega) | (simp; omega))
                      | 17 => simp at ho; subst ho; simp [gwp, Region.wanted, yielded]; first | exact hC0 | (go_simp; first | done | exact hC0 | exact ⟨rfl, hC0⟩ | (simp; exact hC0) | rfl | (intro h; omega) | (simp; omega))
                      | 18 => simp at ho; subst ho; simp [gwp, Region.wanted, yielded]; first | exact hC0 | (go_simp; first | done | exact hC0 | exact ⟨rfl, hC0⟩ | (simp; exact hC0) | rfl | (intro h; omega) | (simp; omega))
                      | 19 => simp at ho; subst ho; simp [gwp, Region.wanted, yielded]; first | exact hC0 | (go_simp; first | done | exact hC0 | exact ⟨rfl, hC0⟩ | (simp; exact hC0) | rfl | (intro h; omega) | (simp; omega))
                      | 20 => simp at ho; subst ho; simp [gwp, Region.wanted, yielded]; first | exact hC0 | (go_simp; first | done | exact hC0 | exact ⟨rfl, hC0⟩ | (simp; exact hC0) | rfl | (intro h; omega) | (simp; omega))
                      | 21 => simp at ho; subst ho; simp [gwp, Region.wanted, yielded]; first | exact hC0 | (go_simp; first | done | exact hC0 | exact ⟨rfl, hC0⟩ | (simp; exact hC0) | rfl | (intro h; omega) | (simp; omega))
                      | 22 => simp at ho; subst ho; simp [gwp, Region.wanted, yielded]; first | exact hC0 | (go_simp; first | done | exact hC0 | exact ⟨rfl, hC0⟩ | (simp; exact hC0) | rfl | (intro h; omega) | (simp; omega))
                      | 23 => simp at ho; subst ho; simp [gwp, Region.wanted, yielded]; first | exact hC0 | (go_simp; first | done | exact hC0 | exact ⟨rfl, hC0⟩ | (simp; exact hC0) | rfl | (intro h; omega) | (simp; omega))
                      | 24 => simp at ho; subst ho; simp [gwp, Region.wanted, yielded]; first | exact hC0 | (go_simp; first | done | exact hC0 | exact ⟨rfl, hC0⟩ | (simp; exact hC0) | rfl | (intro h; omega) | (simp; omega))
                      | 25 => simp at ho; subst ho; simp [gwp, Region.wanted, yielded]; first | exact hC0 | (go_simp; first | done | exact hC0 | exact ⟨rfl, hC0⟩ | (simp; exact hC0) | rfl | (intro h; omega) | (simp; omega))
                      | 26 => simp at ho; subst ho; simp [gwp, Region.wanted, yielded]; first | exact hC0 | (go_simp; first | done | exact hC0 | exact ⟨rfl, hC0⟩ | (simp; exact hC0) | rfl | (intro h; omega) | (simp; omega))
                      | 27 => simp at ho; subst ho; simp [gwp, Region.wanted, yielded]; first | exact hC0 | (go_simp; first | done | exact hC0 | exact ⟨rfl, hC0⟩ | (simp; exact hC0) | rfl | (intro h; omega) | (simp; omega))
                      | 28 => simp at ho; subst ho; simp [gwp, Region.wanted, yielded]; first | exact hC0 | (go_simp; first | done | exact hC0 | exact ⟨rfl, hC0⟩ | (simp; exact hC0) | rfl | (intro h; omega) | (simp; omega))
                      | 29 => simp at ho; subst ho; simp [gwp, Region.wanted, yielded]; first | exact hC0 | (go_simp; first | done | exact hC0 | exact ⟨rfl, hC0⟩ | (simp; exact hC0) | rfl | (intro h; omega) | (simp; omega))
                      | 30 => simp at ho; subst ho; simp [gwp, Region.wanted, yielded]; first | exact hC0 | (go_simp; first | done | exact hC0 | exact ⟨rfl, hC0⟩ | (simp; exact hC0) | rfl | (intro h; omega) | (simp; omega))
                      | 31 => simp at ho; subst ho; simp [gwp, Region.wanted, yielded]; first | exact hC0 | (go_simp; first | done | exact hC0 | exact ⟨rfl, hC0⟩ | (simp; exact hC0) | rfl | (intro h; omega) | (simp; omega))
                      | i + 32 => omega
                    · intro full hfull us j hj
                      simp at hj
                    · intro full hfull us wz hus hC
                      simp [putAll, slotOf, Act.put] at hfull
                      subst hfull
                      match us, hus with
                      | [], _ =>
                      have bz := hC.below
                      clear hC
                      simp [putP]
                      have HB6 := hide ((unhide HBX).trans (bz.mono (unhide HBX).size))
                      clear bz HBX
                      go_wp2_with fail
                      go_roundw
                      case rel => exact ⟨j + 1, by omega, by go_num, by rw [unhide HNX], HB6⟩
                      case measure => simp [intOf]; omega
                  | true =>
                    by_cases hzo : (p : Int) = s.out
                    · have HNX := hide (show _ = false from (unhide HSX).trans (by simp [hzo]))
                      have hzb : ((p : Int) == s.out) = true := by simpa using hzo
                      clear HSX hzo
                      go_upto_region 16 with fail
                      refine wp_region_mixL (k := 100) 32 [] [.bool false, .bool false, .pointer (some ⟨w1.heap.size, 0, none⟩), .slice (some ⟨pb, po, none⟩) l.length vc, .slice (some ⟨sb, so, none⟩) set.length sc, .int .i64 (j : Int), .pointer (some ⟨sb, so + j, none⟩), .int .i64 (p : Int), .pointer (some ⟨pb, po + p * 6, none⟩), .agg #[.string P2.name, .int .i64 P2.ver, .int .i64 P2.size, .slice b1 P2.deps.length e1, .slice b2 P2.pres.length e2, .slice b3 P2.bans.length e3], .slice (some ⟨rb, ro, none⟩) P.length d2, .int .i64 (k : Int), .int .i64 (k : Int), .int .i64 ((k + 1 : Nat) : Int), .slice (some ⟨rb, ro + k * 3, none⟩) 1 (d2 - k), .bool true, .bool true, .pointer (some ⟨w1.heap.size + 1, 0, none⟩), .int .i64 3, .bool true, .bool true, .slice (some ⟨sb, so, none⟩) set.length sc, .int .i64 (j : Int), .pointer (some ⟨sb, so + j, none⟩), .int .i64 (p : Int), .pointer (some ⟨w1.heap.size + 1, 2, none⟩), .int .i64 s.out, .bool true, .bool true, .bool false, .bool false, .bool false] (C0 wx) (by kernel_rfl) (by kernel_rfl) (by kernel_rfl) (by kernel_rfl) (by kernel_rfl) (by kernel_rfl) ⟨(Below.refl _ _).drew⟩ ?_ ?_ ?_
                      · intro full hfull i oo hi hns ho x fl us hC hb
                        simp [putAll, slotOf, Act.put] at hfull
                        subst hfull
                        have bx := hC.below
                        rw [← bx.cell (p := ⟨w1.heap.size, _, none⟩) hlx] at X0 X1
                        rw [← bx.cell (p := ⟨w1.heap.size + 1, _, none⟩) hlx1] at Y0 Y1 Y2
                        rw [← bx.cell (p := ⟨sb, _, none⟩) hsw] at s0
                        rw [← bx.cell (p := ⟨pb, _, none⟩) hpw] at f0 f1 f2 f3 f4 f5
                        have hC0 := hC.on (b' := fl) (Below.refl _ _)
                        match i with
                        | 0 => simp at ho; subst ho; simp [gwp, Region.wanted, yielded]; first | exact hC0 | (go_simp; first | done | exact hC0 | exact ⟨rfl, hC0⟩ | (simp; exact hC0) | rfl | (intro h; omega) | (simp; omega))
                        | 1 => simp at ho; subst ho; simp [gwp, Region.wanted, yielded]; first | exact hC0 | (go_simp; first | done | exact hC0 | exact ⟨rfl, hC0⟩ | (simp; exact hC0) | rfl | (intro h; omega) | (simp; omega))
                        | 2 => simp at ho; subst ho; simp [gwp, Region.wanted, yielded]; first | exact hC0 | (go_simp; first | done | exact hC0 | exact ⟨rfl, hC0⟩ | (simp; exact hC0) | rfl | (intro h; omega) | (simp; omega))
                        | 3 => simp at ho; subst ho; simp [gwp, Region.wanted, yielded]; first | exact hC0 | (go_simp; first | done | exact hC0 | exact ⟨rfl, hC0⟩ | (simp; exact hC0) | rfl | (intro h; omega) | (simp; omega))
                        | 4 => simp at ho; subst ho; simp [gwp, Region.wanted, yielded]; first | exact hC0 | (go_simp; first | done | exact hC0 | exact ⟨rfl, hC0⟩ | (simp; exact hC0) | rfl | (intro h; omega) | (simp; omega))
                        | 5 => simp at ho; subst ho; simp [gwp, Region.wanted, yielded]; first | exact hC0 | (go_simp; first | done | exact hC0 | exact ⟨rfl, hC0⟩ | (simp; exact hC0) | rfl | (intro h; omega) | (simp; omega))
                        | 6 => simp at ho; subst ho; simp [gwp, Region.wanted, yielded]; first | exact hC0 | (go_simp; first | done | exact hC0 | exact ⟨rfl, hC0⟩ | (simp; exact hC0) | rfl | (intro h; omega) | (simp; omega))
                        | 7 => simp at ho; subst ho; simp [gwp, Region.wanted, yielded]; first | exact hC0 | (go_simp; first | done | exact hC0 | exact ⟨rfl, hC0⟩ | (simp; exact hC0) | rfl | (intro h; omega) | (simp; omega))
                        | 8 => simp at ho; subst ho; simp [gwp, Region.wanted, yielded]; first | exact hC0 | (go_simp; first | done | exact hC0 | exact ⟨rfl, hC0⟩ | (simp; exact hC0) | rfl | (intro h; omega) | (simp; omega))
                        | 9 => simp at ho; subst ho; simp [gwp, Region.wanted, yielded]; first | exact hC0 | (go_simp; first | done | exact hC0 | exact ⟨rfl, hC0⟩ | (simp; exact hC0) | rfl | (intro h; omega) | (simp; omega))
                        | 10 => simp at ho; subst ho; simp [gwp, Region.wanted, yielded]; first | exact hC0 | (go_simp; first | done | exact hC0 | exact ⟨rfl, hC0⟩ | (simp; exact hC0) | rfl | (intro h; omega) | (simp; omega))
                        | 11 => simp at ho; subst ho; simp [gwp, Region.wanted, yielded]; first | exact hC0 | (go_simp; first | done | exact hC0 | exact ⟨rfl, hC0⟩ | (simp; exact hC0) | rfl | (intro h; omega) | (simp; omega))
                        | 12 => simp at ho; subst ho; simp [gwp, Region.wanted, yielded]; first | exact hC0 | (go_simp; first | done | exact hC0 | exact ⟨rfl, hC0⟩ | (simp; exact hC0) | rfl | (intro h; omega) | (simp; omega))
                        | 13 => simp at ho; subst ho; simp [gwp, Region.wanted, yielded]; first | exact hC0 | (go_simp; first | done | exact hC0 | exact ⟨rfl, hC0⟩ | (simp; exact hC0) | rfl | (intro h; omega) | (simp; omega))
                        | 14 => simp at ho; subst ho; simp [gwp, Region.wanted, yielded]; first | exact hC0 | (go_simp; first | done | exact hC0 | exact ⟨rfl, hC0⟩ | (simp; exact hC0) | rfl | (intro h; omega) | (simp; omega))
                        | 15 =>
                          simp at ho; subst ho; simp [gwp, Region.wanted, yielded]; go_simp
                          refine (unhide HFT x bx).mono ?_
                          rintro e w' ⟨rfl, hb2⟩
                          go_simp
                          first | done | exact hC.on hb2 | exact ⟨rfl, hC.on hb2⟩ | (simp; exact hC.on hb2)
                        | 16 => simp at ho; subst ho; simp [gwp, Region.wanted, yielded]; first | exact hC0 | (go_simp; first | done | exact hC0 | exact ⟨rfl, hC0⟩ | (simp; exact hC0) | rfl | (intro h; omega) | (simp; omega))
                        | 17 => simp at ho; subst ho; simp [gwp, Region.wanted, yielded]; first | exact hC0 | (go_simp; first | done | exact hC0 | exact ⟨rfl, hC0⟩ | (simp; exact hC0) | rfl | (intro h; omega) | (simp; omega))
                        | 18 => simp at ho; subst ho; simp [gwp, Region.wanted, yielded]; first | exact hC0 | (go_simp; first | done | exact hC0 | exact ⟨rfl, hC0⟩ | (simp; exact hC0) | rfl | (intro h; omega) | (simp; omega))
                        | 19 => simp at ho; subst ho; simp [gwp, Region.wanted, yielded]; first | exact hC0 | (go_simp; first | done | exact hC0 | exact ⟨rfl, hC0⟩ | (simp; exact hC0) | rfl | (intro h; omega) | (simp; omega))
                        | 20 => simp at ho; subst ho; simp [gwp, Region.wanted, yielded]; first | exact hC0 | (go_simp; first | done | exact hC0 | exact ⟨rfl, hC0⟩ | (simp; exact hC0) | rfl | (intro h; omega) | (simp; omega))
                        | 21 => simp at ho; subst ho; simp [gwp, Region.wanted, yielded]; first | exact hC0 | (go_simp; first | done | exact hC0 | exact ⟨rfl, hC0⟩ | (simp; exact hC0) | rfl | (intro h; omega) | (simp; omega))
                        | 22 => simp at ho; subst ho; simp [gwp, Region.wanted, yielded]; first | exact hC0 | (go_simp; first | done | exact hC0 | exact ⟨rfl, hC0⟩ | (simp; exact hC0) | rfl | (intro h; omega) | (simp; omega))
                        | 23 => simp at ho; subst ho; simp [gwp, Region.wanted, yielded]; first | exact hC0 | (go_simp; first | done | exact hC0 | exact ⟨rfl, hC0⟩ | (simp; exact hC0) | rfl | (intro h; omega) | (simp; omega))
                        | 24 => simp at ho; subst ho; simp [gwp, Region.wanted, yielded]; first | exact hC0 | (go_simp; first | done | exact hC0 | exact ⟨rfl, hC0⟩ | (simp; exact hC0) | rfl | (intro h; omega) | (simp; omega))
                        | 25 => simp at ho; subst ho; simp [gwp, Region.wanted, yielded]; first | exact hC0 | (go_simp; first | done | exact hC0 | exact ⟨rfl, hC0⟩ | (simp; exact hC0) | rfl | (intro h; omega) | (simp; omega))
                        | 26 => simp at ho; subst ho; simp [gwp, Region.wanted, yielded]; first | exact hC0 | (go_simp; first | done | exact hC0 | exact ⟨rfl, hC0⟩ | (simp; exact hC0) | rfl | (intro h; omega) | (simp; omega))
                        | 27 => simp at ho; subst ho; simp [gwp, Region.wanted, yielded]; first | exact hC0 | (go_simp; first | done | exact hC0 | exact ⟨rfl, hC0⟩ | (simp; exact hC0) | rfl | (intro h; omega) | (simp; omega))
                        | 28 => simp at ho; subst ho; simp [gwp, Region.wanted, yielded]; first | exact hC0 | (go_simp; first | done | exact hC0 | exact ⟨rfl, hC0⟩ | (simp; exact hC0) | rfl | (intro h; omega) | (simp; omega))
                        | 29 => simp at ho; subst ho; simp [gwp, Region.wanted, yielded]; first | exact hC0 | (go_simp; first | done | exact hC0 | exact ⟨rfl, hC0⟩ | (simp; exact hC0) | rfl | (intro h; omega) | (simp; omega))
                        | 30 => simp at ho; subst ho; simp [gwp, Region.wanted, yielded]; first | exact hC0 | (go_simp; first | done | exact hC0 | exact ⟨rfl, hC0⟩ | (simp; exact hC0) | rfl | (intro h; omega) | (simp; omega))
                        | 31 => simp at ho; subst ho; simp [gwp, Region.wanted, yielded]; first | exact hC0 | (go_simp; first | done | exact hC0 | exact ⟨rfl, hC0⟩ | (simp; exact hC0) | rfl | (intro h; omega) | (simp; omega))
                        | i + 32 => omega
                      · intro full hfull us j hj
                        simp at hj
                      · intro full hfull us wz hus hC
                        simp [putAll, slotOf, Act.put] at hfull
                        subst hfull
                        match us, hus with
                        | [], _ =>
                        have bz := hC.below
                        clear hC
                        simp [putP]
                        have HB6 := hide ((unhide HBX).trans (bz.mono (unhide HBX).size))
                        clear bz HBX
                        go_wp2_with fail
                        go_roundw
                        case rel => exact ⟨j + 1, by omega, by go_num, by rw [unhide HNX], HB6⟩
                        case measure => simp [intOf]; omega
                    · have HNX := hide (show _ = true from (unhide HSX).trans (by simp [hzo]))
                      have hzb : ((p : Int) == s.out) = false := by simpa using hzo
                      clear HSX hzo
                      go_upto_region 16 with fail
                      refine wp_region_mixL (k := 100) 32 [] [.bool false, .bool false, .pointer (some ⟨w1.heap.size, 0, none⟩), .slice (some ⟨pb, po, none⟩) l.length vc, .slice (some ⟨sb, so, none⟩) set.length sc, .int .i64 (j : Int), .pointer (some ⟨sb, so + j, none⟩), .int .i64 (p : Int), .pointer (some ⟨pb, po + p * 6, none⟩), .agg #[.string P2.name, .int .i64 P2.ver, .int .i64 P2.size, .slice b1 P2.deps.length e1, .slice b2 P2.pres.length e2, .slice b3 P2.bans.length e3], .slice (some ⟨rb, ro, none⟩) P.length d2, .int .i64 (k : Int), .int .i64 (k : Int), .int .i64 ((k + 1 : Nat) : Int), .slice (some ⟨rb, ro + k * 3, none⟩) 1 (d2 - k), .bool true, .bool true, .pointer (some ⟨w1.heap.size + 1, 0, none⟩), .int .i64 3, .bool true, .bool true, .slice (some ⟨sb, so, none⟩) set.length sc, .int .i64 (j : Int), .pointer (some ⟨sb, so + j, none⟩), .int .i64 (p : Int), .pointer (some ⟨w1.heap.size + 1, 2, none⟩), .int .i64 s.out, .bool false, .bool false, .bool true, .bool true, .bool true] (C0 wx) (by kernel_rfl) (by kernel_rfl) (by kernel_rfl) (by kernel_rfl) (by kernel_rfl) (by kernel_rfl) ⟨(Below.refl _ _).drew⟩ ?_ ?_ ?_
                      · intro full hfull i oo hi hns ho x fl us hC hb
                        simp [putAll, slotOf, Act.put] at hfull
                        subst hfull
                        have bx := hC.below
                        rw [← bx.cell (p := ⟨w1.heap.size, _, none⟩) hlx] at X0 X1
                        rw [← bx.cell (p := ⟨w1.heap.size + 1, _, none⟩) hlx1] at Y0 Y1 Y2
                        rw [← bx.cell (p := ⟨sb, _, none⟩) hsw] at s0
                        rw [← bx.cell (p := ⟨pb, _, none⟩) hpw] at f0 f1 f2 f3 f4 f5
                        have hC0 := hC.on (b' := fl) (Below.refl _ _)
                        match i with
                        | 0 => simp at ho; subst ho; simp [gwp, Region.wanted, yielded]; first | exact hC0 | (go_simp; first | done | exact hC0 | exact ⟨rfl, hC0⟩ | (simp; exact hC0) | rfl | (intro h; omega) | (simp; omega))
                        | 1 => simp at ho; subst ho; simp [gwp, Region.wanted, yielded]; first | exact hC0 | (go_simp; first | done | exact hC0 | exact ⟨rfl, hC0⟩ | (simp; exact hC0) | rfl | (intro h; omega) | (simp; omega))
                        | 2 => simp at ho; subst ho; simp [gwp, Region.wanted, yielded]; first | exact hC0 | (go_simp; first | done | exact hC0 | exact ⟨rfl, hC0⟩ | (simp; exact hC0) | rfl | (intro h; omega) | (simp; omega))
                        | 3 => simp at ho; subst ho; simp [gwp, Region.wanted, yielded]; first | exact hC0 | (go_simp; first | done | exact hC0 | exact ⟨rfl, hC0⟩ | (simp; exact hC0) | rfl | (intro h; omega) | (simp; omega))
                        | 4 => simp at ho; subst ho; simp [gwp, Region.wanted, yielded]; first | exact hC0 | (go_simp; first | done | exact hC0 | exact ⟨rfl, hC0⟩ | (simp; exact hC0) | rfl | (intro h; omega) | (simp; omega))
                        | 5 => simp at ho; subst ho; simp [gwp, Region.wanted, yielded]; first | exact hC0 | (go_simp; first | done | exact hC0 | exact ⟨rfl, hC0⟩ | (simp; exact hC0) | rfl | (intro h; omega) | (simp; omega))
                        | 6 => simp at ho; subst ho; simp [gwp, Region.wanted, yielded]; first | exact hC0 | (go_simp; first | done | exact hC0 | exact ⟨rfl, hC0⟩ | (simp; exact hC0) | rfl | (intro h; omega) | (simp; omega))
                        | 7 => simp at ho; subst ho; simp [gwp, Region.wanted, yielded]; first | exact hC0 | (go_simp; first | done | exact hC0 | exact ⟨rfl, hC0⟩ | (simp; exact hC0) | rfl | (intro h; omega) | (simp; omega))
                        | 8 => simp at ho; subst ho; simp [gwp, Region.wanted, yielded]; first | exact hC0 | (go_simp; first | done | exact hC0 | exact ⟨rfl, hC0⟩ | (simp; exact hC0) | rfl | (intro h; omega) | (simp; omega))
                        | 9 => simp at ho; subst ho; simp [gwp, Region.wanted, yielded]; first | exact hC0 | (go_simp; first | done | exact hC0 | exact ⟨rfl, hC0⟩ | (simp; exact hC0) | rfl | (intro h; omega) | (simp; omega))
                        | 10 => simp at ho; subst ho; simp [gwp, Region.wanted, yielded]; first | exact hC0 | (go_simp; first | done | exact hC0 | exact ⟨rfl, hC0⟩ | (simp; exact hC0) | rfl | (intro h; omega) | (simp; omega))
                        | 11 => simp at ho; subst ho; simp [gwp, Region.wanted, yielded]; first | exact hC0 | (go_simp; first | done | exact hC0 | exact ⟨rfl, hC0⟩ | (simp; exact hC0) | rfl | (intro h; omega) | (simp; omega))
                        | 12 => simp at ho; subst ho; simp [gwp, Region.wanted, yielded]; first | exact hC0 | (go_simp; first | done | exact hC0 | exact ⟨rfl, hC0⟩ | (simp; exact hC0) | rfl | (intro h; omega) | (simp; omega))
                        | 13 => simp at ho; subst ho; simp [gwp, Region.wanted, yielded]; first | exact hC0 | (go_simp; first | done | exact hC0 | exact ⟨rfl, hC0⟩ | (simp; exact hC0) | rfl | (intro h; omega) | (simp; omega))
                        | 14 => simp at ho; subst ho; simp [gwp, Region.wanted, yielded]; first | exact hC0 | (go_simp; first | done | exact hC0 | exact ⟨rfl, hC0⟩ | (simp; exact hC0) | rfl | (intro h; omega) | (simp; omega))
                        | 15 =>
                          simp at ho; subst ho; simp [gwp, Region.wanted, yielded]; go_simp
                          refine (unhide HFT x bx).mono ?_
                          rintro e w' ⟨rfl, hb2⟩
                          go_simp
                          first | done | exact hC.on hb2 | exact ⟨rfl, hC.on hb2⟩ | (simp; exact hC.on hb2)
                        | 16 => simp at ho; subst ho; simp [gwp, Region.wanted, yielded]; first | exact hC0 | (go_simp; first | done | exact hC0 | exact ⟨rfl, hC0⟩ | (simp; exact hC0) | rfl | (intro h; omega) | (simp; omega))
                        | 17 => simp at ho; subst ho; simp [gwp, Region.wanted, yielded]; first | exact hC0 | (go_simp; first | done | exact hC0 | exact ⟨rfl, hC0⟩ | (simp; exact hC0) | rfl | (intro h; omega) | (simp; omega))
                        | 18 => simp at ho; subst ho; simp [gwp, Region.wanted, yielded]; first | exact hC0 | (go_simp; first | done | exact hC0 | exact ⟨rfl, hC0⟩ | (simp; exact hC0) | rfl | (intro h; omega) | (simp; omega))
                        | 19 => simp at ho; subst ho; simp [gwp, Region.wanted, yielded]; first | exact hC0 | (go_simp; first | done | exact hC0 | exact ⟨rfl, hC0⟩ | (simp; exact hC0) | rfl | (intro h; omega) | (simp; omega))
                        | 20 => simp at ho; subst ho; simp [gwp, Region.wanted, yielded]; first | exact hC0 | (go_simp; first | done | exact hC0 | exact ⟨rfl, hC0⟩ | (simp; exact hC0) | rfl | (intro h; omega) | (simp; omega))
                        | 21 => simp at ho; subst ho; simp [gwp, Region.wanted, yielded]; first | exact hC0 | (go_simp; first | done | exact hC0 | exact ⟨rfl, hC0⟩ | (simp; exact hC0) | rfl | (intro h; omega) | (simp; omega))
                        | 22 => simp at ho; subst ho; simp [gwp, Region.wanted, yielded]; first | exact hC0 | (go_simp; first | done | exact hC0 | exact ⟨rfl, hC0⟩ | (simp; exact hC0) | rfl | (intro h; omega) | (simp; omega))
                        | 23 => simp at ho; subst ho; simp [gwp, Region.wanted, yielded]; first | exact hC0 | (go_simp; first | done | exact hC0 | exact ⟨rfl, hC0⟩ | (simp; exact hC0) | rfl | (intro h; omega) | (simp; omega))
                        | 24 => simp at ho; subst ho; simp [gwp, Region.wanted, yielded]; first | exact hC0 | (go_simp; first | done | exact hC0 | exact ⟨rfl, hC0⟩ | (simp; exact hC0) | rfl | (intro h; omega) | (simp; omega))
                        | 25 => simp at ho; subst ho; simp [gwp, Region.wanted, yielded]; first | exact hC0 | (go_simp; first | done | exact hC0 | exact ⟨rfl, hC0⟩ | (simp; exact hC0) | rfl | (intro h; omega) | (simp; omega))
                        | 26 => simp at ho; subst ho; simp [gwp, Region.wanted, yielded]; first | exact hC0 | (go_simp; first | done | exact hC0 | exact ⟨rfl, hC0⟩ | (simp; exact hC0) | rfl | (intro h; omega) | (simp; omega))
                        | 27 => simp at ho; subst ho; simp [gwp, Region.wanted, yielded]; first | exact hC0 | (go_simp; first | done | exact hC0 | exact ⟨rfl, hC0⟩ | (simp; exact hC0) | rfl | (intro h; omega) | (simp; omega))
                        | 28 => simp at ho; subst ho; simp [gwp, Region.wanted, yielded]; first | exact hC0 | (go_simp; first | done | exact hC0 | exact ⟨rfl, hC0⟩ | (simp; exact hC0) | rfl | (intro h; omega) | (simp; omega))
                        | 29 => simp at ho; subst ho; simp [gwp, Region.wanted, yielded]; first | exact hC0 | (go_simp; first | done | exact hC0 | exact ⟨rfl, hC0⟩ | (simp; exact hC0) | rfl | (intro h; omega) | (simp; omega))
                        | 30 => simp at ho; subst ho; simp [gwp, Region.wanted, yielded]; first | exact hC0 | (go_simp; first | done | exact hC0 | exact ⟨rfl, hC0⟩ | (simp; exact hC0) | rfl | (intro h; omega) | (simp; omega))
                        | 31 => simp at ho; subst ho; simp [gwp, Region.wanted, yielded]; first | exact hC0 | (go_simp; first | done | exact hC0 | exact ⟨rfl, hC0⟩ | (simp; exact hC0) | rfl | (intro h; omega) | (simp; omega))
                        | i + 32 => omega
                      · intro full hfull us j hj
                        simp at hj
                      · intro full hfull us wz hus hC
                        simp [putAll, slotOf, Act.put] at hfull
                        subst hfull
                        match us, hus with
                        | [], _ =>
                        have bz := hC.below
                        clear hC
                        simp [putP]
                        have HB6 := hide ((unhide HBX).trans (bz.mono (unhide HBX).size))
                        clear bz HBX
                        go_wp2_with fail
                        go_roundw
                        case rel => exact ⟨j + 1, by omega, by go_num, by rw [unhide HNX], HB6⟩
                        case measure => simp [intOf]; omega
              · have j2 : ¬ (j : Int) < (set.length : Int) := by omega
                have hje : j = set.length := by omega
                subst hje
                rw [unhide HQ]
                go_wp2_with fail
                go_roundw
                case rel => exact ⟨k + 1, by omega, by go_num, HBX⟩
                case measure => simp [intOf]; omega
          · have j1 : ¬ (k : Int) < (P.length : Int) := by omega
            have HB7 := hide ((unhide HB5).trans ((unhide HBO).mono (unhide HB5).size))
            go_wp2_with fail
            go_ret
            exact ⟨by simp, unhide HB7⟩
end Go.Proofs.Ythkhaemlcmkkjad
