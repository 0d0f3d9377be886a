/- The walk of the law FnStateBan: of every code it answers true, and writes nothing that was there. -/
import Derived.Test.YtnegiggafgfmkabGDrawT
import Derived.Test.YtnegiggafgfmkabGLd
import Derived.Test.YtnegiggafgfmkabLdFits
namespace Go.Proofs.Ytnegiggafgfmkab
set_option linter.unusedVariables false
set_option linter.unusedSimpArgs false
open Go.RowKit Go.Deep

set_option maxRecDepth 100000 in
set_option maxHeartbeats 8000000 in
theorem ban_any (a : Option Addr) (n c : Nat) (w : World) (h : CodeAt w.heap.size w a n) (hc : n ≤ c) (hc2 : c ≤ maxLen) :
    Calls Try.prog 8 #[.slice a n c] w fun e w' => e = .returned (.bool true) ∧ Below w.heap.size w w' := by
  have hmx := hc2
  unfold maxLen at hmx
  by_cases hbig : 1048576 < n
  · have hb' : (1048576 : Int) < (n : Int) := by omega
    go_enter Try.func8, Try.ntmps8
    go_wp2_with fail
    go_ret
    exact ⟨rfl, Below.refl _ _⟩
  have hb' : ¬ (1048576 : Int) < (n : Int) := by omega
  go_enter Try.func8, Try.ntmps8
  go_wp2_with fail
  refine (DrawStateOk_V a n c w h (by omega) hc hc2).mono ?_
  rintro e w1 ⟨⟨v, room, u, rfl, hV, set, hrow, hsl⟩, b1⟩
  obtain ⟨va, vn, vc, rfl, _⟩ := SlBy.slice hV
  obtain ⟨l, rfl, hP⟩ := V2.packs hV
  obtain ⟨sa, sc, hu, hset⟩ := RowI.set hrow (by omega)
  subst hu
  have HP1 := hide hP
  have HS1 := hide hset
  have HB1 := hide b1
  clear hV hrow hP hset b1 h
  go_upto_region 4 with fail
  obtain ⟨w2, hw2⟩ : ∃ w2, w2 = w1.alloc (.cells #[.slice va l.length vc, .int .i64 room] 25) := ⟨_, rfl⟩
  rw [← hw2]
  have b2 : Below w1.heap.size w1 w2 := by rw [hw2]; exact (Below.refl _ _).alloc (Nat.le_refl _) _
  have x0 : w2.cell? ⟨w1.heap.size, 0, none⟩ = some (.slice va l.length vc) := by rw [hw2]; simp
  have x1 : w2.cell? ⟨w1.heap.size, 1, none⟩ = some (.int .i64 room) := by rw [hw2]; simp
  have hlt2 : w1.heap.size < w2.heap.size := by rw [hw2]; simp
  have HP2 := hide ((unhide HP1).on b2)
  have HS2 := hide ((unhide HS1).on b2)
  have HB2 := hide ((unhide HB1).trans (b2.mono (unhide HB1).size))
  clear hw2 b2 HP1 HS1 HB1
  go_wp2_with fail
  refine (implStateOk_any va l vc room sa set sc w2 (unhide HP2) (unhide HS2)).mono ?_
  rintro e w3 ⟨rfl, b3⟩
  have HP3 := hide ((unhide HP2).on b3)
  have HS3 := hide ((unhide HS2).on b3)
  have HB3 := hide ((unhide HB2).trans (b3.mono (unhide HB2).size))
  have hlt3 : w1.heap.size < w3.heap.size := Nat.lt_of_lt_of_le hlt2 b3.size
  rw [← b3.cell (p := ⟨w1.heap.size, _, none⟩) hlt2] at x0 x1
  clear HP2 HS2 HB2 b3 hlt2
  go_wp2_with fail
  refine (specStateOk_any va l vc room sa set sc w3 (unhide HP3) (unhide HS3)).mono ?_
  rintro e w4 ⟨rfl, b4⟩
  have HP4 := hide ((unhide HP3).on b4)
  have HS4 := hide ((unhide HS3).on b4)
  have HB4 := hide ((unhide HB3).trans (b4.mono (unhide HB3).size))
  have hlt4 : w1.heap.size < w4.heap.size := Nat.lt_of_lt_of_le hlt3 b4.size
  rw [← b4.cell (p := ⟨w1.heap.size, _, none⟩) hlt3] at x0 x1
  clear HP3 HS3 HB3 b4 hlt3
  cases hok : okZ l room set with
  | false =>
    clear hok
    go_wp2_with fail
    go_loopw [6] (fun i wr => i = .int .i64 0 ∧ wr = w4) (fun _ _ => 0)
    case atStart => exact ⟨rfl, rfl⟩
    case round =>
      rename World => wo
      obtain ⟨rfl, rfl⟩ := hrel
      by_cases hlt : 0 < set.length
      · have j1 : (0 : Int) < (set.length : Int) := by omega
        go_wp2_with fail
        go_ret
        exact ⟨rfl, unhide HB4⟩
      · have j1 : ¬ (0 : Int) < (set.length : Int) := by omega
        go_wp2_with fail
        go_ret
        exact ⟨rfl, unhide HB4⟩
  | true =>
    have HOK := hide hok
    clear hok
    go_wp2_with fail
    go_loopw [6] (fun i wr => ∃ k : Nat, k ≤ set.length ∧ i = .int .i64 k ∧ Hid (Below w4.heap.size w4 wr)) (fun i _ => set.length - (intOf i).toNat)
    case atStart => exact ⟨0, Nat.zero_le _, rfl, Below.refl _ _⟩
    case round =>
      rename World => wo
      obtain ⟨k, hk, rfl, HW⟩ := hrel
      by_cases hlt : k < set.length
      · have j1 : (k : Int) < (set.length : Int) := by omega
        go_wp2_with fail
        go_loopw [7] (fun i wr => ∃ j : Nat, j ≤ set.length ∧ i = .int .i64 j ∧ Hid (Below w4.heap.size w4 wr)) (fun i _ => set.length - (intOf i).toNat)
        case atStart => exact ⟨0, Nat.zero_le _, rfl, HW⟩
        case round =>
          rename World => wx
          obtain ⟨j, hj, rfl, HX⟩ := hrel
          by_cases hjk : j < set.length
          · have j2 : (j : Int) < (set.length : Int) := by omega
            by_cases hne : k = j
            · subst hne
              have hnb : ((k : Int) != (k : Int)) = false := by simp
              go_wp2_with fail
              go_quiet (fail)
              go_wp2_with fail
              go_roundw
              case rel => exact ⟨k + 1, by omega, by go_num, below_drewN (unhide HX) _⟩
              case measure => simp [intOf]; omega
            · have hnb : ((k : Int) != (j : Int)) = true := by simp; omega
              have hbn := ok_bans (unhide HOK) hlt hjk hne
              have hp1 := form_place (ok_form (unhide HOK)) hlt
              have hp2 := form_place (ok_form (unhide HOK)) hjk
              unfold packOf at hbn
              rcases (unhide HS4).2 with hnil | ⟨sb, so, rfl, hbl, hsc⟩
              · rw [hnil] at hlt; simp at hlt
              have c1 := hsc k hlt
              have c2 := hsc j hjk
              clear hsc
              generalize set.getD k 0 = z1 at c1 hp1 hbn
              generalize set.getD j 0 = z2 at c2 hp2 hbn
              obtain ⟨p1, rfl⟩ : ∃ p : Nat, z1 = (p : Int) := ⟨z1.toNat, by omega⟩
              obtain ⟨p2, rfl⟩ : ∃ p : Nat, z2 = (p : Int) := ⟨z2.toNat, by omega⟩
              simp only [Int.toNat_natCast] at hbn
              have i10 : (0 : Int) ≤ (p1 : Int) := by omega
              have i11 : (p1 : Int) < (l.length : Int) := by omega
              have i20 : (0 : Int) ≤ (p2 : Int) := by omega
              have i21 : (p2 : Int) < (l.length : Int) := by omega
              have jk0 : (0 : Int) ≤ (k : Int) := by omega
              have jj0 : (0 : Int) ≤ (j : Int) := by omega
              have hPx := (unhide HP4).on (unhide HX)
              rcases hPx.2 with hnil | ⟨pb, po, rfl, hpS, hpk⟩
              · rw [hnil] at i11; simp at i11; omega
              obtain ⟨a1, d1, a2, d2, a3, d3, hce1, hpv1⟩ := hpk p1 (by omega)
              obtain ⟨b1, e1, b2, e2, b3, e3, hce2, _⟩ := hpk p2 (by omega)
              have hpw : pb < wx.heap.size := hpS
              have n1 := hce1.bans
              obtain ⟨m0, m1, m2, m3, m4, m5⟩ := hce2
              have hbans := hpv1.bans
              generalize l.getD p1 dPack = P1 at n1 hbn hbans
              generalize l.getD p2 dPack = P2 at m0 m1 m2 m3 m4 m5 hbn
              have X0 := x0
              have X1 := x1
              have hsw : sb < wx.heap.size := Nat.lt_of_lt_of_le hbl (unhide HX).size
              rw [← (unhide HX).cell (p := ⟨w1.heap.size, _, none⟩) hlt4] at X0 X1
              rw [← (unhide HX).cell (p := ⟨sb, _, none⟩) hbl] at c1 c2
              have hlx : w1.heap.size < wx.heap.size := Nat.lt_of_lt_of_le hlt4 (unhide HX).size
              have HCF := hide (fun x (hx : Below wx.heap.size wx x) => ldFits_any P2 b1 e1 b2 e2 b3 e3 a3 P1.bans d3 x (hbans.on hx))
              rw [hbn] at HCF
              clear hpk hce1 hpv1 x0 x1 hp1 hp2 hPx hbans hbn
              go_upto_region 13 with fail
              refine wp_region_mix (k := 100) 22 [] [.int .i64 (k : Int), .int .i64 (j : Int), .bool true, .bool true, .pointer (some ⟨w1.heap.size, 0, none⟩), .slice (some ⟨pb, po, none⟩) l.length vc, .slice (some ⟨sb, so, none⟩) set.length sc, .int .i64 (j : Int), .pointer (some ⟨sb, so + j, none⟩), .int .i64 (p2 : Int), .pointer (some ⟨pb, po + p2 * 6, none⟩), .agg #[.string P2.name, .int .i64 P2.ver, .int .i64 P2.size, .slice b1 P2.deps.length e1, .slice b2 P2.pres.length e2, .slice b3 P2.bans.length e3], .pointer (some ⟨w1.heap.size, 0, none⟩), .slice (some ⟨pb, po, none⟩) l.length vc, .slice (some ⟨sb, so, none⟩) set.length sc, .int .i64 (k : Int), .pointer (some ⟨sb, so + k, none⟩), .int .i64 (p1 : Int), .pointer (some ⟨pb, po + p1 * 6, none⟩), .pointer (some ⟨pb, po + p1 * 6 + 5, none⟩), .slice a3 P1.bans.length d3, .bool false] (C0 wx) (by kernel_rfl) (by kernel_rfl) (by kernel_rfl) (by kernel_rfl) (by kernel_rfl) (by kernel_rfl) ⟨(Below.refl _ _).drew⟩ ?_ ?_ ?_
              · intro full hfull i oo hi hns ho x fl us hC hb
                simp [putAll, slotOf, Act.put] at hfull
                subst hfull
                have bx := hC.below
                rw [← bx.cell (p := ⟨w1.heap.size, _, none⟩) hlx] at X0 X1
                rw [← bx.cell (p := ⟨sb, _, none⟩) hsw] at c1 c2
                rw [← bx.cell (p := ⟨pb, _, none⟩) hpw] at n1 m0 m1 m2 m3 m4 m5
                have hC0 := hC.on (b' := fl) (Below.refl _ _)
                match i with
                | 0 => simp at ho; subst ho; simp [gwp, Region.wanted, yielded]; go_simp; first | done | exact hC0 | exact ⟨rfl, hC0⟩ | (simp; exact hC0) | rfl | (intro h; omega) | (simp; omega)
                | 1 => simp at ho; subst ho; simp [gwp, Region.wanted, yielded]; go_simp; first | done | exact hC0 | exact ⟨rfl, hC0⟩ | (simp; exact hC0) | rfl | (intro h; omega) | (simp; omega)
                | 2 => simp at ho; subst ho; simp [gwp, Region.wanted, yielded]; go_simp; first | done | exact hC0 | exact ⟨rfl, hC0⟩ | (simp; exact hC0) | rfl | (intro h; omega) | (simp; omega)
                | 3 => simp at ho; subst ho; simp [gwp, Region.wanted, yielded]; go_simp; first | done | exact hC0 | exact ⟨rfl, hC0⟩ | (simp; exact hC0) | rfl | (intro h; omega) | (simp; omega)
                | 4 => simp at ho; subst ho; simp [gwp, Region.wanted, yielded]; go_simp; first | done | exact hC0 | exact ⟨rfl, hC0⟩ | (simp; exact hC0) | rfl | (intro h; omega) | (simp; omega)
                | 5 => simp at ho; subst ho; simp [gwp, Region.wanted, yielded]; go_simp; first | done | exact hC0 | exact ⟨rfl, hC0⟩ | (simp; exact hC0) | rfl | (intro h; omega) | (simp; omega)
                | 6 => simp at ho; subst ho; simp [gwp, Region.wanted, yielded]; go_simp; first | done | exact hC0 | exact ⟨rfl, hC0⟩ | (simp; exact hC0) | rfl | (intro h; omega) | (simp; omega)
                | 7 => simp at ho; subst ho; simp [gwp, Region.wanted, yielded]; go_simp; first | done | exact hC0 | exact ⟨rfl, hC0⟩ | (simp; exact hC0) | rfl | (intro h; omega) | (simp; omega)
                | 8 => simp at ho; subst ho; simp [gwp, Region.wanted, yielded]; go_simp; first | done | exact hC0 | exact ⟨rfl, hC0⟩ | (simp; exact hC0) | rfl | (intro h; omega) | (simp; omega)
                | 9 => simp at ho; subst ho; simp [gwp, Region.wanted, yielded]; go_simp; first | done | exact hC0 | exact ⟨rfl, hC0⟩ | (simp; exact hC0) | rfl | (intro h; omega) | (simp; omega)
                | 10 => simp at ho; subst ho; simp [gwp, Region.wanted, yielded]; go_simp; first | done | exact hC0 | exact ⟨rfl, hC0⟩ | (simp; exact hC0) | rfl | (intro h; omega) | (simp; omega)
                | 11 => simp at ho; subst ho; simp [gwp, Region.wanted, yielded]; go_simp; first | done | exact hC0 | exact ⟨rfl, hC0⟩ | (simp; exact hC0) | rfl | (intro h; omega) | (simp; omega)
                | 12 => simp at ho; subst ho; simp [gwp, Region.wanted, yielded]; go_simp; first | done | exact hC0 | exact ⟨rfl, hC0⟩ | (simp; exact hC0) | rfl | (intro h; omega) | (simp; omega)
                | 13 => simp at ho; subst ho; simp [gwp, Region.wanted, yielded]; go_simp; first | done | exact hC0 | exact ⟨rfl, hC0⟩ | (simp; exact hC0) | rfl | (intro h; omega) | (simp; omega)
                | 14 => simp at ho; subst ho; simp [gwp, Region.wanted, yielded]; go_simp; first | done | exact hC0 | exact ⟨rfl, hC0⟩ | (simp; exact hC0) | rfl | (intro h; omega) | (simp; omega)
                | 15 => simp at ho; subst ho; simp [gwp, Region.wanted, yielded]; go_simp; first | done | exact hC0 | exact ⟨rfl, hC0⟩ | (simp; exact hC0) | rfl | (intro h; omega) | (simp; omega)
                | 16 => simp at ho; subst ho; simp [gwp, Region.wanted, yielded]; go_simp; first | done | exact hC0 | exact ⟨rfl, hC0⟩ | (simp; exact hC0) | rfl | (intro h; omega) | (simp; omega)
                | 17 => simp at ho; subst ho; simp [gwp, Region.wanted, yielded]; go_simp; first | done | exact hC0 | exact ⟨rfl, hC0⟩ | (simp; exact hC0) | rfl | (intro h; omega) | (simp; omega)
                | 18 => simp at ho; subst ho; simp [gwp, Region.wanted, yielded]; go_simp; first | done | exact hC0 | exact ⟨rfl, hC0⟩ | (simp; exact hC0) | rfl | (intro h; omega) | (simp; omega)
                | 19 => simp at ho; subst ho; simp [gwp, Region.wanted, yielded]; go_simp; first | done | exact hC0 | exact ⟨rfl, hC0⟩ | (simp; exact hC0) | rfl | (intro h; omega) | (simp; omega)
                | 20 => simp at ho; subst ho; simp [gwp, Region.wanted, yielded]; go_simp; first | done | exact hC0 | exact ⟨rfl, hC0⟩ | (simp; exact hC0) | rfl | (intro h; omega) | (simp; omega)
                | 21 =>
                  simp at ho; subst ho; simp [gwp, Region.wanted, yielded]; go_simp
                  refine (unhide HCF x bx).mono ?_
                  rintro e w' ⟨rfl, hb2⟩
                  go_simp
                  first | done | exact hC.on hb2 | exact ⟨rfl, hC.on hb2⟩ | (simp; exact hC.on hb2)
                | i + 22 => omega
              · intro full hfull us j hj
                simp at hj
              · intro full hfull us wz hus hC
                simp [putAll, slotOf, Act.put] at hfull
                subst hfull
                match us, hus with
                | [], _ =>
                have bz := hC.below
                clear hC
                simp [putP]
                have HZ := hide ((unhide HX).trans (bz.mono (unhide HX).size))
                clear bz HX
                go_wp2_with fail
                go_roundw
                case rel => exact ⟨j + 1, by omega, by go_num, HZ⟩
                case measure => simp [intOf]; omega
          · have j2 : ¬ (j : Int) < (set.length : Int) := by omega
            go_wp2_with fail
            go_roundw
            case rel => exact ⟨k + 1, by omega, by go_num, HX⟩
            case measure => simp [intOf]; omega
      · have j1 : ¬ (k : Int) < (set.length : Int) := by omega
        have HB5 := hide ((unhide HB4).trans ((unhide HW).mono (unhide HB4).size))
        go_wp2_with fail
        go_ret
        exact ⟨rfl, unhide HB5⟩
end Go.Proofs.Ytnegiggafgfmkab
