/- The walk of the law FnStateOk: of every code it answers true, and writes nothing that was there. -/
import Derived.Test.YtnegiggafgfmkabGDrawT
import Derived.Test.YtnegiggafgfmkabGLd
namespace Go.Proofs.Ytnegiggafgfmkab
set_option linter.unusedVariables false
set_option linter.unusedSimpArgs false
open Go.RowKit Go.Deep

set_option maxRecDepth 100000 in
set_option maxHeartbeats 8000000 in
theorem stateOk_any2 (a : Option Addr) (n c : Nat) (w : World) (h : CodeAt w.heap.size w a n) (hc : n ≤ c) (hc2 : c ≤ maxLen) :
    Calls Try.prog 3 #[.slice a n c] w fun e w' => e = .returned (.bool true) ∧ Below w.heap.size w w' := by
  have hmx := hc2
  unfold maxLen at hmx
  by_cases hbig : 1048576 < n
  · have hb' : (1048576 : Int) < (n : Int) := by omega
    go_enter Try.func3, Try.ntmps3
    go_wp2_with fail
    go_ret
    exact ⟨rfl, Below.refl _ _⟩
  have hb' : ¬ (1048576 : Int) < (n : Int) := by omega
  go_enter Try.func3, Try.ntmps3
  go_wp2_with fail
  refine (DrawStateOk_V a n c w h (by omega) hc hc2).mono ?_
  rintro e w1 ⟨⟨v, room, u, rfl, hV, set, hrow, hsl⟩, b1⟩
  obtain ⟨va, vn, vc, rfl, _⟩ := SlBy.slice hV
  obtain ⟨l, rfl, hP⟩ := V2.packs hV
  obtain ⟨sa, sc, hu, hset⟩ := RowI.set hrow (by omega)
  subst hu
  have HP1 := hide hP
  have HS1 := hide hset
  have HB1 := hide b1
  clear hV hrow hP hset b1 h
  go_upto_region 4 with fail
  obtain ⟨w2, hw2⟩ : ∃ w2, w2 = w1.alloc (.cells #[.slice va l.length vc, .int .i64 room] 25) := ⟨_, rfl⟩
  rw [← hw2]
  have b2 : Below w1.heap.size w1 w2 := by rw [hw2]; exact (Below.refl _ _).alloc (Nat.le_refl _) _
  have x0 : w2.cell? ⟨w1.heap.size, 0, none⟩ = some (.slice va l.length vc) := by rw [hw2]; simp
  have x1 : w2.cell? ⟨w1.heap.size, 1, none⟩ = some (.int .i64 room) := by rw [hw2]; simp
  have hlt2 : w1.heap.size < w2.heap.size := by rw [hw2]; simp
  have HP2 := hide ((unhide HP1).on b2)
  have HS2 := hide ((unhide HS1).on b2)
  have HB2 := hide ((unhide HB1).trans (b2.mono (unhide HB1).size))
  clear hw2 b2 HP1 HS1 HB1
  go_wp2_with fail
  refine (implStateOk_any va l vc room sa set sc w2 (unhide HP2) (unhide HS2)).mono ?_
  rintro e w3 ⟨rfl, b3⟩
  have HP3 := hide ((unhide HP2).on b3)
  have HS3 := hide ((unhide HS2).on b3)
  have HB3 := hide ((unhide HB2).trans (b3.mono (unhide HB2).size))
  have hlt3 : w1.heap.size < w3.heap.size := Nat.lt_of_lt_of_le hlt2 b3.size
  rw [← b3.cell (p := ⟨w1.heap.size, _, none⟩) hlt2] at x0 x1
  clear HP2 HS2 HB2 b3 hlt2
  go_wp2_with fail
  refine (specStateOk_any va l vc room sa set sc w3 (unhide HP3) (unhide HS3)).mono ?_
  rintro e w4 ⟨rfl, b4⟩
  have HP4 := hide ((unhide HP3).on b4)
  have HS4 := hide ((unhide HS3).on b4)
  have HB4 := hide ((unhide HB3).trans (b4.mono (unhide HB3).size))
  have hlt4 : w1.heap.size < w4.heap.size := Nat.lt_of_lt_of_le hlt3 b4.size
  rw [← b4.cell (p := ⟨w1.heap.size, _, none⟩) hlt3] at x0 x1
  clear HP3 HS3 HB3 b4 hlt3
  cases hok : okZ l room set with
  | false =>
    go_wp2_with fail
    refine (specStateOk_any va l vc room sa set sc w4 (unhide HP4) (unhide HS4)).mono ?_
    rintro e w5 ⟨rfl, b5⟩
    have HP5 := hide ((unhide HP4).on b5)
    have HS5 := hide ((unhide HS4).on b5)
    have HB5 := hide ((unhide HB4).trans (b5.mono (unhide HB4).size))
    have hlt5 : w1.heap.size < w5.heap.size := Nat.lt_of_lt_of_le hlt4 b5.size
    rw [← b5.cell (p := ⟨w1.heap.size, _, none⟩) hlt4] at x0 x1
    clear HP4 HS4 HB4 b5 hlt4
    rw [hok]
    clear hok
    go_wp2_with fail
    go_ret
    exact ⟨rfl, unhide HB5⟩
  | true =>
    have HOK := hide hok
    clear hok
    go_wp2_with fail
    go_loopw [6] (fun i wr => ∃ k : Nat, k ≤ set.length ∧ i = .int .i64 k ∧ Drawn w4 wr) (fun i _ => set.length - (intOf i).toNat)
    case atStart => exact ⟨0, Nat.zero_le _, rfl, Drawn.refl _⟩
    case round =>
      rename World => wo
      obtain ⟨k, hk, rfl, hw⟩ := hrel
      by_cases hlt : k < set.length
      · have j1 : (k : Int) < (set.length : Int) := by omega
        go_wp2_with fail
        go_loopw [7] (fun i wr => ∃ j : Nat, j ≤ k ∧ i = .int .i64 j ∧ Drawn w4 wr) (fun i _ => k - (intOf i).toNat)
        case atStart => exact ⟨0, Nat.zero_le _, rfl, hw⟩
        case round =>
          rename World => wx
          obtain ⟨j, hj, rfl, hx⟩ := hrel
          by_cases hjk : j < k
          · have j2 : (j : Int) < (k : Int) := by omega
            have hnm := ok_names (unhide HOK) hlt (show j < set.length by omega) (by omega)
            have hp1 := form_place (ok_form (unhide HOK)) hlt
            have hp2 := form_place (ok_form (unhide HOK)) (show j < set.length by omega)
            unfold packOf at hnm
            rcases (unhide HS4).2 with hnil | ⟨sb, so, rfl, hbl, hsc⟩
            · rw [hnil] at hlt; simp at hlt
            have c1 := hsc k hlt
            have c2 := hsc j (by omega)
            clear hsc
            generalize set.getD k 0 = z1 at c1 hp1 hnm
            generalize set.getD j 0 = z2 at c2 hp2 hnm
            obtain ⟨p1, rfl⟩ : ∃ p : Nat, z1 = (p : Int) := ⟨z1.toNat, by omega⟩
            obtain ⟨p2, rfl⟩ : ∃ p : Nat, z2 = (p : Int) := ⟨z2.toNat, by omega⟩
            simp only [Int.toNat_natCast] at hnm
            have i10 : (0 : Int) ≤ (p1 : Int) := by omega
            have i11 : (p1 : Int) < (l.length : Int) := by omega
            have i20 : (0 : Int) ≤ (p2 : Int) := by omega
            have i21 : (p2 : Int) < (l.length : Int) := by omega
            rcases (unhide HP4).2 with hnil | ⟨pb, po, rfl, hpS, hpk⟩
            · rw [hnil] at i11; simp at i11; omega
            obtain ⟨_, _, _, _, _, _, hce1, _⟩ := hpk p1 (by omega)
            obtain ⟨_, _, _, _, _, _, hce2, _⟩ := hpk p2 (by omega)
            have n1 := hce1.name
            have n2 := hce2.name
            generalize l.getD p1 dPack = P1 at n1 hnm
            generalize l.getD p2 dPack = P2 at n2 hnm
            have hnb : (P1.name.toList == P2.name.toList) = false := by simpa using hnm
            have X0 := x0
            have X1 := x1
            rw [← hx.cell] at c1 c2 n1 n2 X0 X1
            clear hpk hce1 hce2 x0 x1 hp1 hp2
            go_wp2_with fail
            go_quiet (fail)
            go_wp2_with fail
            go_roundw
            case rel => exact ⟨j + 1, by omega, by go_num, hx.more _⟩
            case measure => simp [intOf]; omega
          · have j2 : ¬ (j : Int) < (k : Int) := by omega
            go_wp2_with fail
            go_roundw
            case rel => exact ⟨k + 1, by omega, by go_num, hx⟩
            case measure => simp [intOf]; omega
      · have j1 : ¬ (k : Int) < (set.length : Int) := by omega
        have bo : Below w4.heap.size w4 wo := hw.below _
        have HCZ := hide (fun x (hx : Below wo.heap.size wo x) => implStateSize_any va l vc room sa set sc x (((unhide HP4).on bo).on hx) (((unhide HS4).on bo).on hx))
        have hsz := ok_size (unhide HOK)
        have hszb : decide (sizeZ l room set ≤ room) = true := by simpa using hsz
        generalize sizeZ l room set = zz at HCZ hsz hszb
        rw [← bo.cell (p := ⟨w1.heap.size, _, none⟩) hlt4] at x0 x1
        have hlt5 : w1.heap.size < wo.heap.size := Nat.lt_of_lt_of_le hlt4 bo.size
        have HB5 := hide ((unhide HB4).trans (bo.mono (unhide HB4).size))
        clear HB4 bo hw
        go_upto_region 15 with fail
        refine wp_region_mix (k := 100) 6 [] [.agg #[.slice va l.length vc, .int .i64 room], .slice sa set.length sc, .int .i64 zz, .pointer (some ⟨w1.heap.size, 1, none⟩), .int .i64 room, .bool true] (C0 wo) (by kernel_rfl) (by kernel_rfl) (by kernel_rfl) (by kernel_rfl) (by kernel_rfl) (by kernel_rfl) ⟨(Below.refl _ _).drew⟩ ?_ ?_ ?_
        · intro full hfull i oo hi hns ho x fl us hC hb
          simp [putAll, slotOf, Act.put] at hfull
          subst hfull
          have bx := hC.below
          rw [← bx.cell (p := ⟨w1.heap.size, _, none⟩) hlt5] at x0 x1
          have hC0 := hC.on (b' := fl) (Below.refl _ _)
          match i with
          | 0 => simp at ho; subst ho; simp [gwp, Region.wanted, yielded]; go_simp; first | done | exact hC0 | exact ⟨rfl, hC0⟩ | (simp; exact hC0) | rfl | (intro h; omega) | (simp; omega)
          | 1 => simp at ho; subst ho; simp [gwp, Region.wanted, yielded]; go_simp; first | done | exact hC0 | exact ⟨rfl, hC0⟩ | (simp; exact hC0) | rfl | (intro h; omega) | (simp; omega)
          | 2 =>
            simp at ho; subst ho; simp [gwp, Region.wanted, yielded]; go_simp
            refine (unhide HCZ x bx).mono ?_
            rintro e w' ⟨rfl, hb2⟩
            go_simp
            first | done | exact hC.on hb2 | exact ⟨rfl, hC.on hb2⟩ | (simp; exact hC.on hb2)
          | 3 => simp at ho; subst ho; simp [gwp, Region.wanted, yielded]; go_simp; first | done | exact hC0 | exact ⟨rfl, hC0⟩ | (simp; exact hC0) | rfl | (intro h; omega) | (simp; omega)
          | 4 => simp at ho; subst ho; simp [gwp, Region.wanted, yielded]; go_simp; first | done | exact hC0 | exact ⟨rfl, hC0⟩ | (simp; exact hC0) | rfl | (intro h; omega) | (simp; omega)
          | 5 => simp at ho; subst ho; simp [gwp, Region.wanted, yielded]; go_simp; first | done | exact hC0 | exact ⟨rfl, hC0⟩ | (simp; exact hC0) | rfl | (intro h; omega) | (simp; omega)
          | i + 6 => omega
        · intro full hfull us j hj
          simp at hj
        · intro full hfull us wz hus hC
          simp [putAll, slotOf, Act.put] at hfull
          subst hfull
          match us, hus with
          | [], _ =>
          have bz := hC.below
          clear hC
          simp [putP]
          have HB6 := hide ((unhide HB5).trans (bz.mono (unhide HB5).size))
          clear bz HB5
          go_wp2_with fail
          go_ret
          exact ⟨rfl, unhide HB6⟩
end Go.Proofs.Ytnegiggafgfmkab
