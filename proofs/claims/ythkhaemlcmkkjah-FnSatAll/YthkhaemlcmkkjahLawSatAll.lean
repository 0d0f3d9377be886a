/- The walk of the law FnSatAll: at every code it answers true. -/
import Derived.Test.YthkhaemlcmkkjahDrawSf
import Derived.Test.YthkhaemlcmkkjahSatL
import Derived.Test.YthkhaemlcmkkjahSatR
import Derived.Test.YthkhaemlcmkkjahSatC
import Derived.Test.YthkhaemlcmkkjahMdB
import Derived.Test.YthkhaemlcmkkjahGCn
namespace Go.Proofs.Ythkhaemlcmkkjah
set_option linter.unusedVariables false
set_option linter.unusedSimpArgs false
open Go.RowKit Go.Deep

/-- Whether some of the first models holds. -/
noncomputable def someN (v : Nat) (ls : List (List Int)) (n : Nat) : Bool := (List.range n).any fun b => cnfTrueB (v : Int) ls (bitsM v b)
theorem someN_more (v : Nat) (ls : List (List Int)) (n : Nat) : someN v ls (n + 1) = (someN v ls n || cnfTrueB (v : Int) ls (bitsM v n)) := by
  simp [someN, List.range_succ]
theorem someN_code {v : Nat} {ls : List (List Int)} {k : Int} {m : List Bool} {p : List (List Int)} (hok : cnfB (v : Int) ls = true) (h10 : v ≤ 10) (h : satZ (v : Int) ls 3000 = (k, m, p)) : (k = 1 ∧ someN v ls (2 ^ v) = true) ∨ (k = 2 ∧ someN v ls (2 ^ v) = false) := by
  rcases sat_full hok (by omega) (by omega) (Int.le_refl _) (most := 3000) with h1 | h1
  · rw [h] at h1
    simp only at h1
    subst h1
    refine .inl ⟨rfl, ?_⟩
    obtain ⟨b, hb⟩ := models_some (sat_yes h).1
    have ht := models_true hok hb
    rw [Int.toNat_natCast] at ht
    unfold modelsN at hb
    rw [Int.toNat_natCast, List.mem_filter] at hb
    exact List.any_eq_true.2 ⟨b, hb.1, ht⟩
  · rw [h] at h1
    simp only at h1
    subst h1
    refine .inr ⟨rfl, ?_⟩
    unfold someN
    rw [List.any_eq_false]
    intro b _
    rw [proof_sound (sat_no h)]
    simp

set_option maxRecDepth 100000 in
set_option maxHeartbeats 8000000 in
theorem satall_law (a : Option Addr) (n c : Nat) (w : World) (h : CodeAt w.heap.size w a n) (hc : n ≤ c) (hc2 : c ≤ maxLen) :
    Calls Try.prog 5 #[.slice a n c] w fun e w' => e = .returned (.bool true) ∧ Below w.heap.size w w' := by
  have hmx := hc2
  unfold maxLen at hmx
  by_cases hbig : 1048576 < n
  · have hb' : (1048576 : Int) < (n : Int) := by omega
    go_enter Try.func5, Try.ntmps5
    go_wp2_with fail
    go_ret
    exact ⟨rfl, Below.refl _ _⟩
  have hb' : ¬ (1048576 : Int) < (n : Int) := by omega
  go_enter Try.func5, Try.ntmps5
  go_wp2_with fail
  refine (DrawSatFind_V a n c w h (by omega) hc hc2).mono ?_
  rintro e w1 ⟨⟨vars, v, ls, vs, most, rfl, hL, hll, hsh, hmo0, hmo1⟩, b1⟩
  obtain ⟨va, vc, hv, hcls⟩ := hL.cls (by omega) hsh
  subst hv
  have HC1 := hide hcls
  have HSH := hide hsh
  have HB1 := hide b1
  clear hL hcls b1 h hsh
  go_upto_region 4 with fail
  obtain ⟨w2, hw2⟩ : ∃ w2, w2 = w1.alloc (.cells #[.int .i64 vars, .slice va ls.length vc] 25) := ⟨_, rfl⟩
  rw [← hw2]
  have b2 : Below w1.heap.size w1 w2 := by rw [hw2]; exact (Below.refl _ _).alloc (Nat.le_refl _) _
  have x0 : w2.cell? ⟨w1.heap.size, 0, none⟩ = some (.int .i64 vars) := by rw [hw2]; simp
  have x1 : w2.cell? ⟨w1.heap.size, 1, none⟩ = some (.slice va ls.length vc) := by rw [hw2]; simp
  have hlt2 : w1.heap.size < w2.heap.size := by rw [hw2]; simp
  have HC2 := hide ((unhide HC1).on b2)
  have HB2 := hide ((unhide HB1).trans (b2.mono (unhide HB1).size))
  clear hw2 b2 HC1 HB1
  obtain ⟨k, m, p, hr⟩ : ∃ k m p, satZ vars ls 3000 = (k, m, p) := ⟨_, _, _, rfl⟩
  obtain ⟨sm1, sm2, sm3, sm4, sm5, sm6⟩ := sat_small hr
  have HR0 := hide hr
  have HM4 := hide sm4
  have HM5 := hide sm5
  have HM6 := hide sm6
  have HM3 := hide (fun c hc => Nat.le_trans (sm3 c hc) (show 400 ≤ 1048576 by omega))
  have HCX := hide (fun x (hx : Below w2.heap.size w2 x) => specSatFind_any vars va ls vc 3000 x ((unhide HC2).on hx))
  have HCY := hide (fun x (hx : Below w2.heap.size w2 x) => implSatFind_any vars va ls vc 3000 x ((unhide HC2).on hx))
  rw [hr] at HCX HCY
  clear hr sm3 sm4 sm5 sm6
  go_wp2_with fail
  refine (unhide HCY w2 (Below.refl _ _)).mono ?_
  rintro e w3 ⟨⟨mv3, pv3, vs3, rfl, hm3, hp3⟩, b3⟩
  obtain ⟨ga, gc, hmv3, hmb3⟩ := bools_of (m := m) hm3 (by omega)
  subst hmv3
  obtain ⟨pa, pc, hpv3, hpc3, hpl3, hpk3⟩ := lists_of (p := p) hp3 (by omega) (unhide HM3)
  subst hpv3
  have HG3 := hide hmb3
  have HP3 := hide hpl3
  have HQ3 := hide hpk3
  clear hm3 hp3 hmb3 hpl3 hpk3
  have HC3 := hide ((unhide HC2).on b3)
  have HCZ := hide (unhide HCX w3 b3)
  have HB3 := hide ((unhide HB2).trans (b3.mono (unhide HB2).size))
  have hlt3 : w1.heap.size < w3.heap.size := Nat.lt_of_lt_of_le hlt2 b3.size
  rw [← b3.cell (p := ⟨w1.heap.size, _, none⟩) hlt2] at x0 x1
  clear HCX HC2 HB2 b3 hlt2
  go_wp2_with fail
  refine (unhide HCZ).mono ?_
  rintro e w4 ⟨⟨mv4, pv4, vs4, rfl, hm4, hp4⟩, b4⟩
  obtain ⟨wa, wc, hmv4, hmb4⟩ := bools_of (m := m) hm4 (by omega)
  subst hmv4
  obtain ⟨ra, rc, hpv4, hpc4, hpl4, hpk4⟩ := lists_of (p := p) hp4 (by omega) (unhide HM3)
  subst hpv4
  have HW4 := hide hmb4
  have HR4 := hide hpl4
  have HS4 := hide hpk4
  clear hm4 hp4 hmb4 hpl4 hpk4
  have HC4 := hide ((unhide HC3).on b4)
  have HG4 := hide ((unhide HG3).on b4)
  have HB4 := hide ((unhide HB3).trans (b4.mono (unhide HB3).size))
  have hlt4 : w1.heap.size < w4.heap.size := Nat.lt_of_lt_of_le hlt3 b4.size
  rw [← b4.cell (p := ⟨w1.heap.size, _, none⟩) hlt3] at x0 x1
  clear HC3 HG3 HB3 b4 hlt3
  go_wp2_with fail
  refine (ldBools_I ga wa m gc wc w4 (unhide HG4) (unhide HW4)).mono ?_
  rintro e w5 ⟨rfl, b5⟩
  have HC5 := hide ((unhide HC4).on b5)
  have HG5 := hide ((unhide HG4).on b5)
  have HW5 := hide ((unhide HW4).on b5)
  have HB5 := hide ((unhide HB4).trans (b5.mono (unhide HB4).size))
  have hlt5 : w1.heap.size < w5.heap.size := Nat.lt_of_lt_of_le hlt4 b5.size
  rw [← b5.cell (p := ⟨w1.heap.size, _, none⟩) hlt4] at x0 x1
  clear HC4 HG4 HW4 HB4 b5 hlt4
  have HK := hide (specCnfOk_any vars va ls vc w5 (unhide HC5))
  obtain ⟨okc, hok⟩ : ∃ okc, cnfB vars ls = okc := ⟨_, rfl⟩
  rw [hok] at HK
  have HOK := hide hok
  clear hok
  cases okc with
  | false =>
    go_wp2_with fail
    refine (unhide HK).mono ?_
    rintro e w6 ⟨rfl, b6⟩
    have HG6 := hide ((unhide HG5).on b6)
    have HW6 := hide ((unhide HW5).on b6)
    have HB6 := hide ((unhide HB5).trans (b6.mono (unhide HB5).size))
    have hlt6 : w1.heap.size < w6.heap.size := Nat.lt_of_lt_of_le hlt5 b6.size
    rw [← b6.cell (p := ⟨w1.heap.size, _, none⟩) hlt5] at x0 x1
    clear HG5 HW5 HB5 b6 hlt5
    go_wp2_with fail
    refine (ldBools_I ga wa m gc wc w6 (unhide HG6) (unhide HW6)).mono ?_
    rintro e w7 ⟨rfl, b7⟩
    have HB7 := hide ((unhide HB6).trans (b7.mono (unhide HB6).size))
    have hlt7 : w1.heap.size < w7.heap.size := Nat.lt_of_lt_of_le hlt6 b7.size
    rw [← b7.cell (p := ⟨w1.heap.size, _, none⟩) hlt6] at x0 x1
    clear  HB6 b7 hlt6
    go_wp2_with fail
    go_ret
    exact ⟨rfl, unhide HB7⟩
  | true =>
    by_cases hv2 : 10 < vars
    · go_wp2_with fail
      refine (unhide HK).mono ?_
      rintro e w6 ⟨rfl, b6⟩
      have HG6 := hide ((unhide HG5).on b6)
      have HW6 := hide ((unhide HW5).on b6)
      have HB6 := hide ((unhide HB5).trans (b6.mono (unhide HB5).size))
      have hlt6 : w1.heap.size < w6.heap.size := Nat.lt_of_lt_of_le hlt5 b6.size
      rw [← b6.cell (p := ⟨w1.heap.size, _, none⟩) hlt5] at x0 x1
      clear HG5 HW5 HB5 b6 hlt5
      go_wp2_with fail
      refine (ldBools_I ga wa m gc wc w6 (unhide HG6) (unhide HW6)).mono ?_
      rintro e w7 ⟨rfl, b7⟩
      have HB7 := hide ((unhide HB6).trans (b7.mono (unhide HB6).size))
      have hlt7 : w1.heap.size < w7.heap.size := Nat.lt_of_lt_of_le hlt6 b7.size
      rw [← b7.cell (p := ⟨w1.heap.size, _, none⟩) hlt6] at x0 x1
      clear  HB6 b7 hlt6
      go_wp2_with fail
      go_ret
      exact ⟨rfl, unhide HB7⟩
    · go_wp2_with fail
      refine (unhide HK).mono ?_
      rintro e w6 ⟨rfl, b6⟩
      have HC6 := hide ((unhide HC5).on b6)
      have HB6 := hide ((unhide HB5).trans (b6.mono (unhide HB5).size))
      have hlt6 : w1.heap.size < w6.heap.size := Nat.lt_of_lt_of_le hlt5 b6.size
      rw [← b6.cell (p := ⟨w1.heap.size, _, none⟩) hlt5] at x0 x1
      clear HC5 HB5 b6 hlt5
      have hv0 := (cnf_rng (unhide HOK)).1
      obtain ⟨v, rfl⟩ : ∃ v : Nat, vars = (v : Int) := ⟨vars.toNat, by omega⟩
      have hv10 : v ≤ 10 := by omega
      have HCO := hide (someN_code (unhide HOK) hv10 (unhide HR0))
      obtain ⟨hshl, hpw⟩ := shl_wrap (v := v) (by omega)
      clear HK HM3 HM4 HM5 HM6 HR0
      obtain ⟨i1, hj1, hy0, hy1, hy2⟩ := info_parts Try.infoMd
      generalize hN : 2 ^ v = N at hpw hshl
      have HN := hide hN
      clear hN
      go_wp2_with fail
      go_loopw [11, 12] (fun g i wr => ∃ (n : Nat) (sm : Bool), n ≤ N ∧ g = .bool sm ∧ i = .int .i64 n ∧ Hid (sm = someN v ls n) ∧ Hid (Below w6.heap.size w6 wr)) (fun _ i _ => N - (intOf i).toNat)
      case atStart => exact ⟨0, false, Nat.zero_le _, rfl, rfl, rfl, Below.refl _ _⟩
      case round =>
        rename World => wo
        obtain ⟨n, sm, hn, rfl, rfl, HSM, HO⟩ := hrel
        have y0 := ((unhide HO).cell (p := ⟨w1.heap.size, 0, none⟩) hlt6).trans x0
        have y1 := ((unhide HO).cell (p := ⟨w1.heap.size, 1, none⟩) hlt6).trans x1
        by_cases hnN : n < N
        · have j1 : (n : Int) < (N : Int) := by omega
          have HM0 := hide (RowM.nil wo)
          have HO1 := hide ((unhide HO).alloc (unhide HO).size (.cells #[] 4))
          have hzo : wo.heap.size ≤ (wo.alloc (.cells #[] 4)).heap.size := by simp
          have hlto := Nat.lt_of_lt_of_le hlt6 (unhide HO).size
          go_wp2_with fail
          go_loopw [13, 14] (fun x i wr => ∃ j : Nat, j ≤ v ∧ i = .int .i64 j ∧ Hid (RowM wo.heap.size wr x (bitsM j n)) ∧ wo.heap.size ≤ wr.heap.size ∧ Hid (Below wo.heap.size wo wr)) (fun _ i _ => v - (intOf i).toNat)
          case atStart => exact ⟨0, Nat.zero_le _, rfl, HM0, hzo, (Below.refl _ _).alloc (Nat.le_refl _) _⟩
          case round =>
            rename World => wi
            obtain ⟨j, hj, rfl, HM, hwi, HB⟩ := hrel
            clear HM0 HO1 hzo
            have z0 := ((unhide HB).cell (p := ⟨w1.heap.size, 0, none⟩) hlto).trans y0
            have z1 := ((unhide HB).cell (p := ⟨w1.heap.size, 1, none⟩) hlto).trans y1
            have hbl := bitsM_len j n
            by_cases hjv : j < v
            · have j2 : (j : Int) < (v : Int) := by omega
              have hown : wi.ownsRow wo.heap.size 4 1 u13 j ((bitsM j n).map fun i => .bool i) := by
                have := unhide HM
                unfold RowM at this
                rwa [hbl] at this
              have hblk : ∀ b, u13.ownBlock = some b → wo.heap.size ≤ b := fun b hb => (World.ownsRow.lt hown b hb).1
              go_wp2_with (first
                | (at_builtin; refine wpList_append_own _ rfl _ _ 28 rfl wo.heap.size 4 i1 (.bool false) 1 1 Try.underlying28 hj1 hy0 hy1 hy2 rfl (by decide) _ _ _ rfl (hown.alloc _) ⟨wi.heap.size, 0, none⟩ 1 1 [.bool (((n : Int) / 2 ^ j).tmod 2 == 1)] rfl rfl ?c1 ?c2 ?c3 ?c4 ?c5 ?_))
              case c1 =>
                intro j u hj
                match j, hj with
                | 0, hj => simp at hj; subst hj; simp [Addr.add]
              case c2 => intro u hu; simp at hu; subst hu; rfl
              case c3 => unfold maxLen; omega
              case c4 => omega
              case c5 => simp; omega
              intro v' wj hown' hgrow _
              have HM2 : Hid (RowM wo.heap.size wj v' (bitsM (j + 1) n)) := by
                show RowM _ _ _ _
                have hb2 := bitsM_len (j + 1) n
                rw [shr_bit] at hown'
                unfold RowM
                rw [hb2, bitsM_more, List.map_append]
                exact hown'
              have hzj := hgrow.size
              simp at hzj
              have HB2 : Hid (Below wo.heap.size wo wj) := ⟨hgrow.os.trans (unhide HB).os, hgrow.tape.trans (unhide HB).tape, hgrow.output.trans (unhide HB).output, by omega, fun b hb => (hgrow.block b (by simp; omega) (fun e => by have := hblk b e.symm; omega)).trans ((blk_alloc_lt _ _ _ (by omega)).trans ((unhide HB).block b hb))⟩
              clear hown hown' hgrow HB HM
              go_wp2_with fail
              go_roundw
              case rel => exact ⟨j + 1, by omega, by go_num, HM2, by omega, HB2⟩
              case measure => simp [intOf]; omega
            · have hjv2 : j = v := by omega
              subst hjv2
              have j2 : ¬ (j : Int) < (j : Int) := by omega
              obtain ⟨ma, mc, hmv, hba⟩ := RowM.at (unhide HM) (by omega)
              subst hmv
              have HCW := hide (implCnfTrue_any (j : Int) va ls vc ma (bitsM j n) mc wi (((unhide HC6).on (unhide HO)).on (unhide HB)) hba)
              rw [hbl] at HCW
              obtain ⟨ct, hct⟩ : ∃ ct, ct = cnfTrueB (j : Int) ls (bitsM j n) := ⟨_, rfl⟩
              rw [← hct] at HCW
              have HCT := hide hct
              clear hba HM hct
              rw [hbl]
              cases sm with
              | true =>
                have HS2 := hide (show true = someN j ls (n + 1) by rw [someN_more, ← unhide HSM, Bool.true_or])
                have HE : Hid (Below w6.heap.size w6 wi) := (unhide HO).trans ((unhide HB).mono (unhide HO).size)
                clear HCW HB HO HSM HCT
                go_wp2_with fail
                go_roundw
                case rel => exact ⟨n + 1, true, by omega, rfl, by go_num, HS2, HE⟩
                case measure => simp [intOf]; omega
              | false =>
                go_wp2_with fail
                refine (unhide HCW).mono ?_
                rintro e w7 ⟨rfl, b7⟩
                have HE : Hid (Below w6.heap.size w6 w7) := (unhide HO).trans (((unhide HB).mono (unhide HO).size).trans (b7.mono (by have := (unhide HO).size; omega)))
                clear b7 HCW HB x0 x1 y0 y1 z0 z1 HO
                have HS2 := hide (show ct = someN j ls (n + 1) by rw [someN_more, ← unhide HSM, Bool.false_or]; exact unhide HCT)
                clear HSM HCT
                cases ct with
                | false =>
                  go_wp2_with fail
                  go_roundw
                  case rel => exact ⟨n + 1, false, by omega, rfl, by go_num, HS2, HE⟩
                  case measure => simp [intOf]; omega
                | true =>
                  go_wp2_with fail
                  go_roundw
                  case rel => exact ⟨n + 1, true, by omega, rfl, by go_num, HS2, HE⟩
                  case measure => simp [intOf]; omega
        · have j1 : ¬ (n : Int) < (N : Int) := by omega
          have hnn : n = 2 ^ v := by have := unhide HN; omega
          have hsm := unhide HSM
          rw [hnn] at hsm
          have HF := hide ((unhide HB6).trans ((unhide HO).mono (unhide HB6).size))
          clear HSM hnn
          rcases unhide HCO with ⟨rfl, hs⟩ | ⟨rfl, hs⟩
          · rw [hs] at hsm
            subst hsm
            clear hs
            go_wp2_with fail
            go_ret
            exact ⟨rfl, unhide HF⟩
          · rw [hs] at hsm
            subst hsm
            clear hs
            go_wp2_with fail
            go_ret
            exact ⟨rfl, unhide HF⟩
end Go.Proofs.Ythkhaemlcmkkjah
