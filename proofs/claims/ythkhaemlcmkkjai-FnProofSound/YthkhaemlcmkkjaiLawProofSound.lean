/- The walk of the law FnProofSound: at every code it answers true. -/
import Derived.Test.YthkhaemlcmkkjaiPfL
import Derived.Test.YthkhaemlcmkkjaiMdB
import Derived.Test.YthkhaemlcmkkjaiSatL
import Derived.Deep.QuietTactic
import Derived.BigQuiet
namespace Go.Proofs.Ythkhaemlcmkkjai
set_option linter.unusedVariables false
set_option linter.unusedSimpArgs false
open Go.RowKit Go.Deep

set_option maxRecDepth 100000 in
set_option maxHeartbeats 2000000 in
theorem proofsound_law (a : Option Addr) (n c : Nat) (w : World) (h : CodeAt w.heap.size w a n) (hc : n ≤ c) (hc2 : c ≤ maxLen) :
    Calls Try.prog 5 #[.slice a n c] w fun e w' => e = .returned (.bool true) ∧ Below w.heap.size w w' := by
  have hmx := hc2
  unfold maxLen at hmx
  by_cases hbig : 1048576 < n
  · have hb' : (1048576 : Int) < (n : Int) := by omega
    go_enter Try.func5, Try.ntmps5
    go_wp2_with fail
    go_ret
    exact ⟨rfl, Below.refl _ _⟩
  have hb' : ¬ (1048576 : Int) < (n : Int) := by omega
  go_enter Try.func5, Try.ntmps5
  go_wp2_with fail
  refine (DrawSatProof_V a n c w h (by omega) hc hc2).mono ?_
  rintro e w1 ⟨⟨vars, va, vc, ls, pa, ps, pc, rfl, ⟨hcls, hvn, hvc1, hvc2, hll⟩, hps, hpc1, hpc2, hpn, hpl⟩, b1⟩
  have hvm := hvc2
  unfold maxLen at hvm
  have hpm := hpc2
  unfold maxLen at hpm
  have HC1 := hide hcls
  have HP1 := hide hps
  have HB1 := hide b1
  clear hcls hps b1 h
  go_upto_region 4 with fail
  obtain ⟨w2, hw2⟩ : ∃ w2, w2 = w1.alloc (.cells #[.int .i64 vars, .slice va ls.length vc] 25) := ⟨_, rfl⟩
  rw [← hw2]
  have b2 : Below w1.heap.size w1 w2 := by rw [hw2]; exact (Below.refl _ _).alloc (Nat.le_refl _) _
  have x0 : w2.cell? ⟨w1.heap.size, 0, none⟩ = some (.int .i64 vars) := by rw [hw2]; simp
  have x1 : w2.cell? ⟨w1.heap.size, 1, none⟩ = some (.slice va ls.length vc) := by rw [hw2]; simp
  have hlt2 : w1.heap.size < w2.heap.size := by rw [hw2]; simp
  have HC2 := hide ((unhide HC1).on b2)
  have HP2 := hide ((unhide HP1).on b2)
  have HB2 := hide ((unhide HB1).trans (b2.mono (unhide HB1).size))
  clear hw2 b2 HC1 HP1 HB1
  have HI := hide (fun x (hx : Below w2.heap.size w2 x) => implSatProof_any vars va ls vc pa ps pc hpc1 x ((unhide HC2).on hx) ((unhide HP2).on hx))
  have HS := hide (fun x (hx : Below w2.heap.size w2 x) => specSatProof_any vars va ls vc hvn pa ps pc x ((unhide HC2).on hx) ((unhide HP2).on hx))
  obtain ⟨z, hz⟩ : ∃ z, proofZ vars ls ps = z := ⟨_, rfl⟩
  rw [hz] at HI HS
  have HZ := hide hz
  have H22 := hide (Below.refl w2.heap.size w2)
  clear hz
  go_wp2_with fail
  refine (unhide HI w2 (unhide H22)).mono ?_
  rintro e w3 ⟨rfl, b3⟩
  have H23 := hide ((unhide H22).trans (b3.mono (unhide H22).size))
  clear H22
  have HC3 := hide ((unhide HC2).on b3)
  have HP3 := hide ((unhide HP2).on b3)
  have HB3 := hide ((unhide HB2).trans (b3.mono (unhide HB2).size))
  have hlt3 : w1.heap.size < w3.heap.size := Nat.lt_of_lt_of_le hlt2 b3.size
  rw [← b3.cell (p := ⟨w1.heap.size, _, none⟩) hlt2] at x0 x1
  clear HC2 HP2 HB2 b3 hlt2
  cases z with
  | false =>
    go_wp2_with fail
    refine (unhide HS w3 (unhide H23)).mono ?_
    rintro e w4 ⟨rfl, b4⟩
    have H24 := hide ((unhide H23).trans (b4.mono (unhide H23).size))
    clear H23
    have HC4 := hide ((unhide HC3).on b4)
    have HP4 := hide ((unhide HP3).on b4)
    have HB4 := hide ((unhide HB3).trans (b4.mono (unhide HB3).size))
    have hlt4 : w1.heap.size < w4.heap.size := Nat.lt_of_lt_of_le hlt3 b4.size
    rw [← b4.cell (p := ⟨w1.heap.size, _, none⟩) hlt3] at x0 x1
    clear HC3 HP3 HB3 b4 hlt3
    go_wp2_with fail
    refine (unhide HS w4 (unhide H24)).mono ?_
    rintro e w5 ⟨rfl, b5⟩
    have H25 := hide ((unhide H24).trans (b5.mono (unhide H24).size))
    clear H24
    have HC5 := hide ((unhide HC4).on b5)
    have HP5 := hide ((unhide HP4).on b5)
    have HB5 := hide ((unhide HB4).trans (b5.mono (unhide HB4).size))
    have hlt5 : w1.heap.size < w5.heap.size := Nat.lt_of_lt_of_le hlt4 b5.size
    rw [← b5.cell (p := ⟨w1.heap.size, _, none⟩) hlt4] at x0 x1
    clear HC4 HP4 HB4 b5 hlt4
    go_wp2_with fail
    go_ret
    exact ⟨rfl, unhide HB5⟩
  | true =>
    by_cases hbg : (10 : Int) < vars
    · go_wp2_with fail
      refine (unhide HS w3 (unhide H23)).mono ?_
      rintro e w4 ⟨rfl, b4⟩
      have H24 := hide ((unhide H23).trans (b4.mono (unhide H23).size))
      clear H23
      have HC4 := hide ((unhide HC3).on b4)
      have HP4 := hide ((unhide HP3).on b4)
      have HB4 := hide ((unhide HB3).trans (b4.mono (unhide HB3).size))
      have hlt4 : w1.heap.size < w4.heap.size := Nat.lt_of_lt_of_le hlt3 b4.size
      rw [← b4.cell (p := ⟨w1.heap.size, _, none⟩) hlt3] at x0 x1
      clear HC3 HP3 HB3 b4 hlt3
      go_wp2_with fail
      refine (unhide HS w4 (unhide H24)).mono ?_
      rintro e w5 ⟨rfl, b5⟩
      have H25 := hide ((unhide H24).trans (b5.mono (unhide H24).size))
      clear H24
      have HC5 := hide ((unhide HC4).on b5)
      have HP5 := hide ((unhide HP4).on b5)
      have HB5 := hide ((unhide HB4).trans (b5.mono (unhide HB4).size))
      have hlt5 : w1.heap.size < w5.heap.size := Nat.lt_of_lt_of_le hlt4 b5.size
      rw [← b5.cell (p := ⟨w1.heap.size, _, none⟩) hlt4] at x0 x1
      clear HC4 HP4 HB4 b5 hlt4
      go_wp2_with fail
      go_ret
      exact ⟨rfl, unhide HB5⟩
    · go_wp2_with fail
      refine (unhide HS w3 (unhide H23)).mono ?_
      rintro e w4 ⟨rfl, b4⟩
      have H24 := hide ((unhide H23).trans (b4.mono (unhide H23).size))
      clear H23
      have HC4 := hide ((unhide HC3).on b4)
      have HB4 := hide ((unhide HB3).trans (b4.mono (unhide HB3).size))
      have hlt4 : w1.heap.size < w4.heap.size := Nat.lt_of_lt_of_le hlt3 b4.size
      rw [← b4.cell (p := ⟨w1.heap.size, _, none⟩) hlt3] at x0 x1
      clear HC3 HB3 b4 hlt3
      have hv0 := (cnf_rng (proof_parts (unhide HZ)).1).1
      obtain ⟨v, rfl⟩ : ∃ v : Nat, vars = (v : Int) := ⟨vars.toNat, by omega⟩
      have hv10 : v ≤ 10 := by omega
      have HNO := hide (fun m => proof_sound (unhide HZ) m)
      obtain ⟨hshl, hpw⟩ := shl_wrap (v := v) (by omega)
      clear HI HS HZ H24
      obtain ⟨i1, hj1, hy0, hy1, hy2⟩ := info_parts Try.infoMd
      generalize hN : 2 ^ v = N at hpw hshl
      clear hN
      go_wp2_with fail
      go_loopw [6] (fun i wr => ∃ n : Nat, n ≤ N ∧ i = .int .i64 n ∧ Hid (Below w4.heap.size w4 wr)) (fun i _ => N - (intOf i).toNat)
      case atStart => exact ⟨0, Nat.zero_le _, rfl, Below.refl _ _⟩
      case round =>
        rename World => wo
        obtain ⟨n, hn, rfl, HO⟩ := hrel
        have y0 := ((unhide HO).cell (p := ⟨w1.heap.size, 0, none⟩) hlt4).trans x0
        have y1 := ((unhide HO).cell (p := ⟨w1.heap.size, 1, none⟩) hlt4).trans x1
        by_cases hnN : n < N
        · have j1 : (n : Int) < (N : Int) := by omega
          have HM0 := hide (RowM.nil wo)
          have HO1 := hide ((unhide HO).alloc (unhide HO).size (.cells #[] 4))
          have hzo : wo.heap.size ≤ (wo.alloc (.cells #[] 4)).heap.size := by simp
          have hlto := Nat.lt_of_lt_of_le hlt4 (unhide HO).size
          go_wp2_with fail
          go_loopw [7, 8] (fun x i wr => ∃ j : Nat, j ≤ v ∧ i = .int .i64 j ∧ Hid (RowM wo.heap.size wr x (bitsM j n)) ∧ wo.heap.size ≤ wr.heap.size ∧ Hid (Below wo.heap.size wo wr)) (fun _ i _ => v - (intOf i).toNat)
          case atStart => exact ⟨0, Nat.zero_le _, rfl, HM0, hzo, (Below.refl _ _).alloc (Nat.le_refl _) _⟩
          case round =>
            rename World => wi
            obtain ⟨j, hj, rfl, HM, hwi, HB⟩ := hrel
            clear HM0 HO1 hzo
            have z0 := ((unhide HB).cell (p := ⟨w1.heap.size, 0, none⟩) hlto).trans y0
            have z1 := ((unhide HB).cell (p := ⟨w1.heap.size, 1, none⟩) hlto).trans y1
            have hbl := bitsM_len j n
            by_cases hjv : j < v
            · have j2 : (j : Int) < (v : Int) := by omega
              have hown : wi.ownsRow wo.heap.size 4 1 u7 j ((bitsM j n).map fun i => .bool i) := by
                have := unhide HM
                unfold RowM at this
                rwa [hbl] at this
              have hblk : ∀ b, u7.ownBlock = some b → wo.heap.size ≤ b := fun b hb => (World.ownsRow.lt hown b hb).1
              go_wp2_with (first
                | (at_builtin; refine wpList_append_own _ rfl _ _ 28 rfl wo.heap.size 4 i1 (.bool false) 1 1 Try.underlying28 hj1 hy0 hy1 hy2 rfl (by decide) _ _ _ rfl (hown.alloc _) ⟨wi.heap.size, 0, none⟩ 1 1 [.bool (((n : Int) / 2 ^ j).tmod 2 == 1)] rfl rfl ?c1 ?c2 ?c3 ?c4 ?c5 ?_))
              case c1 =>
                intro j u hj
                match j, hj with
                | 0, hj => simp at hj; subst hj; simp [Addr.add]
              case c2 => intro u hu; simp at hu; subst hu; rfl
              case c3 => unfold maxLen; omega
              case c4 => omega
              case c5 => simp; omega
              intro v' wj hown' hgrow _
              have HM2 : Hid (RowM wo.heap.size wj v' (bitsM (j + 1) n)) := by
                show RowM _ _ _ _
                have hb2 := bitsM_len (j + 1) n
                rw [shr_bit] at hown'
                unfold RowM
                rw [hb2, bitsM_more, List.map_append]
                exact hown'
              have hzj := hgrow.size
              simp at hzj
              have HB2 : Hid (Below wo.heap.size wo wj) := ⟨hgrow.os.trans (unhide HB).os, hgrow.tape.trans (unhide HB).tape, hgrow.output.trans (unhide HB).output, by omega, fun b hb => (hgrow.block b (by simp; omega) (fun e => by have := hblk b e.symm; omega)).trans ((blk_alloc_lt _ _ _ (by omega)).trans ((unhide HB).block b hb))⟩
              clear hown hown' hgrow HB HM
              go_wp2_with fail
              go_roundw
              case rel => exact ⟨j + 1, by omega, by go_num, HM2, by omega, HB2⟩
              case measure => simp [intOf]; omega
            · have hjv2 : j = v := by omega
              subst hjv2
              have j2 : ¬ (j : Int) < (j : Int) := by omega
              obtain ⟨ma, mc, hmv, hba⟩ := RowM.at (unhide HM) (by omega)
              subst hmv
              have HCW := hide (implCnfTrue_any (j : Int) va ls vc ma (bitsM j n) mc wi (((unhide HC4).on (unhide HO)).on (unhide HB)) hba)
              rw [hbl] at HCW
              obtain ⟨ct, hct⟩ : ∃ ct, ct = cnfTrueB (j : Int) ls (bitsM j n) := ⟨_, rfl⟩
              rw [← hct] at HCW
              have HCT := hide hct
              clear hba HM hct
              rw [hbl]
              go_wp2_with fail
              refine (unhide HCW).mono ?_
              rintro e w7 ⟨rfl, b7⟩
              have HE : Hid (Below w4.heap.size w4 w7) := (unhide HO).trans (((unhide HB).mono (unhide HO).size).trans (b7.mono (by have := (unhide HO).size; omega)))
              clear b7 HCW HB x0 x1 y0 y1 z0 z1 HO
              have hf := unhide HNO (bitsM j n)
              rw [← unhide HCT] at hf
              subst hf
              go_wp2_with fail
              go_roundw
              case rel => exact ⟨n + 1, by omega, by go_num, HE⟩
              case measure => simp [intOf]; omega
        · have j1 : ¬ (n : Int) < (N : Int) := by omega
          go_wp2_with fail
          go_ret
          exact ⟨rfl, (unhide HB4).trans ((unhide HO).mono (unhide HB4).size)⟩
end Go.Proofs.Ythkhaemlcmkkjai
