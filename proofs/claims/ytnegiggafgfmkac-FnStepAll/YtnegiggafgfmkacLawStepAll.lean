/- The walk of the law FnStepAll: of every code it answers true, and writes nothing that was there. -/
import Derived.Test.YtnegiggafgfmkacDrawUS
import Derived.Test.YtnegiggafgfmkacPureM
import Derived.Test.YtnegiggafgfmkacMvE
namespace Go.Proofs.Ytnegiggafgfmkac
set_option linter.unusedVariables false
set_option linter.unusedSimpArgs false
open Go.RowKit Go.Deep

set_option maxRecDepth 100000 in
set_option maxHeartbeats 8000000 in
theorem stepAll_any (a : Option Addr) (n c : Nat) (w : World) (h : CodeAt w.heap.size w a n) (hc : n ≤ c) (hc2 : c ≤ maxLen) :
    Calls Try.prog 4 #[.slice a n c] w fun e w' => e = .returned (.bool true) ∧ Below w.heap.size w w' := by
  have hmx := hc2
  unfold maxLen at hmx
  by_cases hbig : 1048576 < n
  · have hb' : (1048576 : Int) < (n : Int) := by omega
    go_enter Try.func4, Try.ntmps4
    go_wp2_with fail
    go_ret
    exact ⟨rfl, Below.refl _ _⟩
  have hb' : ¬ (1048576 : Int) < (n : Int) := by omega
  go_enter Try.func4, Try.ntmps4
  go_wp2_with fail
  refine (DrawStepAll_V a n c w h (by omega) hc hc2).mono ?_
  rintro e w1 ⟨⟨v, room, rfl, hV⟩, b1⟩
  obtain ⟨va, vn, vc, rfl, _⟩ := SlBy.slice hV
  obtain ⟨l, rfl, hP⟩ := V2.packs hV
  have HP1 := hide hP
  have HB1 := hide b1
  clear hV hP b1 h
  go_upto_region 4 with fail
  obtain ⟨w2, hw2⟩ : ∃ w2, w2 = w1.alloc (.cells #[.slice va l.length vc, .int .i64 room] 25) := ⟨_, rfl⟩
  rw [← hw2]
  have b2 : Below w1.heap.size w1 w2 := by rw [hw2]; exact (Below.refl _ _).alloc (Nat.le_refl _) _
  have x0 : w2.cell? ⟨w1.heap.size, 0, none⟩ = some (.slice va l.length vc) := by rw [hw2]; simp
  have x1 : w2.cell? ⟨w1.heap.size, 1, none⟩ = some (.int .i64 room) := by rw [hw2]; simp
  have hlt2 : w1.heap.size < w2.heap.size := by rw [hw2]; simp
  have HP2 := hide ((unhide HP1).on b2)
  have HB2 := hide ((unhide HB1).trans (b2.mono (unhide HB1).size))
  clear hw2 b2 HP1 HB1
  go_wp2_with fail
  refine (specStepAll_any va l vc room w2 (unhide HP2)).mono ?_
  rintro e w3 ⟨⟨v5, rfl, hs5⟩, b3⟩
  have hfew := steps_few l room
  obtain ⟨pa, pc, rfl, _, _, hS5⟩ := StepsAt.of_row hs5 (by omega)
  have HW3 := hide hS5
  have HP3 := hide ((unhide HP2).on b3)
  have HB3 := hide ((unhide HB2).trans (b3.mono (unhide HB2).size))
  have hlt3 : w1.heap.size < w3.heap.size := Nat.lt_of_lt_of_le hlt2 b3.size
  rw [← b3.cell (p := ⟨w1.heap.size, _, none⟩) hlt2] at x0 x1
  clear HP2 HB2 b3 hlt2 
  clear hs5 hS5
  go_wp2_with fail
  refine (implStepAll_any va l vc room w3 (unhide HP3)).mono ?_
  rintro e w4 ⟨⟨v6, rfl, hs6⟩, b4⟩
  obtain ⟨la, lc, rfl, _, _, hS6⟩ := StepsAt.of_row hs6 (by omega)
  have HL4 := hide hS6
  have HP4 := hide ((unhide HP3).on b4)
  have HB4 := hide ((unhide HB3).trans (b4.mono (unhide HB3).size))
  have hlt4 : w1.heap.size < w4.heap.size := Nat.lt_of_lt_of_le hlt3 b4.size
  rw [← b4.cell (p := ⟨w1.heap.size, _, none⟩) hlt3] at x0 x1
  have HW4 := hide ((unhide HW3).on b4)
  clear HP3 HB3 b4 hlt3 HW3
  clear hs6 hS6
  have HOT : Hid (∀ i j, i < (stepsL l room).length → j < i → (stepsL l room).getD i dStep ≠ (stepsL l room).getD j dStep) := fun i j hi hj => steps_other hi hj
  have HLN : Hid (repoB ⟨l, room⟩ = true → (stepsL l room).length = 2 * l.length + ((List.range l.length).flatMap (swS l)).length) := fun h => steps_len h
  generalize stepsL l room = L at *
  go_wp2_with fail
  refine (ldSteps_same la L lc pa pc w4 (unhide HL4) (unhide HW4)).mono ?_
  rintro e w5 ⟨rfl, b5⟩
  have HP5 := hide ((unhide HP4).on b5)
  have HB5 := hide ((unhide HB4).trans (b5.mono (unhide HB4).size))
  have hlt5 : w1.heap.size < w5.heap.size := Nat.lt_of_lt_of_le hlt4 b5.size
  rw [← b5.cell (p := ⟨w1.heap.size, _, none⟩) hlt4] at x0 x1
  have HW5 := hide ((unhide HW4).on b5)
  have HL5 := hide ((unhide HL4).on b5)
  clear HP4 HB4 b5 hlt4 HW4 HL4
  go_wp2_with fail
  refine (specRepoOk_any va l vc room w5 (unhide HP5)).mono ?_
  rintro e w6 ⟨rfl, b6⟩
  have HP6 := hide ((unhide HP5).on b6)
  have HB6 := hide ((unhide HB5).trans (b6.mono (unhide HB5).size))
  have hlt6 : w1.heap.size < w6.heap.size := Nat.lt_of_lt_of_le hlt5 b6.size
  rw [← b6.cell (p := ⟨w1.heap.size, _, none⟩) hlt5] at x0 x1
  have HW6 := hide ((unhide HW5).on b6)
  have HL6 := hide ((unhide HL5).on b6)
  clear HP5 HB5 b6 hlt5 HW5 HL5
  cases hrb : repoB ⟨l, room⟩ with
  | false =>
    clear hrb
    go_wp2_with fail
    refine (ldSteps_same la L lc pa pc w6 (unhide HL6) (unhide HW6)).mono ?_
    rintro e w7 ⟨rfl, b7⟩
    have HB7 := hide ((unhide HB6).trans (b7.mono (unhide HB6).size))
    clear b7 HB6 HP6 HL6 HW6
    go_wp2_with fail
    go_ret
    exact ⟨rfl, unhide HB7⟩
  | true =>
    have hl8 : l.length ≤ 8 := repo_l8 hrb
    have HLEN := hide (unhide HLN hrb)
    clear hrb HLN HW6
    have hmul : IntKind.i64.wrap (2 * (l.length : Int)) = ((2 * l.length : Nat) : Int) := by rw [IntKind.wrap_i64]; omega
    go_wp2_with fail
    go_loopw [6, 7] (fun n i wr => ∃ k : Nat, k ≤ l.length ∧ i = .int .i64 k ∧ n = .int .i64 ((2 * l.length + ((List.range k).flatMap (swS l)).length : Nat) : Int) ∧ Drawn w6 wr) (fun _ i _ => l.length - (intOf i).toNat)
    case atStart => exact ⟨0, Nat.zero_le _, rfl, by simp, Drawn.refl _⟩
    case round =>
      rename World => wo
      obtain ⟨k, hk, rfl, rfl, hw⟩ := hrel
      have X0 := x0
      have X1 := x1
      rw [← hw.cell] at X0 X1
      by_cases hlt : k < l.length
      · have j1 : (k : Int) < (l.length : Int) := by omega
        have j0 : (0 : Int) ≤ (k : Int) := by omega
        have HSU := hide (range_flat_succ (swS l) k)
        have hfl := swS_le l k
        have hfm : l.length * k ≤ 8 * 8 := Nat.mul_le_mul hl8 (by omega)
        generalize hF : ((List.range k).flatMap (swS l)).length = F at hfl
        have HF := hide hF
        clear hF
        go_wp2_with fail
        go_loopw [6, 8] (fun n i wr => ∃ j : Nat, j ≤ l.length ∧ i = .int .i64 j ∧ n = .int .i64 ((2 * l.length + F + (swTo l k j).length : Nat) : Int) ∧ Drawn w6 wr) (fun _ i _ => l.length - (intOf i).toNat)
        case atStart => exact ⟨0, Nat.zero_le _, rfl, by simp [swTo], hw⟩
        case round =>
          rename World => wx
          obtain ⟨j, hj, rfl, rfl, hx⟩ := hrel
          have Y0 := x0
          have Y1 := x1
          rw [← hx.cell] at Y0 Y1
          clear X0 X1
          by_cases hjl : j < l.length
          · have j2 : (j : Int) < (l.length : Int) := by omega
            have jj0 : (0 : Int) ≤ (j : Int) := by omega
            have hsucc := swTo_succ l k j
            have hsl := swTo_le l k j
            rcases (unhide HP6).2 with hnil | ⟨pb, po, rfl, hpS, hpk⟩
            · rw [hnil] at hlt; simp at hlt
            obtain ⟨_, _, _, _, _, _, hce1, _⟩ := hpk k hlt
            obtain ⟨_, _, _, _, _, _, hce2, _⟩ := hpk j hjl
            have n1 := hce1.name
            have n2 := hce2.name
            unfold twB at hsucc
            generalize l.getD k dPack = P1 at n1 hsucc
            generalize l.getD j dPack = P2 at n2 hsucc
            rw [← hx.cell] at n1 n2
            clear hpk hce1 hce2
            by_cases hkj : k = j
            · have HE2 := hide (show (swTo l k (j + 1)).length = (swTo l k j).length by rw [hsucc]; simp [hkj])
              have hnb : ((k : Int) != (j : Int)) = false := by simp; omega
              clear hsucc hkj
              generalize (swTo l k j).length = q at HE2 hsl
              go_wp2_with fail
              go_quiet (fail)
              go_wp2_with fail
              go_roundw
              case rel => exact ⟨j + 1, by omega, by go_num, by rw [unhide HE2], hx.more _⟩
              case measure => simp [intOf]; omega
            · have hnb : ((k : Int) != (j : Int)) = true := by simp; omega
              cases hq : (P1.name.toList == P2.name.toList) with
              | false =>
                have HE2 := hide (show (swTo l k (j + 1)).length = (swTo l k j).length by rw [hsucc, hq]; simp)
                clear hsucc hkj
                generalize (swTo l k j).length = q at HE2 hsl
                go_wp2_with fail
                go_quiet (fail)
                go_wp2_with fail
                go_roundw
                case rel => exact ⟨j + 1, by omega, by go_num, by rw [unhide HE2], hx.more _⟩
                case measure => simp [intOf]; omega
              | true =>
                have HE2 := hide (show (swTo l k (j + 1)).length = (swTo l k j).length + 1 by rw [hsucc, hq]; simp [hkj])
                clear hsucc hkj
                generalize (swTo l k j).length = q at HE2 hsl
                have hadd : IntKind.i64.wrap (((2 * l.length + F + q : Nat) : Int) + 1) = ((2 * l.length + F + (q + 1) : Nat) : Int) := by rw [IntKind.wrap_i64]; omega
                go_wp2_with fail
                go_quiet (fail)
                go_wp2_with fail
                go_roundw
                case rel => exact ⟨j + 1, by omega, by go_num, by rw [unhide HE2]; first | rfl | go_num | simpa using hadd, hx.more _⟩
                case measure => simp [intOf]; omega
          · have j2 : ¬ (j : Int) < (l.length : Int) := by omega
            have hje : j = l.length := by omega
            have HEQ := hide (show 2 * l.length + F + (swTo l k l.length).length = 2 * l.length + ((List.range (k + 1)).flatMap (swS l)).length by
              rw [unhide HSU, List.length_append, unhide HF]
              unfold swS
              omega)
            subst hje
            go_wp2_with fail
            go_roundw
            case rel => exact ⟨k + 1, by omega, by go_num, by rw [unhide HEQ], hx⟩
            case measure => simp [intOf]; omega
      · have j1 : ¬ (k : Int) < (l.length : Int) := by omega
        have hke : k = l.length := by omega
        subst hke
        rw [← unhide HLEN]
        clear HLEN
        go_wp2_with fail
        clear X0 X1 j1
        go_loopw [9] (fun i wr => ∃ k : Nat, k ≤ L.length ∧ i = .int .i64 k ∧ Drawn w6 wr) (fun i _ => L.length - (intOf i).toNat)
        case atStart => exact ⟨0, Nat.zero_le _, rfl, hw⟩
        case round =>
          rename World => wo
          obtain ⟨k, hk, rfl, hw⟩ := hrel
          by_cases hlt : k < L.length
          · have j1 : (k : Int) < (L.length : Int) := by omega
            have j0 : (0 : Int) ≤ (k : Int) := by omega
            go_wp2_with fail
            go_loopw [10] (fun i wr => ∃ j : Nat, j ≤ k ∧ i = .int .i64 j ∧ Drawn w6 wr) (fun i _ => k - (intOf i).toNat)
            case atStart => exact ⟨0, Nat.zero_le _, rfl, hw⟩
            case round =>
              rename World => wx
              obtain ⟨j, hj, rfl, hx⟩ := hrel
              by_cases hjl : j < k
              · have j2 : (j : Int) < (k : Int) := by omega
                have j3 : (j : Int) < (L.length : Int) := by omega
                have jj0 : (0 : Int) ≤ (j : Int) := by omega
                have hne := unhide HOT k j hlt hjl
                rcases (unhide HL6).2 with hnil | ⟨b, o, rfl, hbl, hrk⟩
                · rw [hnil] at hlt; simp at hlt
                obtain ⟨c0, c1, c2⟩ := hrk k hlt
                obtain ⟨d0, d1, d2⟩ := hrk j (by omega)
                generalize L.getD k dStep = s1 at c0 c1 c2 hne
                generalize L.getD j dStep = s2 at d0 d1 d2 hne
                rw [← hx.cell] at c0 c1 c2 d0 d1 d2
                obtain ⟨k1, i1, o1⟩ := s1
                obtain ⟨k2, i2, o2⟩ := s2
                simp only at c0 c1 c2 d0 d1 d2
                clear hrk
                by_cases hk12 : k1 = k2
                · by_cases hi12 : i1 = i2
                  · have ho12 : ¬ o1 = o2 := fun e => hne (by rw [hk12, hi12, e])
                    rw [← hk12] at d0
                    rw [← hi12] at d1
                    clear hk12 hi12 hne
                    go_wp2_with fail
                    go_quiet (fail)
                    go_wp2_with fail
                    go_roundw
                    case rel => exact ⟨j + 1, by omega, by go_num, hx.more _⟩
                    case measure => simp [intOf]; omega
                  · rw [← hk12] at d0
                    clear hk12 hne
                    go_wp2_with fail
                    go_quiet (fail)
                    go_wp2_with fail
                    go_roundw
                    case rel => exact ⟨j + 1, by omega, by go_num, hx.more _⟩
                    case measure => simp [intOf]; omega
                · clear hne
                  go_wp2_with fail
                  go_quiet (fail)
                  go_wp2_with fail
                  go_roundw
                  case rel => exact ⟨j + 1, by omega, by go_num, hx.more _⟩
                  case measure => simp [intOf]; omega
              · have j2 : ¬ (j : Int) < (k : Int) := by omega
                go_wp2_with fail
                go_roundw
                case rel => exact ⟨k + 1, by omega, by go_num, hx⟩
                case measure => simp [intOf]; omega
          · have j1 : ¬ (k : Int) < (L.length : Int) := by omega
            go_wp2_with fail
            go_ret
            exact ⟨by simp, (unhide HB6).trans ((hw.below _).mono (unhide HB6).size)⟩
end Go.Proofs.Ytnegiggafgfmkac
