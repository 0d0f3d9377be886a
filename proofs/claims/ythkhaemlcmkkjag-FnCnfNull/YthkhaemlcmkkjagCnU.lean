/- Whether clauses hold of what is so: the specification's answer; the law's copies of what is so. -/
import Derived.Test.YthkhaemlcmkkjagGCn
import Derived.Test.YthkhaemlcmkkjagGStA
namespace Go.Proofs.Ythkhaemlcmkkjag
set_option linter.unusedVariables false
set_option linter.unusedSimpArgs false
open Go.RowKit Go.Deep Go.Sort

set_option maxHeartbeats 4000000 in
theorem specCnfTrue_any (vars : Int) (a : Option Addr) (cs : List (List Int)) (cap : Nat) (ma : Option Addr) (m : List Bool) (mc : Nat) (w : World) (h : ClsAt w a cs) (hm : BoolsAt w ma m) :
    Calls Try.prog 20 #[.agg #[.int .i64 vars, .slice a cs.length cap], .slice ma m.length mc] w fun e w' => e = .returned (.bool (cnfTrueB vars cs m)) ∧ Below w.heap.size w w' := by
  have hml := hm.1
  have hcl := h.1
  have HV := hide h
  have HM := hide hm
  have HO := hide (fun W (hW : Below w.heap.size w W) => specCnfOk_any vars a cs cap W (h.on hW))
  clear h hm
  cases hok : cnfB vars cs with
  | false =>
    have e : cnfTrueB vars cs m = false := by simp [cnfTrueB, hok]
    have HE := hide e
    clear e
    go_enter Try.func20, Try.ntmps20
    go_wp2_with fail
    refine (unhide HO _ ((Below.refl _ _).alloc (Nat.le_refl _) _)).mono ?_
    rintro e w1 ⟨rfl, hb⟩
    have HB := hide (((Below.refl w.heap.size w).alloc (Nat.le_refl _) _).trans (hb.mono (by simp)))
    clear hb
    rw [hok]
    go_wp2_with fail
    go_ret
    exact ⟨ret_bool (unhide HE).symm, unhide HB⟩
  | true =>
    by_cases hl : (m.length : Int) = vars
    · have HOK := hide hok
      have HVL := hide hl
      go_enter Try.func20, Try.ntmps20
      go_wp2_with fail
      refine (unhide HO _ ((Below.refl _ _).alloc (Nat.le_refl _) _)).mono ?_
      rintro e w1 ⟨rfl, hb⟩
      have x0 := hb.cell (p := ⟨w.heap.size, 0, none⟩) (by simp)
      have x1 := hb.cell (p := ⟨w.heap.size, 1, none⟩) (by simp)
      simp at x0 x1
      have HB := hide (((Below.refl w.heap.size w).alloc (Nat.le_refl _) _).trans (hb.mono (by simp)))
      clear hb
      rw [hok]
      obtain ⟨hcm, hc⟩ := (unhide HV).on (unhide HB)
      have HMM := hide ((unhide HM).on (unhide HB))
      clear hok
      go_wp2_with fail
      go_loopw [5] (fun i wr => ∃ k : Nat, k ≤ cs.length ∧ i = .int .i64 k ∧ Hid ((cs.take k).all (holdsB m) = true) ∧ wr = w1) (fun i _ => cs.length - (intOf i).toNat)
      case atStart => exact ⟨0, Nat.zero_le _, rfl, rfl, rfl⟩
      case round =>
        rename World => wo
        obtain ⟨k, hk, rfl, hn, rfl⟩ := hrel
        by_cases hlt : k < cs.length
        · have j1 : (k : Int) < (cs.length : Int) := by omega
          rcases hc with hc | ⟨b, o, rfl, hSb, hc⟩
          · subst hc; simp at hlt
          obtain ⟨a', c', c0, hq⟩ := hc k hlt
          clear hc
          have hls := cls_lits (unhide HOK) hlt
          have H := hide (@all_take_succ (List Int) cs [] (holdsB m) k hlt)
          have HN := hide (@all_not_take (List Int) cs [] (holdsB m) k hlt)
          generalize cs.getD k [] = q at c0 H HN hq hls
          obtain ⟨hql, hq⟩ := hq
          have HL := hide hls
          clear hls
          go_wp2_with fail
          go_loopw [6, 7] (fun s i wr => ∃ j : Nat, j ≤ q.length ∧ i = .int .i64 j ∧ s = .bool ((q.take j).any (soB m)) ∧ wr = wo) (fun _ i _ => q.length - (intOf i).toNat)
          case atStart => exact ⟨0, Nat.zero_le _, rfl, rfl, rfl⟩
          case round =>
            rename World => wi
            obtain ⟨j, hj, rfl, rfl, rfl⟩ := hrel
            by_cases hjl : j < q.length
            · have j2 : (j : Int) < (q.length : Int) := by omega
              rcases hq with hq | ⟨b2, o2, rfl, hSb2, hq⟩
              · subst hq; simp at hjl
              have d0 := hq j hjl
              obtain ⟨q1, q2, q3⟩ := unhide HL _ (getD_mem (d := 0) hjl)
              rw [← unhide HVL] at q2 q3
              have HA := hide (@cany_take_succ Int q 0 (soB m) j hjl)
              clear hq
              generalize q.getD j 0 = x at d0 q1 q2 q3 HA
              obtain ⟨mb, mo, n, rfl, hnl, e0, hp, hqq⟩ := so_at (unhide HMM) q1 q2 q3
              have j3 : (n : Int) < (m.length : Int) := by omega
              cases hs : (q.take j).any (soB m) with
              | true =>
                have HA' : Hid ((q.take (j + 1)).any (soB m) = true) := (unhide HA).trans (by rw [hs]; simp)
                clear HA hp hqq
                go_wp2_with fail
                go_roundw
                case rel => exact ⟨j + 1, by omega, by go_num, by rw [unhide HA'], by first | rfl | trivial⟩
                case measure => simp [intOf]; omega
              | false =>
                by_cases hpos : 0 < x
                · obtain ⟨f1, f2⟩ := hp hpos
                  have hng : ¬ x < 0 := by omega
                  have HA' : Hid ((q.take (j + 1)).any (soB m) = m.getD n false) := (unhide HA).trans (by rw [hs, f2]; simp)
                  clear HA hp hqq f2
                  cases hb : m.getD n false with
                  | true =>
                    rw [hb] at e0 HA'
                    go_wp2_with fail
                    go_roundw
                    case rel => exact ⟨j + 1, by omega, by go_num, by first | (rw [unhide HA']; done) | (rw [unhide HA']; rfl) | simp [unhide HA'], by first | rfl | trivial⟩
                    case measure => simp [intOf]; omega
                  | false =>
                    rw [hb] at e0 HA'
                    go_wp2_with fail
                    go_roundw
                    case rel => exact ⟨j + 1, by omega, by go_num, by first | (rw [unhide HA']; done) | (rw [unhide HA']; rfl) | simp [unhide HA'], by first | rfl | trivial⟩
                    case measure => simp [intOf]; omega
                · have hng : x < 0 := by omega
                  obtain ⟨f0, f1, f2⟩ := hqq hng
                  have HA' : Hid ((q.take (j + 1)).any (soB m) = !m.getD n false) := (unhide HA).trans (by rw [hs, f2]; simp)
                  clear HA hp hqq f2
                  cases hb : m.getD n false with
                  | true =>
                    rw [hb] at e0 HA'
                    go_wp2_with fail
                    go_roundw
                    case rel => exact ⟨j + 1, by omega, by go_num, by first | (rw [unhide HA']; done) | (rw [unhide HA']; rfl) | simp [unhide HA'], by first | rfl | trivial⟩
                    case measure => simp [intOf]; omega
                  | false =>
                    rw [hb] at e0 HA'
                    go_wp2_with fail
                    go_roundw
                    case rel => exact ⟨j + 1, by omega, by go_num, by first | (rw [unhide HA']; done) | (rw [unhide HA']; rfl) | simp [unhide HA'], by first | rfl | trivial⟩
                    case measure => simp [intOf]; omega
            · have j2 : ¬ (j : Int) < (q.length : Int) := by omega
              have hs := cany_of_take (f := soB m) hjl
              cases hb : (q.take j).any (soB m) with
              | false =>
                have HF := hide (unhide HN (hs.symm.trans hb))
                clear H HN hs
                go_wp2_with fail
                go_ret
                exact ⟨ret_bool (by simp [cnfTrueB, unhide HF]), unhide HB⟩
              | true =>
                have HA : Hid ((cs.take (k + 1)).all (holdsB m) = true) := (unhide H).trans (by rw [hn.out]; exact hs.symm.trans hb)
                clear H HN hs
                go_wp2_with fail
                go_roundw
                case rel => exact ⟨k + 1, by omega, by go_num, unhide HA, by first | rfl | trivial⟩
                case measure => simp [intOf]; omega
        · have j1 : ¬ (k : Int) < (cs.length : Int) := by omega
          have HF := hide (all_of_take hlt hn.out)
          go_wp2_with fail
          go_ret
          exact ⟨ret_bool (by simp [cnfTrueB, unhide HF, unhide HOK, unhide HVL]), unhide HB⟩
    · have e : cnfTrueB vars cs m = false := by simp [cnfTrueB, hl]
      have HE := hide e
      have hl' : ((m.length : Int) != vars) = true := by simpa using hl
      clear e
      go_enter Try.func20, Try.ntmps20
      go_wp2_with fail
      refine (unhide HO _ ((Below.refl _ _).alloc (Nat.le_refl _) _)).mono ?_
      rintro e w1 ⟨rfl, hb⟩
      have x0 := hb.cell (p := ⟨w.heap.size, 0, none⟩) (by simp)
      simp at x0
      have HB := hide (((Below.refl w.heap.size w).alloc (Nat.le_refl _) _).trans (hb.mono (by simp)))
      clear hb
      rw [hok]
      go_wp2_with fail
      go_ret
      exact ⟨ret_bool (unhide HE).symm, unhide HB⟩

end Go.Proofs.Ythkhaemlcmkkjag
