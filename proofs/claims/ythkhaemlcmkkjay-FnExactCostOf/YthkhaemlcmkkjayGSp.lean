/- The specification's looks at a step. The specification's StepDo. The specification's StepDo, of states of any length. -/
import Derived.Test.YthkhaemlcmkkjayGPd
import Derived.Test.YthkhaemlcmkkjayGSpecP
import Derived.Deep.QuietTactic
import Derived.Laws.AppendOwnNone
namespace Go.Proofs.Ythkhaemlcmkkjay
set_option linter.unusedVariables false
set_option linter.unusedSimpArgs false
open Go.RowKit Go.Deep

set_option maxRecDepth 100000 in
set_option maxHeartbeats 2000000 in
theorem l3Step_any (a : Option Addr) (l : List PackD) (cap : Nat) (room : Int) (s : StepD) (w : World) (h : PacksAt (Old w) w a l) :
    Calls Try.prog 36 #[.agg #[.slice a l.length cap, .int .i64 room], .agg #[.int .i64 s.kind, .int .i64 s.inn, .int .i64 s.out]] w fun e w' => e = .returned (.bool ((stepsL l room).any (fun t => eqS t s))) ∧ Below w.heap.size w w' := by
  have b1 := ((Below.refl w.heap.size w).alloc (Nat.le_refl _) (.cells #[.slice a l.length cap, .int .i64 room] 31)).alloc (by simp) (.cells #[.int .i64 s.kind, .int .i64 s.inn, .int .i64 s.out] 44)
  have HC := hide (specStepAll_any a l cap room _ (h.on b1))
  clear h
  go_enter Try.func36, Try.ntmps36
  go_wp2_with fail
  refine (unhide HC).mono ?_
  rintro e w2 ⟨⟨v, rfl, hrow⟩, b2⟩
  have z2 := b2.size
  simp at z2
  have s0 := b2.cell (p := ⟨w.heap.size + 1, 0, none⟩) (by simp)
  have s1 := b2.cell (p := ⟨w.heap.size + 1, 1, none⟩) (by simp)
  have s2 := b2.cell (p := ⟨w.heap.size + 1, 2, none⟩) (by simp)
  simp at s0 s1 s2
  have HB2 := hide (b1.trans (b2.mono (by simp; omega)))
  have hlen := stepsL_few l room
  obtain ⟨qa, qc, rfl, _, _, hS⟩ := StepsAt.of_row hrow (by omega)
  have HS := hide hS
  clear HC b2 b1 hrow hS
  generalize hLL : stepsL l room = L at HS hlen ⊢
  have HLE := hide hLL
  clear hLL
  go_wp2_with fail
  go_loopw [6] (fun i wr => ∃ k : Nat, k ≤ L.length ∧ i = .int .i64 k ∧ Hid ((L.take k).any (fun t => eqS t s) = false) ∧ Drawn w2 wr) (fun i _ => L.length - (intOf i).toNat)
  case atStart => exact ⟨0, Nat.zero_le _, rfl, rfl, Drawn.refl _⟩
  case round =>
    rename World => wo
    obtain ⟨k, hk, rfl, HN, hw⟩ := hrel
    by_cases hlt : k < L.length
    · have j1 : (k : Int) < (L.length : Int) := by omega
      have j0 : (0 : Int) ≤ (k : Int) := by omega
      rcases (unhide HS).2 with hnil | ⟨b, o, rfl, hbl, hrk⟩
      · rw [hnil] at hlt; simp at hlt
      obtain ⟨c0, c1, c2⟩ := hrk k hlt
      have htk := any_take_succ (d := dStep) (f := fun t => eqS t s) hlt
      have hyes := fun h => any_of_take (d := dStep) (f := fun t => eqS t s) hlt h
      generalize L.getD k dStep = t at c0 c1 c2 htk hyes
      have S0 := s0
      have S1 := s1
      have S2 := s2
      rw [← hw.cell] at c0 c1 c2 S0 S1 S2
      have HTK := hide htk
      have HY := hide hyes
      clear hrk htk hyes s0 s1 s2
      obtain ⟨k1, i1, o1⟩ := t
      obtain ⟨k2, i2, o2⟩ := s
      simp only at c0 c1 c2 S0 S1 S2
      by_cases hkk : k1 = k2
      · by_cases hii : i1 = i2
        · by_cases hoo : o1 = o2
          · have HT := hide (unhide HY (by simp [eqS, hkk, hii, hoo]))
            rw [← hkk] at S0
            rw [← hii] at S1
            rw [← hoo] at S2
            clear hkk hii hoo HTK HY
            go_wp2_with fail
            go_quiet (fail)
            go_wp2_with fail
            go_ret
            exact ⟨ret_bool (by rw [unhide HLE]; exact (unhide HT).symm), (unhide HB2).trans (((hw.more _).below _).mono (unhide HB2).size)⟩
          · have HF := hide (show (L.take (k + 1)).any (fun t => eqS t ⟨k2, i2, o2⟩) = false by rw [unhide HTK, unhide HN]; simp [eqS, hoo])
            rw [← hkk] at S0
            rw [← hii] at S1
            clear hkk hii HTK HY
            go_wp2_with fail
            go_quiet (fail)
            go_wp2_with fail
            go_roundw
            case rel => exact ⟨k + 1, by omega, by go_num, HF, hw.more _⟩
            case measure => simp [intOf]; omega
        · have HF := hide (show (L.take (k + 1)).any (fun t => eqS t ⟨k2, i2, o2⟩) = false by rw [unhide HTK, unhide HN]; simp [eqS, hii])
          rw [← hkk] at S0
          clear hkk HTK HY
          go_wp2_with fail
          go_quiet (fail)
          go_wp2_with fail
          go_roundw
          case rel => exact ⟨k + 1, by omega, by go_num, HF, hw.more _⟩
          case measure => simp [intOf]; omega
      · have HF := hide (show (L.take (k + 1)).any (fun t => eqS t ⟨k2, i2, o2⟩) = false by rw [unhide HTK, unhide HN]; simp [eqS, hkk])
        clear HTK HY
        go_wp2_with fail
        go_quiet (fail)
        go_wp2_with fail
        go_roundw
        case rel => exact ⟨k + 1, by omega, by go_num, HF, hw.more _⟩
        case measure => simp [intOf]; omega
    · have j1 : ¬ (k : Int) < (L.length : Int) := by omega
      have HF := hide (show L.any (fun t => eqS t s) = false by
        have := unhide HN
        rw [List.take_of_length_le (by omega)] at this
        exact this)
      go_wp2_with fail
      go_ret
      exact ⟨ret_bool (by rw [unhide HLE]; exact (unhide HF).symm), (unhide HB2).trans ((hw.below _).mono (unhide HB2).size)⟩

theorem ReqsAt.one {S : Nat → Nat → Prop} {w : World} {b o : Nat} {l : List ReqD} (h : ReqsAt S w (some ⟨b, o, none⟩) l) {k : Nat} (hk : k < l.length) : ReqsAt S w (some ⟨b, o + k * 3, none⟩) [l.getD k dReq] := by
  obtain ⟨h0, h⟩ := h
  rcases h with h | ⟨b', o', ha, hS, h⟩
  · rw [h] at hk; simp at hk
  · simp at ha
    obtain ⟨rfl, rfl⟩ := ha
    refine ⟨by simp [maxLen], Or.inr ⟨b, o + k * 3, rfl, hS, fun i hi => ?_⟩⟩
    simp at hi
    subst hi
    simpa using h k hk

end Go.Proofs.Ythkhaemlcmkkjay

namespace Go.Proofs.Ythkhaemlcmkkjay
set_option linter.unusedVariables false
set_option linter.unusedSimpArgs false
open Go.RowKit Go.Deep

end Go.Proofs.Ythkhaemlcmkkjay

namespace Go.Proofs.Ythkhaemlcmkkjay
set_option linter.unusedVariables false
set_option linter.unusedSimpArgs false
open Go.RowKit Go.Deep

end Go.Proofs.Ythkhaemlcmkkjay
