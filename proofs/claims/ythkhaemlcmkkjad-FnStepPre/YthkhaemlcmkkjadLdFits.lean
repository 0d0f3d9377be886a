/- The laws' ldFits: whether a pack fits one of some requests. -/
import Derived.Test.YthkhaemlcmkkjadGSpecP
import Derived.Deep.QuietTactic
namespace Go.Proofs.Ythkhaemlcmkkjad
set_option linter.unusedVariables false
set_option linter.unusedSimpArgs false
open Go.RowKit Go.Deep

set_option maxRecDepth 100000 in
set_option maxHeartbeats 4000000 in
theorem ldFits_any (p : PackD) (a1 : Option Addr) (c1 : Nat) (a2 : Option Addr) (c2 : Nat) (a3 : Option Addr) (c3 : Nat) (ra : Option Addr) (reqs : List ReqD) (rc : Nat) (w : World) (hr : ReqsAt (Old w) w ra reqs) :
    Calls Try.prog 13 #[.agg #[.string p.name, .int .i64 p.ver, .int .i64 p.size, .slice a1 p.deps.length c1, .slice a2 p.pres.length c2, .slice a3 p.bans.length c3], .slice ra reqs.length rc] w
      fun e w' => e = .returned (.bool (anyB reqs p)) ∧ Below w.heap.size w w' := by
  have hrm := hr.1
  unfold maxLen at hrm
  have HR := hide hr
  clear hr
  go_enter Try.func13, Try.ntmps13
  go_wp2_with fail
  obtain ⟨w0, hw0⟩ : ∃ w0, w0 = w.alloc (.cells #[.string p.name, .int .i64 p.ver, .int .i64 p.size, .slice a1 p.deps.length c1, .slice a2 p.pres.length c2, .slice a3 p.bans.length c3] 37) := ⟨_, rfl⟩
  have bA : Below w.heap.size w w0 := by rw [hw0]; exact (Below.refl _ _).alloc (Nat.le_refl _) _
  have x0 : w0.cell? ⟨w.heap.size, 0, none⟩ = some (.string p.name) := by rw [hw0]; simp
  have x1 : w0.cell? ⟨w.heap.size, 1, none⟩ = some (.int .i64 p.ver) := by rw [hw0]; simp
  rw [← hw0]
  have HA := hide bA
  clear hw0 bA
  go_loopw [5] (fun i wr => ∃ k : Nat, k ≤ reqs.length ∧ i = .int .i64 k ∧ Hid ((reqs.take k).any (fun q => fitsB q p) = false) ∧ Drawn w0 wr) (fun i _ => reqs.length - (intOf i).toNat)
  case atStart => exact ⟨0, Nat.zero_le _, rfl, rfl, Drawn.refl _⟩
  case round =>
    rename World => wo
    obtain ⟨k, hk, rfl, HN, hw⟩ := hrel
    by_cases hlt : k < reqs.length
    · have j1 : (k : Int) < (reqs.length : Int) := by omega
      have j0 : (0 : Int) ≤ (k : Int) := by omega
      rcases (unhide HR).2 with hnil | ⟨rb, ro, rfl, hrS, hrk⟩
      · rw [hnil] at hlt; simp at hlt
      obtain ⟨q0, q1, q2, _⟩ := hrk k hlt
      have htk := any_take_succ (d := dReq) (f := fun q => fitsB q p) hlt
      have hres : fitsB (reqs.getD k dReq) p = true → anyB reqs p = true := fun h1 => by
        unfold anyB
        exact any_of_take hlt h1
      generalize reqs.getD k dReq = q at q0 q1 q2 htk hres
      have HTK := hide htk
      have HRES := hide hres
      have hrw : rb < w.heap.size := hrS
      rw [← (unhide HA).cell (p := ⟨rb, _, none⟩) hrw, ← hw.cell] at q0 q1 q2
      have X0 := x0
      have X1 := x1
      rw [← hw.cell] at X0 X1
      clear htk hres hrk x0 x1
      cases hE : (p.name.toList == q.name.toList) with
      | false =>
        have HF := hide (show (reqs.take (k + 1)).any (fun q => fitsB q p) = false by rw [unhide HTK, unhide HN]; simp [fitsB, hE])
        clear HTK HRES HN
        go_wp2_with fail
        go_quiet (fail)
        go_wp2_with fail
        go_roundw
        case rel => exact ⟨k + 1, by omega, by go_num, HF, hw.more _⟩
        case measure => simp [intOf]; omega
      | true =>
        by_cases hlo : q.low ≤ p.ver
        · by_cases hhi : p.ver ≤ q.high
          · have HT := hide (unhide HRES (by simp [fitsB, hE, inB, hlo, hhi]))
            clear HTK HRES HN
            go_wp2_with fail
            go_quiet (fail)
            go_wp2_with fail
            go_ret
            exact ⟨ret_bool (unhide HT).symm, (unhide HA).trans (((hw.more _).below _).mono (unhide HA).size)⟩
          · have HF := hide (show (reqs.take (k + 1)).any (fun q => fitsB q p) = false by rw [unhide HTK, unhide HN]; simp [fitsB, hE, inB, hhi])
            clear HTK HRES HN
            go_wp2_with fail
            go_quiet (fail)
            go_wp2_with fail
            go_roundw
            case rel => exact ⟨k + 1, by omega, by go_num, HF, hw.more _⟩
            case measure => simp [intOf]; omega
        · have hlb : decide (q.low ≤ p.ver) = false := by simp; omega
          have hlt2 : p.ver < q.low := by omega
          have HF := hide (show (reqs.take (k + 1)).any (fun q => fitsB q p) = false by rw [unhide HTK, unhide HN]; simp [fitsB, hE, inB, hlo])
          clear HTK HRES HN
          go_wp2_with fail
          go_quiet (fail)
          go_wp2_with fail
          go_roundw
          case rel => exact ⟨k + 1, by omega, by go_num, HF, hw.more _⟩
          case measure => simp [intOf]; omega
    · have j1 : ¬ (k : Int) < (reqs.length : Int) := by omega
      have HF := hide (show anyB reqs p = false by
        have := unhide HN
        rw [List.take_of_length_le (by omega)] at this
        exact this)
      clear HN
      go_wp2_with fail
      go_ret
      exact ⟨ret_bool (unhide HF).symm, (unhide HA).trans ((hw.below _).mono (unhide HA).size)⟩
end Go.Proofs.Ythkhaemlcmkkjad
