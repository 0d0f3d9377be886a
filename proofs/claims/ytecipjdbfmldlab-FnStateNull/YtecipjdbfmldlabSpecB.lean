/- The specification's own function on lists of requests. -/
import Derived.Test.YtecipjdbfmldlabSpecA
namespace Go.Proofs.Ytecipjdbfmldlab
set_option linter.unusedVariables false
set_option linter.unusedSimpArgs false
open Go.RowKit

def Drawn (w wr : World) : Prop := ∃ n, wr = w.drewN n
theorem Drawn.refl (w : World) : Drawn w w := ⟨0, rfl⟩
theorem Drawn.more {w wr : World} (h : Drawn w wr) (n : Nat) : Drawn w (wr.drewN n) := by
  obtain ⟨m, rfl⟩ := h; exact ⟨m + n, by simp⟩
theorem Drawn.cell {w wr : World} (h : Drawn w wr) (a : Addr) : wr.cell? a = w.cell? a := by
  obtain ⟨m, rfl⟩ := h; simp
theorem Drawn.below {w wr : World} (h : Drawn w wr) (B : Nat) : Below B w wr := by
  obtain ⟨m, rfl⟩ := h; exact ⟨rfl, rfl, rfl, Nat.le_refl _, fun _ _ => rfl⟩

theorem reqs_not {l : List ReqD} {k : Nat} (h : k < l.length) (hf : reqB (l.getD k dReq) = false) : reqsB l = false := by
  simp only [reqsB]
  have : l.all reqB = false := by
    rw [← List.take_append_drop (k + 1) l, List.all_append, all_take_succ (d := dReq) h, hf]; simp
  rw [this, Bool.and_false]

theorem reqB_spec (q : ReqD) : reqB q = (nameB q.name && inB q.low 0 99 && inB q.high q.low 99) := by
  rw [Bool.eq_iff_iff]
  simp only [reqB, inB, Bool.and_eq_true, decide_eq_true_eq]
  constructor
  · rintro ⟨⟨h, h1, h2⟩, h3, h4⟩; exact ⟨⟨h, by omega, by omega⟩, by omega, by omega⟩
  · rintro ⟨⟨h, h1, h2⟩, h3, h4⟩; exact ⟨⟨h, by omega, by omega⟩, by omega, by omega⟩

set_option maxHeartbeats 1000000 in
theorem l1Reqs_any (S : Nat → Nat → Prop) (a : Option Addr) (l : List ReqD) (cap : Nat) (w : World) (h : ReqsAt S w a l) :
    Calls Try.prog 37 #[.slice a l.length cap] w fun e w' => e = .returned (.bool (reqsB l)) ∧ Drawn w w' := by
  obtain ⟨hm, h⟩ := h
  unfold maxLen at hm
  by_cases h4 : (4 : Int) < (l.length : Int)
  · have e : reqsB l = false := by simp only [reqsB]; simp; omega
    go_enter Try.func37, Try.ntmps37
    go_wp2
    go_ret
    exact ⟨by first | rfl | (rw [e]; rfl), Drawn.refl _⟩
  · go_enter Try.func37, Try.ntmps37
    go_wp2
    go_loopw [3] (fun i wr => ∃ k : Nat, k ≤ l.length ∧ i = .int .i64 k ∧ Hid ((l.take k).all reqB = true) ∧ Drawn w wr) (fun i _ => l.length - (intOf i).toNat)
    case atStart => exact ⟨0, Nat.zero_le _, rfl, rfl, Drawn.refl _⟩
    case round =>
      obtain ⟨k, hk, rfl, hl, hw⟩ := hrel
      by_cases hlt : k < l.length
      · rcases h with h | ⟨b, o, rfl, hS, h⟩
        · subst h; simp at hlt
        · have hq := h k hlt
          clear h
          have e := @all_take_succ ReqD l dReq reqB k hlt
          have hno := @reqs_not l k hlt
          generalize l.getD k dReq = q at hq e hno
          obtain ⟨c0, c1, c2, hn⟩ := hq
          rw [← hw.cell] at c0 c1 c2
          have H := hide e
          clear e
          have HN := hide hno
          clear hno
          have hn' : ∀ W, Calls Try.prog 36 #[.string q.name] W fun e w' => e = .returned (.bool (nameB q.name)) ∧ w' = W := fun W => l1Name_any q.name W hn
          have H' := hide hn'
          clear hn'
          have hk0 : (0 : Int) ≤ (k : Int) := by omega
          have hk1 : (k : Int) < (l.length : Int) := by omega
          cases hv0 : nameB q.name with
          | false =>
            have hno : reqsB l = false := unhide HN (by simp [reqB_spec, hv0])
            go_wp2
            go_quiet (first | (go_at_call 36; exact Calls.quiet_of_same (unhide H' _)) | (go_at_call 35; exact Calls.quiet_of_same (l6In_any _ _ _ _)))
            go_wp2
            go_ret
            exact ⟨by first | rfl | (rw [hno]; rfl), hw.more _⟩
          | true =>
            cases hv1 : inB q.low 0 99 with
            | false =>
              have hno : reqsB l = false := unhide HN (by rw [reqB_spec, hv0, hv1]; rfl)
              go_wp2
              go_quiet (first | (go_at_call 36; exact Calls.quiet_of_same (unhide H' _)) | (go_at_call 35; exact Calls.quiet_of_same (l6In_any _ _ _ _)))
              go_wp2
              go_ret
              exact ⟨by first | rfl | (rw [hno]; rfl), hw.more _⟩
            | true =>
              cases hv2 : inB q.high q.low 99 with
              | false =>
                have hno : reqsB l = false := unhide HN (by rw [reqB_spec, hv0, hv1, hv2]; rfl)
                go_wp2
                go_quiet (first | (go_at_call 36; exact Calls.quiet_of_same (unhide H' _)) | (go_at_call 35; exact Calls.quiet_of_same (l6In_any _ _ _ _)))
                go_wp2
                go_ret
                exact ⟨by first | rfl | (rw [hno]; rfl), hw.more _⟩
              | true =>
                have hy : Hid (reqB q = true) := hide (by rw [reqB_spec, hv0, hv1, hv2]; rfl)
                go_wp2
                go_quiet (first | (go_at_call 36; exact Calls.quiet_of_same (unhide H' _)) | (go_at_call 35; exact Calls.quiet_of_same (l6In_any _ _ _ _)))
                go_wp2
                go_roundw
                case rel => exact ⟨k + 1, by omega, by go_num, by show _ = true; rw [unhide H, hl.out, hy.out]; rfl, hw.more _⟩
                case measure => simp [intOf]; omega
      · go_wp2
        go_ret
        refine ⟨ret_bool ?_, hw⟩
        have hl' := hl.out
        rw [List.take_of_length_le (by omega)] at hl'
        rw [reqsB, hl']; simp; omega
end Go.Proofs.Ytecipjdbfmldlab
