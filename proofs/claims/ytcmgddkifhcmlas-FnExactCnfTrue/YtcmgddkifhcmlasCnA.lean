/- Clauses in memory: rows of numbers; the specification's test of them. -/
import Derived.Test.YtcmgddkifhcmlasGStA
import Derived.Test.YtcmgddkifhcmlasGImpl
namespace Go.Proofs.Ytcmgddkifhcmlas
set_option linter.unusedVariables false
set_option linter.unusedSimpArgs false
open Go.RowKit Go.Deep

/-- Rows of numbers that lie in memory, read alone. -/
def ClsAt (w : World) (a : Option Addr) (cs : List (List Int)) : Prop := cs.length ≤ 1048576 ∧ (cs = [] ∨ ∃ b o, a = some ⟨b, o, none⟩ ∧ b < w.heap.size ∧ ∀ i, i < cs.length → ∃ a' c, w.cell? ⟨b, o + i, none⟩ = some (.slice a' (cs.getD i []).length c) ∧ SetAt w a' (cs.getD i []))
theorem ClsAt.on {w w' : World} {a : Option Addr} {cs : List (List Int)} (h : ClsAt w a cs) (hb : Below w.heap.size w w') : ClsAt w' a cs := by
  obtain ⟨hl, h⟩ := h
  refine ⟨hl, h.imp id fun ⟨b, o, ha, hlt, hc⟩ => ⟨b, o, ha, Nat.lt_of_lt_of_le hlt hb.size, fun i hi => ?_⟩⟩
  obtain ⟨a', c, h1, h2⟩ := hc i hi
  exact ⟨a', c, (hb.cell (p := ⟨b, o + i, none⟩) hlt).trans h1, h2.on hb⟩
def litB (vars x : Int) : Bool := !decide (x = 0) && inB x (-vars) vars
def litsB (vars : Int) (l : List Int) : Bool := decide (l.length ≤ 400) && l.all (litB vars)
def cnfB (vars : Int) (cs : List (List Int)) : Bool := inB vars 0 400 && (decide (cs.length ≤ 6000) && cs.all (litsB vars))
theorem neg_wrap {v : Int} (h0 : 0 ≤ v) (h1 : v ≤ 400) : IntKind.i64.wrap (-v) = -v := by rw [IntKind.wrap_i64]; omega

set_option maxHeartbeats 2000000 in
theorem l11Clause_any (vars : Int) (hv0 : 0 ≤ vars) (hv1 : vars ≤ 400) (a : Option Addr) (l : List Int) (cap : Nat) (w : World) (h : SetAt w a l) :
    Calls Try.prog 56 #[.int .i64 vars, .slice a l.length cap] w fun e w' => e = .returned (.bool (litsB vars l)) ∧ w' = w := by
  obtain ⟨hm, h⟩ := h
  have hneg := neg_wrap hv0 hv1
  by_cases h4 : (l.length : Int) ≤ 400
  · have h4' : Hid (l.length ≤ 400) := by show _ ≤ _; omega
    have h4n : ¬ (400 : Int) < (l.length : Int) := by omega
    go_enter Try.func56, Try.ntmps56
    go_wp2
    go_loopw [5] (fun i wr => ∃ k : Nat, k ≤ l.length ∧ i = .int .i64 k ∧ Hid ((l.take k).all (litB vars) = true) ∧ wr = w) (fun i _ => l.length - (intOf i).toNat)
    case atStart => exact ⟨0, Nat.zero_le _, rfl, rfl, rfl⟩
    case round =>
      rename World => wo
      obtain ⟨k, hk, rfl, hl, rfl⟩ := hrel
      by_cases hlt : k < l.length
      · rcases h with h | ⟨b, o, rfl, hSb, h⟩
        · subst h; simp at hlt
        · have c0 := h k hlt
          clear h
          have H := hide (@all_take_succ Int l 0 (litB vars) k hlt)
          have HN := hide (@all_not_take Int l 0 (litB vars) k hlt)
          generalize l.getD k 0 = z at c0 H HN
          have j1 : (k : Int) < (l.length : Int) := by omega
          by_cases hz : z = 0
          · have HF := hide (unhide HN (by simp [litB, hz]))
            clear H HN
            go_wp2_with fail
            go_ret
            exact ⟨ret_bool (by simp [litsB, unhide HF]), rfl⟩
          · have hzb : (z == 0) = false := by simpa using hz
            cases hin : inB z (-vars) vars with
            | false =>
              have HF := hide (unhide HN (by simp [litB, hin]))
              clear H HN
              go_wp2_with fail
              refine (l6In_any _ _ _ _).mono ?_
              rintro e w1 ⟨rfl, rfl⟩
              rw [hin]
              go_wp2_with fail
              go_ret
              exact ⟨ret_bool (by simp [litsB, unhide HF]), rfl⟩
            | true =>
              have HA : Hid ((l.take (k + 1)).all (litB vars) = true) := (unhide H).trans (by rw [hl.out]; simp [litB, hz, hin])
              clear H HN
              go_wp2_with fail
              refine (l6In_any _ _ _ _).mono ?_
              rintro e w1 ⟨rfl, rfl⟩
              rw [hin]
              go_wp2_with fail
              go_roundw
              case rel => exact ⟨k + 1, by omega, by go_num, unhide HA, by first | rfl | trivial⟩
              case measure => simp [intOf]; omega
      · have j1 : ¬ (k : Int) < (l.length : Int) := by omega
        go_wp2_with fail
        go_ret
        refine ⟨ret_bool ?_, rfl⟩
        have := all_of_take hlt hl.out
        have h40 := h4'.out
        simp only [litsB, this, Bool.and_true]
        simp [h40]
  · have e : litsB vars l = false := by simp only [litsB]; simp; omega
    have h4n : (400 : Int) < (l.length : Int) := by omega
    go_enter Try.func56, Try.ntmps56
    go_wp2
    go_ret
    exact ⟨by first | rfl | (rw [e]; rfl), rfl⟩

set_option maxHeartbeats 2000000 in
theorem specCnfOk_any (vars : Int) (a : Option Addr) (cs : List (List Int)) (cap : Nat) (w : World) (h : ClsAt w a cs) :
    Calls Try.prog 18 #[.agg #[.int .i64 vars, .slice a cs.length cap]] w fun e w' => e = .returned (.bool (cnfB vars cs)) ∧ Below w.heap.size w w' := by
  have hon := h.on ((Below.refl w.heap.size w).alloc (Nat.le_refl _) (.cells #[.int .i64 vars, .slice a cs.length cap] 46))
  obtain ⟨hm, h⟩ := hon
  cases hin : inB vars 0 400 with
  | false =>
    have e : cnfB vars cs = false := by simp [cnfB, hin]
    have HE := hide e
    clear e h
    go_enter Try.func18, Try.ntmps18
    go_wp2_with fail
    refine (l6In_any _ _ _ _).mono ?_
    rintro e w1 ⟨rfl, rfl⟩
    rw [hin]
    go_wp2_with fail
    go_ret
    exact ⟨ret_bool (unhide HE).symm, (Below.refl w.heap.size w).alloc (Nat.le_refl _) _⟩
  | true =>
    have hv : 0 ≤ vars ∧ vars ≤ 400 := by simpa [inB] using hin
    obtain ⟨hv0, hv1⟩ := hv
    by_cases hc : cs.length ≤ 6000
    · have j0 : ¬ (6000 : Int) < (cs.length : Int) := by omega
      go_enter Try.func18, Try.ntmps18
      go_wp2_with fail
      refine (l6In_any _ _ _ _).mono ?_
      rintro e w1 ⟨rfl, rfl⟩
      rw [hin]
      go_wp2_with fail
      obtain ⟨w0, hw0⟩ : ∃ w0, w0 = w.alloc (.cells #[.int .i64 vars, .slice a cs.length cap] 46 (0, 0)) := ⟨_, rfl⟩
      have x0 : w0.cell? ⟨w.heap.size, 0, none⟩ = some (.int .i64 vars) := by rw [hw0]; simp
      have x1 : w0.cell? ⟨w.heap.size, 1, none⟩ = some (.slice a cs.length cap) := by rw [hw0]; simp
      have HB0 : Hid (Below w.heap.size w w0) := by rw [hw0]; exact (Below.refl w.heap.size w).alloc (Nat.le_refl _) _
      rw [← hw0] at h ⊢
      clear hw0
      go_loopw [3] (fun i wr => ∃ k : Nat, k ≤ cs.length ∧ i = .int .i64 k ∧ Hid ((cs.take k).all (litsB vars) = true) ∧ Drawn w0 wr) (fun i _ => cs.length - (intOf i).toNat)
      case atStart => exact ⟨0, Nat.zero_le _, rfl, rfl, Drawn.refl _⟩
      case round =>
        rename World => wo
        obtain ⟨k, hk, rfl, hl, hw⟩ := hrel
        rw [← hw.cell] at x0 x1
        by_cases hlt : k < cs.length
        · rcases h with h | ⟨b, o, rfl, hSb, h⟩
          · subst h; simp at hlt
          · obtain ⟨a', c', c0, hq⟩ := h k hlt
            clear h
            have H := hide (@all_take_succ (List Int) cs [] (litsB vars) k hlt)
            have HN := hide (@all_not_take (List Int) cs [] (litsB vars) k hlt)
            rw [← hw.cell] at c0
            generalize cs.getD k [] = q at c0 H HN hq
            have HQ := hide (fun w1 (h1 : Drawn w0 w1) => l11Clause_any vars hv0 hv1 a' q c' w1 (hq.on (h1.below _)))
            clear hq
            have j1 : (k : Int) < (cs.length : Int) := by omega
            cases hb : litsB vars q with
            | false =>
              have HF := hide (unhide HN hb)
              clear H HN
              go_wp2_with fail
              go_quiet (first | (go_at_call 56; exact Calls.quiet_of_same (unhide HQ _ (hw.more _))))
              rw [hb]
              go_wp2_with fail
              go_ret
              exact ⟨ret_bool (by simp [cnfB, unhide HF]), (unhide HB0).trans (((hw.more _).below _).mono (unhide HB0).size)⟩
            | true =>
              have HA : Hid ((cs.take (k + 1)).all (litsB vars) = true) := (unhide H).trans (by rw [hl.out, hb]; rfl)
              clear H HN
              go_wp2_with fail
              go_quiet (first | (go_at_call 56; exact Calls.quiet_of_same (unhide HQ _ (hw.more _))))
              rw [hb]
              go_wp2_with fail
              go_roundw
              case rel => exact ⟨k + 1, by omega, by go_num, unhide HA, hw.more _⟩
              case measure => simp [intOf]; omega
        · have j1 : ¬ (k : Int) < (cs.length : Int) := by omega
          go_wp2_with fail
          go_ret
          refine ⟨ret_bool ?_, (unhide HB0).trans ((hw.below _).mono (unhide HB0).size)⟩
          have := all_of_take hlt hl.out
          simp only [cnfB, this, hin, Bool.and_true, Bool.true_and]
          simpa using hc
    · have e : cnfB vars cs = false := by simp only [cnfB]; simp; omega
      have j0 : (6000 : Int) < (cs.length : Int) := by omega
      go_enter Try.func18, Try.ntmps18
      go_wp2_with fail
      refine (l6In_any _ _ _ _).mono ?_
      rintro e w1 ⟨rfl, rfl⟩
      rw [hin]
      go_wp2_with fail
      go_ret
      exact ⟨by first | rfl | (rw [e]; rfl), (Below.refl w.heap.size w).alloc (Nat.le_refl _) _⟩
end Go.Proofs.Ytcmgddkifhcmlas
