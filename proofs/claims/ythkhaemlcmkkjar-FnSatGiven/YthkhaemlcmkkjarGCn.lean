/- Clauses in memory: rows of numbers; the specification's test of them. The law's own functions on clauses: how much they hold, copies, and the comparison of the same. The program's test of clauses. Whether clauses hold of what is so: of both sides. -/
import Derived.Test.YthkhaemlcmkkjarGStA
import Derived.Test.YthkhaemlcmkkjarGImpl
import Derived.Test.YthkhaemlcmkkjarGBase
import Derived.Deep.OwnRows
import Derived.Deep.MidRow
import Derived.Laws.IdiomCopy
import Derived.Deep.QuietTactic
import Derived.BigQuiet
import Derived.Lib.QuietBelow
namespace Go.Proofs.Ythkhaemlcmkkjar
set_option linter.unusedVariables false
set_option linter.unusedSimpArgs false
open Go.RowKit Go.Deep

/-- Rows of numbers that lie in memory, read alone. -/
def ClsAt (w : World) (a : Option Addr) (cs : List (List Int)) : Prop := cs.length ≤ 1048576 ∧ (cs = [] ∨ ∃ b o, a = some ⟨b, o, none⟩ ∧ b < w.heap.size ∧ ∀ i, i < cs.length → ∃ a' c, w.cell? ⟨b, o + i, none⟩ = some (.slice a' (cs.getD i []).length c) ∧ SetAt w a' (cs.getD i []))
theorem ClsAt.on {w w' : World} {a : Option Addr} {cs : List (List Int)} (h : ClsAt w a cs) (hb : Below w.heap.size w w') : ClsAt w' a cs := by
  obtain ⟨hl, h⟩ := h
  refine ⟨hl, h.imp id fun ⟨b, o, ha, hlt, hc⟩ => ⟨b, o, ha, Nat.lt_of_lt_of_le hlt hb.size, fun i hi => ?_⟩⟩
  obtain ⟨a', c, h1, h2⟩ := hc i hi
  exact ⟨a', c, (hb.cell (p := ⟨b, o + i, none⟩) hlt).trans h1, h2.on hb⟩
def litB (vars x : Int) : Bool := !decide (x = 0) && inB x (-vars) vars
def litsB (vars : Int) (l : List Int) : Bool := decide (l.length ≤ 400) && l.all (litB vars)
def cnfB (vars : Int) (cs : List (List Int)) : Bool := inB vars 0 400 && (decide (cs.length ≤ 6000) && cs.all (litsB vars))
theorem neg_wrap {v : Int} (h0 : 0 ≤ v) (h1 : v ≤ 400) : IntKind.i64.wrap (-v) = -v := by rw [IntKind.wrap_i64]; omega

set_option maxHeartbeats 2000000 in
theorem l11Clause_any (vars : Int) (hv0 : 0 ≤ vars) (hv1 : vars ≤ 400) (a : Option Addr) (l : List Int) (cap : Nat) (w : World) (h : SetAt w a l) :
    Calls Try.prog 51 #[.int .i64 vars, .slice a l.length cap] w fun e w' => e = .returned (.bool (litsB vars l)) ∧ w' = w := by
  obtain ⟨hm, h⟩ := h
  have hneg := neg_wrap hv0 hv1
  by_cases h4 : (l.length : Int) ≤ 400
  · have h4' : Hid (l.length ≤ 400) := by show _ ≤ _; omega
    have h4n : ¬ (400 : Int) < (l.length : Int) := by omega
    go_enter Try.func51, Try.ntmps51
    go_wp2
    go_loopw [5] (fun i wr => ∃ k : Nat, k ≤ l.length ∧ i = .int .i64 k ∧ Hid ((l.take k).all (litB vars) = true) ∧ wr = w) (fun i _ => l.length - (intOf i).toNat)
    case atStart => exact ⟨0, Nat.zero_le _, rfl, rfl, rfl⟩
    case round =>
      rename World => wo
      obtain ⟨k, hk, rfl, hl, rfl⟩ := hrel
      by_cases hlt : k < l.length
      · rcases h with h | ⟨b, o, rfl, hSb, h⟩
        · subst h; simp at hlt
        · have c0 := h k hlt
          clear h
          have H := hide (@all_take_succ Int l 0 (litB vars) k hlt)
          have HN := hide (@all_not_take Int l 0 (litB vars) k hlt)
          generalize l.getD k 0 = z at c0 H HN
          have j1 : (k : Int) < (l.length : Int) := by omega
          by_cases hz : z = 0
          · have HF := hide (unhide HN (by simp [litB, hz]))
            clear H HN
            go_wp2_with fail
            go_ret
            exact ⟨ret_bool (by simp [litsB, unhide HF]), rfl⟩
          · have hzb : (z == 0) = false := by simpa using hz
            cases hin : inB z (-vars) vars with
            | false =>
              have HF := hide (unhide HN (by simp [litB, hin]))
              clear H HN
              go_wp2_with fail
              refine (l6In_any _ _ _ _).mono ?_
              rintro e w1 ⟨rfl, rfl⟩
              rw [hin]
              go_wp2_with fail
              go_ret
              exact ⟨ret_bool (by simp [litsB, unhide HF]), rfl⟩
            | true =>
              have HA : Hid ((l.take (k + 1)).all (litB vars) = true) := (unhide H).trans (by rw [hl.out]; simp [litB, hz, hin])
              clear H HN
              go_wp2_with fail
              refine (l6In_any _ _ _ _).mono ?_
              rintro e w1 ⟨rfl, rfl⟩
              rw [hin]
              go_wp2_with fail
              go_roundw
              case rel => exact ⟨k + 1, by omega, by go_num, unhide HA, by first | rfl | trivial⟩
              case measure => simp [intOf]; omega
      · have j1 : ¬ (k : Int) < (l.length : Int) := by omega
        go_wp2_with fail
        go_ret
        refine ⟨ret_bool ?_, rfl⟩
        have := all_of_take hlt hl.out
        have h40 := h4'.out
        simp only [litsB, this, Bool.and_true]
        simp [h40]
  · have e : litsB vars l = false := by simp only [litsB]; simp; omega
    have h4n : (400 : Int) < (l.length : Int) := by omega
    go_enter Try.func51, Try.ntmps51
    go_wp2
    go_ret
    exact ⟨by first | rfl | (rw [e]; rfl), rfl⟩

set_option maxHeartbeats 2000000 in
theorem specCnfOk_any (vars : Int) (a : Option Addr) (cs : List (List Int)) (cap : Nat) (w : World) (h : ClsAt w a cs) :
    Calls Try.prog 36 #[.agg #[.int .i64 vars, .slice a cs.length cap]] w fun e w' => e = .returned (.bool (cnfB vars cs)) ∧ Below w.heap.size w w' := by
  have hon := h.on ((Below.refl w.heap.size w).alloc (Nat.le_refl _) (.cells #[.int .i64 vars, .slice a cs.length cap] 41))
  obtain ⟨hm, h⟩ := hon
  cases hin : inB vars 0 400 with
  | false =>
    have e : cnfB vars cs = false := by simp [cnfB, hin]
    have HE := hide e
    clear e h
    go_enter Try.func36, Try.ntmps36
    go_wp2_with fail
    refine (l6In_any _ _ _ _).mono ?_
    rintro e w1 ⟨rfl, rfl⟩
    rw [hin]
    go_wp2_with fail
    go_ret
    exact ⟨ret_bool (unhide HE).symm, (Below.refl w.heap.size w).alloc (Nat.le_refl _) _⟩
  | true =>
    have hv : 0 ≤ vars ∧ vars ≤ 400 := by simpa [inB] using hin
    obtain ⟨hv0, hv1⟩ := hv
    by_cases hc : cs.length ≤ 6000
    · have j0 : ¬ (6000 : Int) < (cs.length : Int) := by omega
      go_enter Try.func36, Try.ntmps36
      go_wp2_with fail
      refine (l6In_any _ _ _ _).mono ?_
      rintro e w1 ⟨rfl, rfl⟩
      rw [hin]
      go_wp2_with fail
      obtain ⟨w0, hw0⟩ : ∃ w0, w0 = w.alloc (.cells #[.int .i64 vars, .slice a cs.length cap] 41 (0, 0)) := ⟨_, rfl⟩
      have x0 : w0.cell? ⟨w.heap.size, 0, none⟩ = some (.int .i64 vars) := by rw [hw0]; simp
      have x1 : w0.cell? ⟨w.heap.size, 1, none⟩ = some (.slice a cs.length cap) := by rw [hw0]; simp
      have HB0 : Hid (Below w.heap.size w w0) := by rw [hw0]; exact (Below.refl w.heap.size w).alloc (Nat.le_refl _) _
      rw [← hw0] at h ⊢
      clear hw0
      go_loopw [3] (fun i wr => ∃ k : Nat, k ≤ cs.length ∧ i = .int .i64 k ∧ Hid ((cs.take k).all (litsB vars) = true) ∧ Drawn w0 wr) (fun i _ => cs.length - (intOf i).toNat)
      case atStart => exact ⟨0, Nat.zero_le _, rfl, rfl, Drawn.refl _⟩
      case round =>
        rename World => wo
        obtain ⟨k, hk, rfl, hl, hw⟩ := hrel
        rw [← hw.cell] at x0 x1
        by_cases hlt : k < cs.length
        · rcases h with h | ⟨b, o, rfl, hSb, h⟩
          · subst h; simp at hlt
          · obtain ⟨a', c', c0, hq⟩ := h k hlt
            clear h
            have H := hide (@all_take_succ (List Int) cs [] (litsB vars) k hlt)
            have HN := hide (@all_not_take (List Int) cs [] (litsB vars) k hlt)
            rw [← hw.cell] at c0
            generalize cs.getD k [] = q at c0 H HN hq
            have HQ := hide (fun w1 (h1 : Drawn w0 w1) => l11Clause_any vars hv0 hv1 a' q c' w1 (hq.on (h1.below _)))
            clear hq
            have j1 : (k : Int) < (cs.length : Int) := by omega
            cases hb : litsB vars q with
            | false =>
              have HF := hide (unhide HN hb)
              clear H HN
              go_wp2_with fail
              go_quiet (first | (go_at_call 51; exact Calls.quiet_of_same (unhide HQ _ (hw.more _))))
              rw [hb]
              go_wp2_with fail
              go_ret
              exact ⟨ret_bool (by simp [cnfB, unhide HF]), (unhide HB0).trans (((hw.more _).below _).mono (unhide HB0).size)⟩
            | true =>
              have HA : Hid ((cs.take (k + 1)).all (litsB vars) = true) := (unhide H).trans (by rw [hl.out, hb]; rfl)
              clear H HN
              go_wp2_with fail
              go_quiet (first | (go_at_call 51; exact Calls.quiet_of_same (unhide HQ _ (hw.more _))))
              rw [hb]
              go_wp2_with fail
              go_roundw
              case rel => exact ⟨k + 1, by omega, by go_num, unhide HA, hw.more _⟩
              case measure => simp [intOf]; omega
        · have j1 : ¬ (k : Int) < (cs.length : Int) := by omega
          go_wp2_with fail
          go_ret
          refine ⟨ret_bool ?_, (unhide HB0).trans ((hw.below _).mono (unhide HB0).size)⟩
          have := all_of_take hlt hl.out
          simp only [cnfB, this, hin, Bool.and_true, Bool.true_and]
          simpa using hc
    · have e : cnfB vars cs = false := by simp only [cnfB]; simp; omega
      have j0 : (6000 : Int) < (cs.length : Int) := by omega
      go_enter Try.func36, Try.ntmps36
      go_wp2_with fail
      refine (l6In_any _ _ _ _).mono ?_
      rintro e w1 ⟨rfl, rfl⟩
      rw [hin]
      go_wp2_with fail
      go_ret
      exact ⟨by first | rfl | (rw [e]; rfl), (Below.refl w.heap.size w).alloc (Nat.le_refl _) _⟩
end Go.Proofs.Ythkhaemlcmkkjar

namespace Go.Proofs.Ythkhaemlcmkkjar
set_option linter.unusedVariables false
set_option linter.unusedSimpArgs false
open Go.RowKit Go.Deep Go.Sort

end Go.Proofs.Ythkhaemlcmkkjar

namespace Go.Proofs.Ythkhaemlcmkkjar
set_option linter.unusedVariables false
set_option linter.unusedSimpArgs false
open Go.RowKit Go.Deep

set_option maxHeartbeats 1000000 in
theorem isLit_any (vars : Int) (hv0 : 0 ≤ vars) (hv1 : vars ≤ 400) (cv : Value) (x : Int) (w : World) :
    Calls Try.prog 98 #[.agg #[.int .i64 vars, cv], .int .i64 x] w fun e w' => e = .returned (.bool (litB vars x)) ∧ Below w.heap.size w w' := by
  have hneg := neg_wrap hv0 hv1
  by_cases hx : x = 0
  · have e : litB vars x = false := by simp [litB, hx]
    have HE := hide e
    clear e
    go_enter Try.func98, Try.ntmps98
    go_wp2_with fail
    go_ret
    exact ⟨ret_bool (unhide HE).symm, (Below.refl _ _).alloc (Nat.le_refl _) _⟩
  · have e : litB vars x = inB x (-vars) vars := by simp [litB, hx]
    have HE := hide e
    clear e
    go_enter Try.func98, Try.ntmps98
    go_wp2_with fail
    refine (within_any _ _ _ _).mono ?_
    rintro e w1 ⟨rfl, rfl⟩
    go_wp2_with fail
    go_ret
    exact ⟨ret_bool (by rw [unhide HE]; simp [hx]), (Below.refl _ _).alloc (Nat.le_refl _) _⟩

set_option maxHeartbeats 1000000 in
theorem litInt11_any (vars : Int) (hv0 : 0 ≤ vars) (hv1 : vars ≤ 400) (cv : Value) (x : Int) (g : Nat) (w : World) (hg : w.cell? ⟨g, 0, none⟩ = some (.func (.func 98) #[.agg #[.int .i64 vars, cv]] #[])) :
    Calls Try.prog 112 #[.int .i64 x, .pointer (some ⟨g, 0, none⟩)] w fun e w' => e = .returned (.bool (!litB vars x)) ∧ Below w.heap.size w w' := by
  have H := hide (isLit_any vars hv0 hv1 cv x w)
  go_enter Try.func112, Try.ntmps112
  go_wp2_with fail
  refine (unhide H).mono ?_
  rintro e w1 ⟨rfl, hb⟩
  go_wp2_with fail
  go_ret
  exact ⟨rfl, hb⟩

set_option maxHeartbeats 1000000 in
theorem searchInt11_any (vars : Int) (hv0 : 0 ≤ vars) (hv1 : vars ≤ 400) (cv : Value) (a : Option Addr) (l : List Int) (cap g : Nat) (w : World) (h : SetAt w a l)
    (hg : w.cell? ⟨g, 0, none⟩ = some (.func (.func 98) #[.agg #[.int .i64 vars, cv]] #[])) :
    Calls Try.prog 111 #[.slice a l.length cap, .int .i64 0, .func (.func 112) #[] #[.pointer (some ⟨g, 0, none⟩)]] w
      fun e w' => (∃ k : Nat, e = .returned (.int .i64 k) ∧ k ≤ l.length ∧ ((k == l.length) = l.all (litB vars))) ∧ Below w.heap.size w w' := by
  obtain ⟨hm, h⟩ := h
  go_enter Try.func111, Try.ntmps111
  go_wp2
  go_loopw [1] (fun i wr => ∃ k : Nat, k ≤ l.length ∧ i = .int .i64 k ∧ Hid ((l.take k).all (litB vars) = true) ∧ Below w.heap.size w wr) (fun i _ => l.length - (intOf i).toNat)
  case atStart => exact ⟨0, Nat.zero_le _, rfl, rfl, Below.refl _ _⟩
  case round =>
    rename World => wo
    obtain ⟨k, hk, rfl, hl', hw⟩ := hrel
    by_cases hlt : k < l.length
    · rcases h with h | ⟨b, o, rfl, hSb, h⟩
      · subst h; simp at hlt
      · have c0 := h k hlt
        clear h
        have H := hide (@all_take_succ Int l 0 (litB vars) k hlt)
        have HN := hide (@all_not_take Int l 0 (litB vars) k hlt)
        generalize l.getD k 0 = q at c0 H HN
        rw [← hw.cell (p := ⟨b, _, none⟩) hSb] at c0
        have hg' := (hw.cell (p := ⟨g, 0, none⟩) (block_lt_of_cell hg)).trans hg
        have HW := hide hw
        clear hw
        go_wp2_with fail
        refine (litInt11_any vars hv0 hv1 cv q g _ hg').mono ?_
        rintro e w1 ⟨rfl, hb⟩
        have hbe := (unhide HW).trans (hb.mono (unhide HW).size)
        have HBE := hide hbe
        clear hb hbe
        cases hv : litB vars q with
        | true =>
          go_wp2_with fail
          go_roundw
          case rel => exact ⟨k + 1, by omega, by go_num, by show _ = true; rw [unhide H, hl'.out, hv]; rfl, unhide HBE⟩
          case measure => simp [intOf]; omega
        | false =>
          have e1 := unhide HN hv
          have HE := hide e1
          clear e1
          go_wp2_with fail
          go_ret
          refine ⟨⟨k, rfl, by omega, ?_⟩, unhide HBE⟩
          rw [unhide HE, beq_eq_false_iff_ne]; omega
    · go_wp2_with fail
      go_ret
      refine ⟨⟨k, rfl, by omega, ?_⟩, hw⟩
      rw [all_of_take hlt hl'.out, beq_iff_eq]; omega

set_option maxHeartbeats 1000000 in
theorem allInt11_any (vars : Int) (hv0 : 0 ≤ vars) (hv1 : vars ≤ 400) (cv : Value) (a : Option Addr) (l : List Int) (cap : Nat) (w : World) (h : SetAt w a l) :
    Calls Try.prog 91 #[.slice a l.length cap, .func (.func 98) #[.agg #[.int .i64 vars, cv]] #[]] w fun e w' => e = .returned (.bool (l.all (litB vars))) ∧ Below w.heap.size w w' := by
  have H := hide (fun (o : Obj) g hg => searchInt11_any vars hv0 hv1 cv a l cap g (w.alloc o) (h.on ((Below.refl _ _).alloc (Nat.le_refl _) _)) hg)
  clear h
  go_enter Try.func91, Try.ntmps91
  go_wp2_with fail
  refine (unhide H _ _ ?_).mono ?_
  · simp
  · rintro e w1 ⟨⟨k, rfl, hk, he⟩, hb⟩
    have HE := hide he
    clear he
    go_wp2_with fail
    go_ret
    refine ⟨ret_bool ?_, ((Below.refl _ _).alloc (Nat.le_refl _) _).trans (hb.mono (by simp))⟩
    rw [← unhide HE, Bool.eq_iff_iff]; simp; omega

set_option maxHeartbeats 1000000 in
theorem areLits_any (vars : Int) (hv0 : 0 ≤ vars) (hv1 : vars ≤ 400) (cv : Value) (a : Option Addr) (l : List Int) (cap : Nat) (w : World) (h : SetAt w a l) :
    Calls Try.prog 67 #[.agg #[.int .i64 vars, cv], .slice a l.length cap] w fun e w' => e = .returned (.bool (litsB vars l)) ∧ Below w.heap.size w w' := by
  have hm := h.1
  have H := hide (fun W (hW : Below w.heap.size w W) => allInt11_any vars hv0 hv1 cv a l cap W (h.on hW))
  clear h
  by_cases h4 : (l.length : Int) ≤ 400
  · have h4' : Hid (l.length ≤ 400) := by show _ ≤ _; omega
    go_enter Try.func67, Try.ntmps67
    go_wp2_with fail
    refine (unhide H _ ((Below.refl _ _).alloc (Nat.le_refl _) _)).mono ?_
    rintro e w1 ⟨rfl, hb⟩
    go_wp2_with fail
    go_ret
    exact ⟨ret_bool (by simp [litsB, h4'.out]), ((Below.refl _ _).alloc (Nat.le_refl _) _).trans (hb.mono (by simp))⟩
  · have e : litsB vars l = false := by simp only [litsB]; simp; omega
    go_enter Try.func67, Try.ntmps67
    go_wp2_with fail
    go_ret
    exact ⟨by first | rfl | (rw [e]; rfl), (Below.refl _ _).alloc (Nat.le_refl _) _⟩

set_option maxHeartbeats 1000000 in
theorem litCls_any (vars : Int) (hv0 : 0 ≤ vars) (hv1 : vars ≤ 400) (cv : Value) (a : Option Addr) (l : List Int) (cap g : Nat) (w : World) (h : SetAt w a l) (hg : w.cell? ⟨g, 0, none⟩ = some (.func (.func 67) #[.agg #[.int .i64 vars, cv]] #[])) :
    Calls Try.prog 97 #[.slice a l.length cap, .pointer (some ⟨g, 0, none⟩)] w fun e w' => e = .returned (.bool (!litsB vars l)) ∧ Below w.heap.size w w' := by
  have H := hide (areLits_any vars hv0 hv1 cv a l cap w h)
  clear h
  go_enter Try.func97, Try.ntmps97
  go_wp2_with fail
  refine (unhide H).mono ?_
  rintro e w1 ⟨rfl, hb⟩
  go_wp2_with fail
  go_ret
  exact ⟨rfl, hb⟩

set_option maxHeartbeats 1000000 in
theorem searchCls_any (vars : Int) (hv0 : 0 ≤ vars) (hv1 : vars ≤ 400) (cv : Value) (a : Option Addr) (l : List (List Int)) (cap g : Nat) (w : World) (h : ClsAt w a l)
    (hg : w.cell? ⟨g, 0, none⟩ = some (.func (.func 67) #[.agg #[.int .i64 vars, cv]] #[])) :
    Calls Try.prog 96 #[.slice a l.length cap, .int .i64 0, .func (.func 97) #[] #[.pointer (some ⟨g, 0, none⟩)]] w
      fun e w' => (∃ k : Nat, e = .returned (.int .i64 k) ∧ k ≤ l.length ∧ ((k == l.length) = l.all (litsB vars))) ∧ Below w.heap.size w w' := by
  obtain ⟨hm, h⟩ := h
  go_enter Try.func96, Try.ntmps96
  go_wp2
  go_loopw [1] (fun i wr => ∃ k : Nat, k ≤ l.length ∧ i = .int .i64 k ∧ Hid ((l.take k).all (litsB vars) = true) ∧ Below w.heap.size w wr) (fun i _ => l.length - (intOf i).toNat)
  case atStart => exact ⟨0, Nat.zero_le _, rfl, rfl, Below.refl _ _⟩
  case round =>
    rename World => wo
    obtain ⟨k, hk, rfl, hl', hw⟩ := hrel
    by_cases hlt : k < l.length
    · rcases h with h | ⟨b, o, rfl, hSb, h⟩
      · subst h; simp at hlt
      · have hq := h k hlt
        clear h
        have H := hide (@all_take_succ (List Int) l [] (litsB vars) k hlt)
        have HN := hide (@all_not_take (List Int) l [] (litsB vars) k hlt)
        generalize l.getD k [] = q at hq H HN
        obtain ⟨a', c', hc, hrow⟩ := hq
        rw [← hw.cell (p := ⟨b, _, none⟩) hSb] at hc
        have hrow' := hide (hrow.on hw)
        clear hrow
        have hg' := (hw.cell (p := ⟨g, 0, none⟩) (block_lt_of_cell hg)).trans hg
        have HW := hide hw
        clear hw
        go_wp2_with fail
        refine (litCls_any vars hv0 hv1 cv a' q c' g _ (unhide hrow') hg').mono ?_
        rintro e w1 ⟨rfl, hb⟩
        have hbe := (unhide HW).trans (hb.mono (unhide HW).size)
        have HBE := hide hbe
        clear hb hbe
        cases hv : litsB vars q with
        | true =>
          go_wp2_with fail
          go_roundw
          case rel => exact ⟨k + 1, by omega, by go_num, by show _ = true; rw [unhide H, hl'.out, hv]; rfl, unhide HBE⟩
          case measure => simp [intOf]; omega
        | false =>
          have e1 := unhide HN hv
          have HE := hide e1
          clear e1
          go_wp2_with fail
          go_ret
          refine ⟨⟨k, rfl, by omega, ?_⟩, unhide HBE⟩
          rw [unhide HE, beq_eq_false_iff_ne]; omega
    · go_wp2_with fail
      go_ret
      refine ⟨⟨k, rfl, by omega, ?_⟩, hw⟩
      rw [all_of_take hlt hl'.out, beq_iff_eq]; omega

set_option maxHeartbeats 1000000 in
theorem allCls_any (vars : Int) (hv0 : 0 ≤ vars) (hv1 : vars ≤ 400) (cv : Value) (a : Option Addr) (l : List (List Int)) (cap : Nat) (w : World) (h : ClsAt w a l) :
    Calls Try.prog 66 #[.slice a l.length cap, .func (.func 67) #[.agg #[.int .i64 vars, cv]] #[]] w fun e w' => e = .returned (.bool (l.all (litsB vars))) ∧ Below w.heap.size w w' := by
  have H := hide (fun (o : Obj) g hg => searchCls_any vars hv0 hv1 cv a l cap g (w.alloc o) (h.on ((Below.refl _ _).alloc (Nat.le_refl _) _)) hg)
  clear h
  go_enter Try.func66, Try.ntmps66
  go_wp2_with fail
  refine (unhide H _ _ ?_).mono ?_
  · simp
  · rintro e w1 ⟨⟨k, rfl, hk, he⟩, hb⟩
    have HE := hide he
    clear he
    go_wp2_with fail
    go_ret
    refine ⟨ret_bool ?_, ((Below.refl _ _).alloc (Nat.le_refl _) _).trans (hb.mono (by simp))⟩
    rw [← unhide HE, Bool.eq_iff_iff]; simp; omega

set_option maxHeartbeats 2000000 in
theorem implCnfOk_any (vars : Int) (a : Option Addr) (cs : List (List Int)) (cap : Nat) (w : World) (h : ClsAt w a cs) :
    Calls Try.prog 39 #[.agg #[.int .i64 vars, .slice a cs.length cap]] w fun e w' => e = .returned (.bool (cnfB vars cs)) ∧ Below w.heap.size w w' := by
  have hm := h.1
  have H := hide (fun W (hW : Below w.heap.size w W) hv0 hv1 => allCls_any vars hv0 hv1 (.slice a cs.length cap) a cs cap W (h.on hW))
  clear h
  cases hin : inB vars 0 400 with
  | false =>
    have e : cnfB vars cs = false := by simp [cnfB, hin]
    have HE := hide e
    clear e
    go_enter Try.func39, Try.ntmps39
    go_wp2_with fail
    refine (within_any _ _ _ _).mono ?_
    rintro e w1 ⟨rfl, rfl⟩
    rw [hin]
    go_wp2_with fail
    go_ret
    exact ⟨ret_bool (unhide HE).symm, (Below.refl w.heap.size w).alloc (Nat.le_refl _) _⟩
  | true =>
    have hv : 0 ≤ vars ∧ vars ≤ 400 := by simpa [inB] using hin
    obtain ⟨hv0, hv1⟩ := hv
    by_cases hc : (cs.length : Int) ≤ 6000
    · have e : cnfB vars cs = cs.all (litsB vars) := by
        have : cs.length ≤ 6000 := by omega
        simp [cnfB, hin, this]
      have HE := hide e
      clear e
      go_enter Try.func39, Try.ntmps39
      go_wp2_with fail
      refine (within_any _ _ _ _).mono ?_
      rintro e w1 ⟨rfl, rfl⟩
      rw [hin]
      go_wp2_with fail
      refine (unhide H _ ((Below.refl _ _).alloc (Nat.le_refl _) _) hv0 hv1).mono ?_
      rintro e w1 ⟨rfl, hb⟩
      go_wp2_with fail
      go_ret
      exact ⟨ret_bool (unhide HE).symm, ((Below.refl _ _).alloc (Nat.le_refl _) _).trans (hb.mono (by simp))⟩
    · have e : cnfB vars cs = false := by simp only [cnfB]; simp; omega
      have HE := hide e
      clear e
      go_enter Try.func39, Try.ntmps39
      go_wp2_with fail
      refine (within_any _ _ _ _).mono ?_
      rintro e w1 ⟨rfl, rfl⟩
      rw [hin]
      go_wp2_with fail
      go_ret
      exact ⟨ret_bool (unhide HE).symm, (Below.refl w.heap.size w).alloc (Nat.le_refl _) _⟩
end Go.Proofs.Ythkhaemlcmkkjar

namespace Go.Proofs.Ythkhaemlcmkkjar
set_option linter.unusedVariables false
set_option linter.unusedSimpArgs false
open Go.RowKit Go.Deep Go.Sort

/-- What is so, in memory, read alone. -/
def BoolsAt (w : World) (a : Option Addr) (m : List Bool) : Prop := m.length ≤ 1048576 ∧ (m = [] ∨ ∃ b o, a = some ⟨b, o, none⟩ ∧ b < w.heap.size ∧ ∀ i, i < m.length → w.cell? ⟨b, o + i, none⟩ = some (.bool (m.getD i false)))
theorem BoolsAt.on {w w' : World} {a : Option Addr} {m : List Bool} (h : BoolsAt w a m) (hb : Below w.heap.size w w') : BoolsAt w' a m := by
  obtain ⟨hl, h⟩ := h
  exact ⟨hl, h.imp id fun ⟨b, o, ha, hlt, hc⟩ => ⟨b, o, ha, Nat.lt_of_lt_of_le hlt hb.size, fun i hi => (hb.cell (p := ⟨b, o + i, none⟩) hlt).trans (hc i hi)⟩⟩
/-- A literal is so. -/
def soB (m : List Bool) (x : Int) : Bool := if 0 < x then m.getD (x - 1).toNat false else !m.getD (-x - 1).toNat false
def holdsB (m : List Bool) (c : List Int) : Bool := c.any (soB m)
def cnfTrueB (vars : Int) (cs : List (List Int)) (m : List Bool) : Bool := cnfB vars cs && (decide ((m.length : Int) = vars) && cs.all (holdsB m))
theorem lit_parts {vars x : Int} (h : litB vars x = true) : x ≠ 0 ∧ -vars ≤ x ∧ x ≤ vars := by
  simp [litB, inB] at h
  exact ⟨h.1, h.2.1, h.2.2⟩
end Go.Proofs.Ythkhaemlcmkkjar
