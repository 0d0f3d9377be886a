/- Clauses in memory: rows of numbers; the specification's test of them. The law's own functions on clauses: how much they hold, copies, and the comparison of the same. The program's test of clauses. Whether clauses hold of what is so: of both sides. -/
import Derived.Test.YthkhaemlcmkkjatGStA
import Derived.Test.YthkhaemlcmkkjatGImpl
import Derived.Test.YthkhaemlcmkkjatToI
import Derived.Test.YthkhaemlcmkkjatSz
import Derived.Test.YthkhaemlcmkkjatGBase
import Derived.Deep.QuietTactic
import Derived.BigQuiet
import Derived.Lib.QuietBelow
namespace Go.Proofs.Ythkhaemlcmkkjat
set_option linter.unusedVariables false
set_option linter.unusedSimpArgs false
open Go.RowKit Go.Deep

/-- Rows of numbers that lie in memory, read alone. -/
def ClsAt (w : World) (a : Option Addr) (cs : List (List Int)) : Prop := cs.length ≤ 1048576 ∧ (cs = [] ∨ ∃ b o, a = some ⟨b, o, none⟩ ∧ b < w.heap.size ∧ ∀ i, i < cs.length → ∃ a' c, w.cell? ⟨b, o + i, none⟩ = some (.slice a' (cs.getD i []).length c) ∧ SetAt w a' (cs.getD i []))
theorem ClsAt.on {w w' : World} {a : Option Addr} {cs : List (List Int)} (h : ClsAt w a cs) (hb : Below w.heap.size w w') : ClsAt w' a cs := by
  obtain ⟨hl, h⟩ := h
  refine ⟨hl, h.imp id fun ⟨b, o, ha, hlt, hc⟩ => ⟨b, o, ha, Nat.lt_of_lt_of_le hlt hb.size, fun i hi => ?_⟩⟩
  obtain ⟨a', c, h1, h2⟩ := hc i hi
  exact ⟨a', c, (hb.cell (p := ⟨b, o + i, none⟩) hlt).trans h1, h2.on hb⟩
def litB (vars x : Int) : Bool := !decide (x = 0) && inB x (-vars) vars
def litsB (vars : Int) (l : List Int) : Bool := decide (l.length ≤ 400) && l.all (litB vars)
def cnfB (vars : Int) (cs : List (List Int)) : Bool := inB vars 0 400 && (decide (cs.length ≤ 6000) && cs.all (litsB vars))
theorem neg_wrap {v : Int} (h0 : 0 ≤ v) (h1 : v ≤ 400) : IntKind.i64.wrap (-v) = -v := by rw [IntKind.wrap_i64]; omega

set_option maxHeartbeats 2000000 in
theorem l11Clause_any (vars : Int) (hv0 : 0 ≤ vars) (hv1 : vars ≤ 400) (a : Option Addr) (l : List Int) (cap : Nat) (w : World) (h : SetAt w a l) :
    Calls Try.prog 51 #[.int .i64 vars, .slice a l.length cap] w fun e w' => e = .returned (.bool (litsB vars l)) ∧ w' = w := by
  obtain ⟨hm, h⟩ := h
  have hneg := neg_wrap hv0 hv1
  by_cases h4 : (l.length : Int) ≤ 400
  · have h4' : Hid (l.length ≤ 400) := by show _ ≤ _; omega
    have h4n : ¬ (400 : Int) < (l.length : Int) := by omega
    go_enter Try.func51, Try.ntmps51
    go_wp2
    go_loopw [5] (fun i wr => ∃ k : Nat, k ≤ l.length ∧ i = .int .i64 k ∧ Hid ((l.take k).all (litB vars) = true) ∧ wr = w) (fun i _ => l.length - (intOf i).toNat)
    case atStart => exact ⟨0, Nat.zero_le _, rfl, rfl, rfl⟩
    case round =>
      rename World => wo
      obtain ⟨k, hk, rfl, hl, rfl⟩ := hrel
      by_cases hlt : k < l.length
      · rcases h with h | ⟨b, o, rfl, hSb, h⟩
        · subst h; simp at hlt
        · have c0 := h k hlt
          clear h
          have H := hide (@all_take_succ Int l 0 (litB vars) k hlt)
          have HN := hide (@all_not_take Int l 0 (litB vars) k hlt)
          generalize l.getD k 0 = z at c0 H HN
          have j1 : (k : Int) < (l.length : Int) := by omega
          by_cases hz : z = 0
          · have HF := hide (unhide HN (by simp [litB, hz]))
            clear H HN
            go_wp2_with fail
            go_ret
            exact ⟨ret_bool (by simp [litsB, unhide HF]), rfl⟩
          · have hzb : (z == 0) = false := by simpa using hz
            cases hin : inB z (-vars) vars with
            | false =>
              have HF := hide (unhide HN (by simp [litB, hin]))
              clear H HN
              go_wp2_with fail
              refine (l6In_any _ _ _ _).mono ?_
              rintro e w1 ⟨rfl, rfl⟩
              rw [hin]
              go_wp2_with fail
              go_ret
              exact ⟨ret_bool (by simp [litsB, unhide HF]), rfl⟩
            | true =>
              have HA : Hid ((l.take (k + 1)).all (litB vars) = true) := (unhide H).trans (by rw [hl.out]; simp [litB, hz, hin])
              clear H HN
              go_wp2_with fail
              refine (l6In_any _ _ _ _).mono ?_
              rintro e w1 ⟨rfl, rfl⟩
              rw [hin]
              go_wp2_with fail
              go_roundw
              case rel => exact ⟨k + 1, by omega, by go_num, unhide HA, by first | rfl | trivial⟩
              case measure => simp [intOf]; omega
      · have j1 : ¬ (k : Int) < (l.length : Int) := by omega
        go_wp2_with fail
        go_ret
        refine ⟨ret_bool ?_, rfl⟩
        have := all_of_take hlt hl.out
        have h40 := h4'.out
        simp only [litsB, this, Bool.and_true]
        simp [h40]
  · have e : litsB vars l = false := by simp only [litsB]; simp; omega
    have h4n : (400 : Int) < (l.length : Int) := by omega
    go_enter Try.func51, Try.ntmps51
    go_wp2
    go_ret
    exact ⟨by first | rfl | (rw [e]; rfl), rfl⟩

set_option maxHeartbeats 2000000 in
theorem specCnfOk_any (vars : Int) (a : Option Addr) (cs : List (List Int)) (cap : Nat) (w : World) (h : ClsAt w a cs) :
    Calls Try.prog 39 #[.agg #[.int .i64 vars, .slice a cs.length cap]] w fun e w' => e = .returned (.bool (cnfB vars cs)) ∧ Below w.heap.size w w' := by
  have hon := h.on ((Below.refl w.heap.size w).alloc (Nat.le_refl _) (.cells #[.int .i64 vars, .slice a cs.length cap] 29))
  obtain ⟨hm, h⟩ := hon
  cases hin : inB vars 0 400 with
  | false =>
    have e : cnfB vars cs = false := by simp [cnfB, hin]
    have HE := hide e
    clear e h
    go_enter Try.func39, Try.ntmps39
    go_wp2_with fail
    refine (l6In_any _ _ _ _).mono ?_
    rintro e w1 ⟨rfl, rfl⟩
    rw [hin]
    go_wp2_with fail
    go_ret
    exact ⟨ret_bool (unhide HE).symm, (Below.refl w.heap.size w).alloc (Nat.le_refl _) _⟩
  | true =>
    have hv : 0 ≤ vars ∧ vars ≤ 400 := by simpa [inB] using hin
    obtain ⟨hv0, hv1⟩ := hv
    by_cases hc : cs.length ≤ 6000
    · have j0 : ¬ (6000 : Int) < (cs.length : Int) := by omega
      go_enter Try.func39, Try.ntmps39
      go_wp2_with fail
      refine (l6In_any _ _ _ _).mono ?_
      rintro e w1 ⟨rfl, rfl⟩
      rw [hin]
      go_wp2_with fail
      obtain ⟨w0, hw0⟩ : ∃ w0, w0 = w.alloc (.cells #[.int .i64 vars, .slice a cs.length cap] 29 (0, 0)) := ⟨_, rfl⟩
      have x0 : w0.cell? ⟨w.heap.size, 0, none⟩ = some (.int .i64 vars) := by rw [hw0]; simp
      have x1 : w0.cell? ⟨w.heap.size, 1, none⟩ = some (.slice a cs.length cap) := by rw [hw0]; simp
      have HB0 : Hid (Below w.heap.size w w0) := by rw [hw0]; exact (Below.refl w.heap.size w).alloc (Nat.le_refl _) _
      rw [← hw0] at h ⊢
      clear hw0
      go_loopw [3] (fun i wr => ∃ k : Nat, k ≤ cs.length ∧ i = .int .i64 k ∧ Hid ((cs.take k).all (litsB vars) = true) ∧ Drawn w0 wr) (fun i _ => cs.length - (intOf i).toNat)
      case atStart => exact ⟨0, Nat.zero_le _, rfl, rfl, Drawn.refl _⟩
      case round =>
        rename World => wo
        obtain ⟨k, hk, rfl, hl, hw⟩ := hrel
        rw [← hw.cell] at x0 x1
        by_cases hlt : k < cs.length
        · rcases h with h | ⟨b, o, rfl, hSb, h⟩
          · subst h; simp at hlt
          · obtain ⟨a', c', c0, hq⟩ := h k hlt
            clear h
            have H := hide (@all_take_succ (List Int) cs [] (litsB vars) k hlt)
            have HN := hide (@all_not_take (List Int) cs [] (litsB vars) k hlt)
            rw [← hw.cell] at c0
            generalize cs.getD k [] = q at c0 H HN hq
            have HQ := hide (fun w1 (h1 : Drawn w0 w1) => l11Clause_any vars hv0 hv1 a' q c' w1 (hq.on (h1.below _)))
            clear hq
            have j1 : (k : Int) < (cs.length : Int) := by omega
            cases hb : litsB vars q with
            | false =>
              have HF := hide (unhide HN hb)
              clear H HN
              go_wp2_with fail
              go_quiet (first | (go_at_call 51; exact Calls.quiet_of_same (unhide HQ _ (hw.more _))))
              rw [hb]
              go_wp2_with fail
              go_ret
              exact ⟨ret_bool (by simp [cnfB, unhide HF]), (unhide HB0).trans (((hw.more _).below _).mono (unhide HB0).size)⟩
            | true =>
              have HA : Hid ((cs.take (k + 1)).all (litsB vars) = true) := (unhide H).trans (by rw [hl.out, hb]; rfl)
              clear H HN
              go_wp2_with fail
              go_quiet (first | (go_at_call 51; exact Calls.quiet_of_same (unhide HQ _ (hw.more _))))
              rw [hb]
              go_wp2_with fail
              go_roundw
              case rel => exact ⟨k + 1, by omega, by go_num, unhide HA, hw.more _⟩
              case measure => simp [intOf]; omega
        · have j1 : ¬ (k : Int) < (cs.length : Int) := by omega
          go_wp2_with fail
          go_ret
          refine ⟨ret_bool ?_, (unhide HB0).trans ((hw.below _).mono (unhide HB0).size)⟩
          have := all_of_take hlt hl.out
          simp only [cnfB, this, hin, Bool.and_true, Bool.true_and]
          simpa using hc
    · have e : cnfB vars cs = false := by simp only [cnfB]; simp; omega
      have j0 : (6000 : Int) < (cs.length : Int) := by omega
      go_enter Try.func39, Try.ntmps39
      go_wp2_with fail
      refine (l6In_any _ _ _ _).mono ?_
      rintro e w1 ⟨rfl, rfl⟩
      rw [hin]
      go_wp2_with fail
      go_ret
      exact ⟨by first | rfl | (rw [e]; rfl), (Below.refl w.heap.size w).alloc (Nat.le_refl _) _⟩
end Go.Proofs.Ythkhaemlcmkkjat

namespace Go.Proofs.Ythkhaemlcmkkjat
set_option linter.unusedVariables false
set_option linter.unusedSimpArgs false
open Go.RowKit Go.Deep Go.Sort

/-- Rows of numbers that came in: how long they are is not known yet. -/
def IntsRaw (w : World) (a : Option Addr) (l : List Int) : Prop := l.length ≤ maxLen ∧ (l = [] ∨ ∃ b o, a = some ⟨b, o, none⟩ ∧ b < w.heap.size ∧ ∀ i, i < l.length → w.cell? ⟨b, o + i, none⟩ = some (.int .i64 (l.getD i 0)))
def ClsRaw (w : World) (a : Option Addr) (cs : List (List Int)) : Prop := cs.length ≤ maxLen ∧ (cs = [] ∨ ∃ b o, a = some ⟨b, o, none⟩ ∧ b < w.heap.size ∧ ∀ i, i < cs.length → ∃ a' c, w.cell? ⟨b, o + i, none⟩ = some (.slice a' (cs.getD i []).length c) ∧ IntsRaw w a' (cs.getD i []))
def SmallCls (cs : List (List Int)) : Prop := cs.length ≤ 1048576 ∧ ∀ i, i < cs.length → (cs.getD i []).length ≤ 1048576
theorem IntsRaw.on {w w' : World} {a : Option Addr} {l : List Int} (h : IntsRaw w a l) (hb : Below w.heap.size w w') : IntsRaw w' a l := by
  obtain ⟨hl, h⟩ := h
  refine ⟨hl, h.imp id fun ⟨b, o, ha, hlt, hc⟩ => ⟨b, o, ha, Nat.lt_of_lt_of_le hlt hb.size, fun i hi => (hb.cell (p := ⟨b, o + i, none⟩) hlt).trans (hc i hi)⟩⟩
theorem ClsRaw.on {w w' : World} {a : Option Addr} {cs : List (List Int)} (h : ClsRaw w a cs) (hb : Below w.heap.size w w') : ClsRaw w' a cs := by
  obtain ⟨hl, h⟩ := h
  refine ⟨hl, h.imp id fun ⟨b, o, ha, hlt, hc⟩ => ⟨b, o, ha, Nat.lt_of_lt_of_le hlt hb.size, fun i hi => ?_⟩⟩
  obtain ⟨a', c, h1, h2⟩ := hc i hi
  exact ⟨a', c, (hb.cell (p := ⟨b, o + i, none⟩) hlt).trans h1, h2.on hb⟩
theorem IntsRaw.set {w : World} {a : Option Addr} {l : List Int} (h : IntsRaw w a l) (hs : l.length ≤ 1048576) : SetAt w a l := ⟨hs, h.2⟩
theorem ClsRaw.cls {w : World} {a : Option Addr} {cs : List (List Int)} (h : ClsRaw w a cs) (hs : SmallCls cs) : ClsAt w a cs :=
  ⟨hs.1, h.2.imp id fun ⟨b, o, ha, hlt, hc⟩ => ⟨b, o, ha, hlt, fun i hi => by
    obtain ⟨a', c, h1, h2⟩ := hc i hi
    exact ⟨a', c, h1, h2.set (hs.2 i hi)⟩⟩⟩

set_option maxHeartbeats 1000000 in
theorem szIntS_any (a : Option Addr) (l : List Int) (cap : Nat) (left : Int) (w : World) (hm : l.length ≤ maxLen) (h0 : 0 ≤ left) (h1 : left ≤ 1048576) :
    Calls Try.prog 50 #[.slice a l.length cap, .int .i64 left] w fun e w' => (∃ r : Int, e = .returned (.int .i64 r) ∧ Left left r (l.length ≤ 1048576)) ∧ Below w.heap.size w w' := by
  unfold maxLen at hm
  by_cases hbig : (left : Int) < (l.length : Int)
  · have hn : left - (l.length : Int) < 0 := by omega
    go_enter Try.func50, Try.ntmps50
    go_wp2
    go_ret
    exact ⟨⟨_, rfl, Or.inl (by decide)⟩, Below.refl _ _⟩
  · have hn : ¬ (left - (l.length : Int) < 0) := by omega
    go_enter Try.func50, Try.ntmps50
    go_wp2
    go_ret
    exact ⟨⟨_, rfl, Or.inr ⟨by omega, by omega, by omega⟩⟩, Below.refl _ _⟩

set_option maxHeartbeats 1000000 in
theorem szIntSS_any (a : Option Addr) (l : List (List Int)) (cap : Nat) (left : Int) (w : World) (h : ClsRaw w a l) (h0 : 0 ≤ left) (h1 : left ≤ 1048576) :
    Calls Try.prog 21 #[.slice a l.length cap, .int .i64 left] w fun e w' => (∃ r : Int, e = .returned (.int .i64 r) ∧ Left left r (SmallCls l)) ∧ Below w.heap.size w w' := by
  obtain ⟨hm, h⟩ := h
  unfold maxLen at hm
  by_cases hbig : (left : Int) < (l.length : Int)
  · have hn : left - (l.length : Int) < 0 := by omega
    go_enter Try.func21, Try.ntmps21
    go_wp2
    go_ret
    exact ⟨⟨_, rfl, Or.inl (by decide)⟩, Below.refl _ _⟩
  · have hn : ¬ (left - (l.length : Int) < 0) := by omega
    go_enter Try.func21, Try.ntmps21
    go_wp2
    go_loopw [1, 5] (fun z i wr => ∃ (k : Nat) (y : Int), k ≤ l.length ∧ i = .int .i64 k ∧ z = .int .i64 y ∧ 0 ≤ y ∧ y ≤ left ∧ Hid (∀ i, i < k → (l.getD i []).length ≤ 1048576) ∧ Below w.heap.size w wr) (fun _ i _ => l.length - (intOf i).toNat)
    case atStart => exact ⟨0, _, Nat.zero_le _, rfl, rfl, by omega, by omega, fun i hi => absurd hi (Nat.not_lt_zero _), Below.refl _ _⟩
    case round =>
      rename World => wo
      obtain ⟨k, y, hk, rfl, rfl, hy0, hy1, hl, hw⟩ := hrel
      by_cases hlt : k < l.length
      · rcases h with h | ⟨b, o, rfl, hSb, h⟩
        · subst h; simp at hlt
        · have hq := h k hlt
          clear h
          obtain ⟨q, hqe⟩ : ∃ q, q = l.getD k [] := ⟨_, rfl⟩
          rw [← hqe] at hq
          have HQ := hide hqe
          clear hqe
          obtain ⟨a', c', hc, hrow⟩ := hq
          rw [← hw.cell (p := ⟨b, _, none⟩) hSb] at hc
          have hrow' := hide hrow.1
          clear hrow
          have HW := hide hw
          clear hw
          go_wp2_with fail
          refine (szIntS_any a' q c' y _ (unhide hrow') hy0 (by omega)).mono ?_
          rintro e w1 ⟨⟨r, rfl, hr⟩, hb⟩
          have HB := hide ((unhide HW).trans (hb.mono (unhide HW).size))
          clear hb
          rcases hr with hr | ⟨hr0, hr1, hrs⟩
          · go_wp2_with fail
            go_ret
            exact ⟨⟨_, rfl, Or.inl (by decide)⟩, unhide HB⟩
          · have hnn : ¬ r < 0 := by omega
            go_wp2_with fail
            go_roundw
            case rel => exact ⟨k + 1, r, by omega, by go_num, rfl, hr0, by omega, each_step (P := fun q : (List Int) => (q).length ≤ 1048576) hl.out (unhide HQ) hrs, unhide HB⟩
            case measure => simp [intOf]; omega
      · go_wp2_with fail
        go_ret
        refine ⟨⟨y, rfl, Or.inr ⟨hy0, hy1, ?_⟩⟩, hw⟩
        exact ⟨by omega, fun i hi => hl.out i (by omega)⟩

set_option maxHeartbeats 1000000 in
theorem szCnf_any (vars : Int) (a : Option Addr) (l : List (List Int)) (cap : Nat) (left : Int) (w : World) (h : ClsRaw w a l) (h0 : 0 ≤ left) (h1 : left ≤ 1048576) :
    Calls Try.prog 9 #[.agg #[.int .i64 vars, .slice a l.length cap], .int .i64 left] w fun e w' => (∃ r : Int, e = .returned (.int .i64 r) ∧ Left left r (SmallCls l)) ∧ Below w.heap.size w w' := by
  have HV := hide h
  clear h
  go_enter Try.func9, Try.ntmps9
  go_wp2_with fail
  refine (szIntSS_any a l cap left _ ((unhide HV).on ((Below.refl _ _).alloc (Nat.le_refl _) _)) h0 h1).mono ?_
  rintro e w1 ⟨⟨r, rfl, hr⟩, hb⟩
  have HB := hide (((Below.refl w.heap.size w).alloc (Nat.le_refl _) _).trans (hb.mono (by simp)))
  clear hb
  rcases hr with hr | ⟨hr0, hr1, hrs⟩
  · go_wp2_with fail
    go_ret
    exact ⟨⟨_, rfl, Or.inl (by decide)⟩, unhide HB⟩
  · have hnn : ¬ r < 0 := by omega
    go_wp2_with fail
    go_ret
    exact ⟨⟨_, rfl, Or.inr ⟨hr0, hr1, hrs⟩⟩, unhide HB⟩

theorem Try.cellsIntsM : (Try.prog.info? 41).map (fun i => (i.zero, i.size, i.bytes)) = some (some (.slice none 0 0), 1, 24) := by kernel_rfl

/-- A row of its own, behind the block H. -/
def OwnSet (H : Nat) (w : World) (v : Value) (l : List Int) : Prop := ∃ g, v = .slice (some ⟨g, 0, none⟩) l.length l.length ∧ H < g ∧ Row w g 3 l.length ∧ l.length ≤ 1048576 ∧ ∀ i, i < l.length → w.cell? ⟨g, i, none⟩ = some (.int .i64 (l.getD i 0))
theorem OwnSet.stay {H : Nat} {w w' : World} {v : Value} {l : List Int} (h : OwnSet H w v l) (hb : ∀ g, H < g → g < w.heap.size → w'.heap[g]? = w.heap[g]?) : OwnSet H w' v l := by
  obtain ⟨g, hv, hg, hr, hl, hc⟩ := h
  have e := hb g hg hr.lt
  exact ⟨g, hv, hg, hr.of_block e, hl, fun i hi => (World.cell?_of_block (w := w) (a := ⟨g, i, none⟩) e).trans (hc i hi)⟩
theorem OwnSet.set {H : Nat} {w : World} {v : Value} {l : List Int} (h : OwnSet H w v l) : ∃ a c, v = .slice a l.length c ∧ SetAt w a l := by
  obtain ⟨g, hv, hg, hr, hl, hc⟩ := h
  exact ⟨_, _, hv, hl, Or.inr ⟨g, 0, rfl, hr.lt, fun i hi => by rw [Nat.zero_add]; exact hc i hi⟩⟩

/-- Rows of numbers that are copies: each in memory of its own, behind the block that names them. -/
def NewCls (H : Nat) (w : World) (g : Nat) (cs : List (List Int)) : Prop := cs.length ≤ 1048576 ∧ H ≤ g ∧ Row w g 41 cs.length ∧ ∀ i, i < cs.length → ∃ v, w.cell? ⟨g, i, none⟩ = some v ∧ OwnSet g w v (cs.getD i [])
theorem NewCls.cls {H : Nat} {w : World} {g : Nat} {cs : List (List Int)} (h : NewCls H w g cs) : ClsAt w (some ⟨g, 0, none⟩) cs := by
  obtain ⟨hm, _, hr, hc⟩ := h
  refine ⟨hm, Or.inr ⟨g, 0, rfl, hr.lt, fun i hi => ?_⟩⟩
  obtain ⟨v, h1, h2⟩ := hc i hi
  rw [Nat.zero_add]
  obtain ⟨a', c', rfl, h3⟩ := h2.set
  exact ⟨a', c', h1, h3⟩
theorem NewCls.stay {H : Nat} {w w' : World} {g : Nat} {cs : List (List Int)} (h : NewCls H w g cs) (hb : ∀ b, H ≤ b → b < w.heap.size → w'.heap[b]? = w.heap[b]?) : NewCls H w' g cs := by
  obtain ⟨hm, hH, hr, hc⟩ := h
  have e := hb g hH hr.lt
  refine ⟨hm, hH, hr.of_block e, fun i hi => ?_⟩
  obtain ⟨v, h1, h2⟩ := hc i hi
  exact ⟨v, (World.cell?_of_block (w := w) (a := ⟨g, i, none⟩) e).trans h1, h2.stay fun b hb1 hb2 => hb b (by omega) hb2⟩
theorem NewCls.on {H : Nat} {w w' : World} {g : Nat} {cs : List (List Int)} (h : NewCls H w g cs) (hb : Below w.heap.size w w') : NewCls H w' g cs := h.stay fun b _ hlt => hb.block b hlt

set_option maxHeartbeats 1000000 in
theorem toIntSS_any (a : Option Addr) (l : List (List Int)) (cap : Nat) (w : World) (h : ClsAt w a l) :
    Calls Try.prog 23 #[.slice a l.length cap] w fun e w' => ∃ g : Nat, e = .returned (.slice (some ⟨g, 0, none⟩) l.length l.length) ∧ Below w.heap.size w w' ∧ NewCls w.heap.size w' g l := by
  obtain ⟨hm, h⟩ := h
  have hmk := make_eq (P := Try.prog) 22 41 _ 1 24 Try.underlying22 Try.cellsIntsM l.length (by omega) (by omega)
  go_enter Try.func23, Try.ntmps23
  go_wp2
  go_loopw [4] (fun i wr => ∃ k : Nat, k ≤ l.length ∧ i = .int .i64 k ∧ Below w.heap.size w wr ∧ Row wr w.heap.size 41 l.length ∧ Hid (∀ i, i < k → ∃ v, wr.cell? ⟨w.heap.size, i, none⟩ = some v ∧ OwnSet w.heap.size wr v (l.getD i []))) (fun i _ => l.length - (intOf i).toNat)
  case atStart => exact ⟨0, Nat.zero_le _, rfl, (Below.refl _ _).alloc (Nat.le_refl _) _, by simpa using row_made w _ (l.length * 1) _, fun i hi => absurd hi (Nat.not_lt_zero _)⟩
  case round =>
    rename World => wo
    obtain ⟨k, hk, rfl, hw, hrow, hl⟩ := hrel
    by_cases hlt : k < l.length
    · rcases h with h | ⟨b, o, rfl, hSb, h⟩
      · subst h; simp at hlt
      · obtain ⟨a', c', hc, hq⟩ := h k hlt
        clear h
        rw [← hw.cell (p := ⟨b, _, none⟩) hSb] at hc
        have hq' := hq.on hw
        obtain ⟨r, hre⟩ : ∃ r, r = l.getD k [] := ⟨_, rfl⟩
        rw [← hre] at hc hq'
        have HQ := hide hre
        have HC := hide (toIntS_any a' r c' wo hq')
        have hrl := hq'.1
        have HRL := hide hrl
        have HW := hide hw
        have HR := hide hrow
        clear hre hw hrow hq hq' hrl
        go_wp2_with fail
        refine (unhide HC).mono ?_
        rintro e w1 ⟨g, rfl, hb, hset, hg, hgr⟩
        have hr1 : Row w1 w.heap.size 41 l.length := (unhide HR).of_block (hb.block _ (unhide HR).lt)
        obtain ⟨y0, x0⟩ := hr1.cell (i := k) (by omega)
        have f0 := hr1.frozen k
        have HB := hide hb
        have HR1 := hide hr1
        have HO : Hid (OwnSet w.heap.size w1 (.slice (some ⟨g, 0, none⟩) r.length r.length) r) := by
          refine ⟨g, rfl, ?_, hgr, unhide HRL, fun i hi => ?_⟩
          · have := (unhide HR).lt; omega
          · rcases hset.2 with h0 | ⟨b2, o2, hbo, _, hcc⟩
            · subst h0; simp at hi
            · simp at hbo
              obtain ⟨rfl, rfl⟩ := hbo
              simpa using hcc i hi
        clear hb hr1 hset hg hgr
        go_wp2_with fail
        go_roundw
        case rel =>
          refine ⟨k + 1, by omega, by go_num, ((unhide HW).trans ((unhide HB).mono (unhide HW).size)).setCell (Nat.le_refl _) _, (unhide HR1).set _ _ _, ?_⟩
          intro i hi
          have key : ∀ {v : Value} {q : List Int}, OwnSet w.heap.size w1 v q → OwnSet w.heap.size (w1.setCell ⟨w.heap.size, k, none⟩ (.slice (some ⟨g, 0, none⟩) r.length r.length)) v q := fun ho => ho.stay fun g' hg' _ => blk_setCell_other _ _ _ _ (by show g' ≠ w.heap.size; omega)
          by_cases e : i = k
          · subst e
            rw [← unhide HQ]
            exact ⟨_, World.cell?_setCell_same _ _ _ x0, key (unhide HO)⟩
          · obtain ⟨v, hv1, hv2⟩ := unhide hl i (by omega)
            refine ⟨v, ?_, key (hv2.stay fun g' _ hg2 => (unhide HB).block g' hg2)⟩
            rw [World.cell?_setCell_other _ _ _ _ (by intro h; apply e; simpa using h.symm)]
            exact ((unhide HB).cell (p := ⟨w.heap.size, i, none⟩) (unhide HR).lt).trans hv1
        case measure => simp [intOf]; omega
    · go_wp2_with fail
      go_ret
      have hke : k = l.length := by omega
      subst hke
      exact ⟨w.heap.size, rfl, hw, hm, Nat.le_refl _, hrow, fun i hi => unhide hl i hi⟩

set_option maxHeartbeats 1000000 in
theorem toCnf_any (vars : Int) (a : Option Addr) (l : List (List Int)) (cap : Nat) (w : World) (h : ClsAt w a l) :
    Calls Try.prog 11 #[.agg #[.int .i64 vars, .slice a l.length cap]] w fun e w' => ∃ g : Nat, e = .returned (.agg #[.int .i64 vars, .slice (some ⟨g, 0, none⟩) l.length l.length]) ∧ Below w.heap.size w w' ∧ NewCls w.heap.size w' g l := by
  have HV := hide h
  clear h
  go_enter Try.func11, Try.ntmps11
  go_wp2_with fail
  have e0 : Below w.heap.size w (((w.alloc (.cells #[.int .i64 vars, .slice a l.length cap] 24 (0, 0))).alloc (.cells #[.int .i64 0, .slice none 0 0] 29 (0, 0))).alloc (.cells #[.int .i64 vars, .slice none 0 0] 29 (0, 0))) :=
    (((Below.refl _ _).alloc (Nat.le_refl _) _).alloc (by simp) _).alloc (by simp; omega) _
  refine (toIntSS_any a l cap _ ((unhide HV).on e0)).mono ?_
  rintro e w1 ⟨g, rfl, hb, hn⟩
  have bA : w1.heap[w.heap.size]? = some (.cells #[.int .i64 vars, .slice a l.length cap] 24 (0, 0)) := (hb.block _ (by simp; omega)).trans (three_alloc _ _ _ _).1
  have bR : w1.heap[w.heap.size + 1]? = some (.cells #[.int .i64 0, .slice none 0 0] 29 (0, 0)) := (hb.block _ (by simp)).trans (three_alloc _ _ _ _).2.1
  have bO : w1.heap[w.heap.size + 1 + 1]? = some (.cells #[.int .i64 vars, .slice none 0 0] 29 (0, 0)) := (hb.block _ (by simp)).trans (three_alloc _ _ _ _).2.2
  have hz := hb.size
  simp at hz
  have hb1 := e0.trans (hb.mono (by simp; omega))
  have HB := hide hb1
  simp at hn
  have HN := hide hn
  clear hb hb1 e0 hn
  obtain ⟨A0, A1, fA⟩ := two bA
  obtain ⟨O0, O1, fO⟩ := two bO
  obtain ⟨R0, R1, fR⟩ := two bR
  clear bA bR bO
  go_wp2_with fail
  refine bodyPost_ret (v := .agg #[.int .i64 vars, .slice (some ⟨g, 0, none⟩) l.length l.length]) (by simp [results, Try.results11, go_sem, R0, R1]) rfl ⟨g, rfl, ?_, ?_⟩
  · exact below_sets (w.heap.size + 1) (by omega) [.int .i64 vars, .slice (some ⟨g, 0, none⟩) l.length l.length] 0 w _ ((unhide HB).setCell (by show w.heap.size ≤ w.heap.size + 1 + 1; omega) _)
  · show NewCls w.heap.size ((w1.setCell ⟨w.heap.size + 1 + 1, 1, none⟩ (.slice (some ⟨g, 0, none⟩) l.length l.length)).setCells (w.heap.size + 1) 0 [.int .i64 vars, .slice (some ⟨g, 0, none⟩) l.length l.length]) g l
    obtain ⟨n1, n2, n3, n4⟩ := (unhide HN).stay (w' := (w1.setCell ⟨w.heap.size + 1 + 1, 1, none⟩ (.slice (some ⟨g, 0, none⟩) l.length l.length)).setCells (w.heap.size + 1) 0 [.int .i64 vars, .slice (some ⟨g, 0, none⟩) l.length l.length]) fun b hb _ => (blk_sets _ _ _ _ _ (by omega)).trans (blk_setCell_other _ _ _ _ (by show b ≠ w.heap.size + 1 + 1; omega))
    exact ⟨n1, by omega, n3, n4⟩

set_option maxHeartbeats 1000000 in
theorem eqIntSS_cls (a a' : Option Addr) (l : List (List Int)) (cap cap' : Nat) (w : World) (h : ClsAt w a l) (h' : ClsAt w a' l) :
    Calls Try.prog 14 #[.slice a l.length cap, .slice a' l.length cap'] w fun e w' => e = .returned (.bool true) ∧ Below w.heap.size w w' := by
  obtain ⟨hm, h⟩ := h
  obtain ⟨_, h'⟩ := h'
  go_enter Try.func14, Try.ntmps14
  go_wp2
  go_loopw [5] (fun i wr => ∃ k : Nat, k ≤ l.length ∧ i = .int .i64 k ∧ Below w.heap.size w wr) (fun i _ => l.length - (intOf i).toNat)
  case atStart => exact ⟨0, Nat.zero_le _, rfl, Below.refl _ _⟩
  case round =>
    rename World => wo
    obtain ⟨k, hk, rfl, hw⟩ := hrel
    by_cases hlt : k < l.length
    · rcases h with h | ⟨b, o, rfl, hSb, h⟩
      · subst h; simp at hlt
      rcases h' with h' | ⟨b', o', rfl, hSb', h'⟩
      · subst h'; simp at hlt
      have hq := h k hlt
      have hq' := h' k hlt
      clear h h'
      generalize l.getD k [] = q at hq hq'
      obtain ⟨e1, f1, c0, hr1⟩ := hq
      rw [← hw.cell (p := ⟨b, _, none⟩) hSb] at c0
      have HR1 := hide (hr1.on hw)
      obtain ⟨e2, f2, d0, hr2⟩ := hq'
      rw [← hw.cell (p := ⟨b', _, none⟩) hSb'] at d0
      have HR2 := hide (hr2.on hw)
      clear hr1 hr2
      have j0 : (0 : Int) ≤ (k : Int) := by omega
      have j1 : (k : Int) < (l.length : Int) := by omega
      have HW := hide hw
      clear hw
      have r_c0 := cell_regrown c0
      have r_d0 := cell_regrown d0
      have cC := hide (fun d os => Calls.regrown_of (eqIntS_same e1 e2 q f1 f2 (grow (redrawn wo d) os) ((unhide HR1).on (below_regrown wo d os)) ((unhide HR2).on (below_regrown wo d os))))
      go_wp2_with fail
      refine wp_region_quiet_below (by kernel_rfl) (by kernel_rfl) ?_
      repeat (quiet_step (exact unhide cC _ _))
      refine wpQuiet_nil ?_
      intro _ hw'
      obtain ⟨⟨dq, osq⟩, hw''⟩ := hw'
      subst hw''
      have HBE := hide ((unhide HW).trans ((below_regrown wo dq osq).mono (unhide HW).size))
      go_wp2_with fail
      go_roundw
      case rel => exact ⟨k + 1, by omega, by go_num, unhide HBE⟩
      case measure => simp [intOf]; omega
    · go_wp2_with fail
      go_ret
      exact ⟨rfl, hw⟩

set_option maxHeartbeats 1000000 in
theorem eqCnf_same (vars : Int) (a a' : Option Addr) (l : List (List Int)) (cap cap' : Nat) (w : World) (h : ClsAt w a l) (h' : ClsAt w a' l) :
    Calls Try.prog 15 #[.agg #[.int .i64 vars, .slice a l.length cap], .agg #[.int .i64 vars, .slice a' l.length cap']] w fun e w' => e = .returned (.bool true) ∧ Below w.heap.size w w' := by
  have HV := hide h
  have HV' := hide h'
  clear h h'
  go_enter Try.func15, Try.ntmps15
  go_wp2_with fail
  have e0 : ∀ A B, Below w.heap.size w ((w.alloc A).alloc B) := fun A B => ((Below.refl _ _).alloc (Nat.le_refl _) _).alloc (by simp) _
  refine (eqIntSS_cls a a' l cap cap' _ ((unhide HV).on (e0 _ _)) ((unhide HV').on (e0 _ _))).mono ?_
  rintro e w1 ⟨rfl, hb⟩
  have HB := hide ((e0 _ _).trans (hb.mono (by simp; omega)))
  clear hb e0
  go_wp2_with fail
  go_ret
  exact ⟨rfl, unhide HB⟩
end Go.Proofs.Ythkhaemlcmkkjat

namespace Go.Proofs.Ythkhaemlcmkkjat
set_option linter.unusedVariables false
set_option linter.unusedSimpArgs false
open Go.RowKit Go.Deep

set_option maxHeartbeats 1000000 in
theorem isLit_any (vars : Int) (hv0 : 0 ≤ vars) (hv1 : vars ≤ 400) (cv : Value) (x : Int) (w : World) :
    Calls Try.prog 109 #[.agg #[.int .i64 vars, cv], .int .i64 x] w fun e w' => e = .returned (.bool (litB vars x)) ∧ Below w.heap.size w w' := by
  have hneg := neg_wrap hv0 hv1
  by_cases hx : x = 0
  · have e : litB vars x = false := by simp [litB, hx]
    have HE := hide e
    clear e
    go_enter Try.func109, Try.ntmps109
    go_wp2_with fail
    go_ret
    exact ⟨ret_bool (unhide HE).symm, (Below.refl _ _).alloc (Nat.le_refl _) _⟩
  · have e : litB vars x = inB x (-vars) vars := by simp [litB, hx]
    have HE := hide e
    clear e
    go_enter Try.func109, Try.ntmps109
    go_wp2_with fail
    refine (within_any _ _ _ _).mono ?_
    rintro e w1 ⟨rfl, rfl⟩
    go_wp2_with fail
    go_ret
    exact ⟨ret_bool (by rw [unhide HE]; simp [hx]), (Below.refl _ _).alloc (Nat.le_refl _) _⟩

set_option maxHeartbeats 1000000 in
theorem litInt11_any (vars : Int) (hv0 : 0 ≤ vars) (hv1 : vars ≤ 400) (cv : Value) (x : Int) (g : Nat) (w : World) (hg : w.cell? ⟨g, 0, none⟩ = some (.func (.func 109) #[.agg #[.int .i64 vars, cv]] #[])) :
    Calls Try.prog 128 #[.int .i64 x, .pointer (some ⟨g, 0, none⟩)] w fun e w' => e = .returned (.bool (!litB vars x)) ∧ Below w.heap.size w w' := by
  have H := hide (isLit_any vars hv0 hv1 cv x w)
  go_enter Try.func128, Try.ntmps128
  go_wp2_with fail
  refine (unhide H).mono ?_
  rintro e w1 ⟨rfl, hb⟩
  go_wp2_with fail
  go_ret
  exact ⟨rfl, hb⟩

set_option maxHeartbeats 1000000 in
theorem searchInt11_any (vars : Int) (hv0 : 0 ≤ vars) (hv1 : vars ≤ 400) (cv : Value) (a : Option Addr) (l : List Int) (cap g : Nat) (w : World) (h : SetAt w a l)
    (hg : w.cell? ⟨g, 0, none⟩ = some (.func (.func 109) #[.agg #[.int .i64 vars, cv]] #[])) :
    Calls Try.prog 127 #[.slice a l.length cap, .int .i64 0, .func (.func 128) #[] #[.pointer (some ⟨g, 0, none⟩)]] w
      fun e w' => (∃ k : Nat, e = .returned (.int .i64 k) ∧ k ≤ l.length ∧ ((k == l.length) = l.all (litB vars))) ∧ Below w.heap.size w w' := by
  obtain ⟨hm, h⟩ := h
  go_enter Try.func127, Try.ntmps127
  go_wp2
  go_loopw [1] (fun i wr => ∃ k : Nat, k ≤ l.length ∧ i = .int .i64 k ∧ Hid ((l.take k).all (litB vars) = true) ∧ Below w.heap.size w wr) (fun i _ => l.length - (intOf i).toNat)
  case atStart => exact ⟨0, Nat.zero_le _, rfl, rfl, Below.refl _ _⟩
  case round =>
    rename World => wo
    obtain ⟨k, hk, rfl, hl', hw⟩ := hrel
    by_cases hlt : k < l.length
    · rcases h with h | ⟨b, o, rfl, hSb, h⟩
      · subst h; simp at hlt
      · have c0 := h k hlt
        clear h
        have H := hide (@all_take_succ Int l 0 (litB vars) k hlt)
        have HN := hide (@all_not_take Int l 0 (litB vars) k hlt)
        generalize l.getD k 0 = q at c0 H HN
        rw [← hw.cell (p := ⟨b, _, none⟩) hSb] at c0
        have hg' := (hw.cell (p := ⟨g, 0, none⟩) (block_lt_of_cell hg)).trans hg
        have HW := hide hw
        clear hw
        go_wp2_with fail
        refine (litInt11_any vars hv0 hv1 cv q g _ hg').mono ?_
        rintro e w1 ⟨rfl, hb⟩
        have hbe := (unhide HW).trans (hb.mono (unhide HW).size)
        have HBE := hide hbe
        clear hb hbe
        cases hv : litB vars q with
        | true =>
          go_wp2_with fail
          go_roundw
          case rel => exact ⟨k + 1, by omega, by go_num, by show _ = true; rw [unhide H, hl'.out, hv]; rfl, unhide HBE⟩
          case measure => simp [intOf]; omega
        | false =>
          have e1 := unhide HN hv
          have HE := hide e1
          clear e1
          go_wp2_with fail
          go_ret
          refine ⟨⟨k, rfl, by omega, ?_⟩, unhide HBE⟩
          rw [unhide HE, beq_eq_false_iff_ne]; omega
    · go_wp2_with fail
      go_ret
      refine ⟨⟨k, rfl, by omega, ?_⟩, hw⟩
      rw [all_of_take hlt hl'.out, beq_iff_eq]; omega

set_option maxHeartbeats 1000000 in
theorem allInt11_any (vars : Int) (hv0 : 0 ≤ vars) (hv1 : vars ≤ 400) (cv : Value) (a : Option Addr) (l : List Int) (cap : Nat) (w : World) (h : SetAt w a l) :
    Calls Try.prog 108 #[.slice a l.length cap, .func (.func 109) #[.agg #[.int .i64 vars, cv]] #[]] w fun e w' => e = .returned (.bool (l.all (litB vars))) ∧ Below w.heap.size w w' := by
  have H := hide (fun (o : Obj) g hg => searchInt11_any vars hv0 hv1 cv a l cap g (w.alloc o) (h.on ((Below.refl _ _).alloc (Nat.le_refl _) _)) hg)
  clear h
  go_enter Try.func108, Try.ntmps108
  go_wp2_with fail
  refine (unhide H _ _ ?_).mono ?_
  · simp
  · rintro e w1 ⟨⟨k, rfl, hk, he⟩, hb⟩
    have HE := hide he
    clear he
    go_wp2_with fail
    go_ret
    refine ⟨ret_bool ?_, ((Below.refl _ _).alloc (Nat.le_refl _) _).trans (hb.mono (by simp))⟩
    rw [← unhide HE, Bool.eq_iff_iff]; simp; omega

set_option maxHeartbeats 1000000 in
theorem areLits_any (vars : Int) (hv0 : 0 ≤ vars) (hv1 : vars ≤ 400) (cv : Value) (a : Option Addr) (l : List Int) (cap : Nat) (w : World) (h : SetAt w a l) :
    Calls Try.prog 79 #[.agg #[.int .i64 vars, cv], .slice a l.length cap] w fun e w' => e = .returned (.bool (litsB vars l)) ∧ Below w.heap.size w w' := by
  have hm := h.1
  have H := hide (fun W (hW : Below w.heap.size w W) => allInt11_any vars hv0 hv1 cv a l cap W (h.on hW))
  clear h
  by_cases h4 : (l.length : Int) ≤ 400
  · have h4' : Hid (l.length ≤ 400) := by show _ ≤ _; omega
    go_enter Try.func79, Try.ntmps79
    go_wp2_with fail
    refine (unhide H _ ((Below.refl _ _).alloc (Nat.le_refl _) _)).mono ?_
    rintro e w1 ⟨rfl, hb⟩
    go_wp2_with fail
    go_ret
    exact ⟨ret_bool (by simp [litsB, h4'.out]), ((Below.refl _ _).alloc (Nat.le_refl _) _).trans (hb.mono (by simp))⟩
  · have e : litsB vars l = false := by simp only [litsB]; simp; omega
    go_enter Try.func79, Try.ntmps79
    go_wp2_with fail
    go_ret
    exact ⟨by first | rfl | (rw [e]; rfl), (Below.refl _ _).alloc (Nat.le_refl _) _⟩

set_option maxHeartbeats 1000000 in
theorem litCls_any (vars : Int) (hv0 : 0 ≤ vars) (hv1 : vars ≤ 400) (cv : Value) (a : Option Addr) (l : List Int) (cap g : Nat) (w : World) (h : SetAt w a l) (hg : w.cell? ⟨g, 0, none⟩ = some (.func (.func 79) #[.agg #[.int .i64 vars, cv]] #[])) :
    Calls Try.prog 107 #[.slice a l.length cap, .pointer (some ⟨g, 0, none⟩)] w fun e w' => e = .returned (.bool (!litsB vars l)) ∧ Below w.heap.size w w' := by
  have H := hide (areLits_any vars hv0 hv1 cv a l cap w h)
  clear h
  go_enter Try.func107, Try.ntmps107
  go_wp2_with fail
  refine (unhide H).mono ?_
  rintro e w1 ⟨rfl, hb⟩
  go_wp2_with fail
  go_ret
  exact ⟨rfl, hb⟩

set_option maxHeartbeats 1000000 in
theorem searchCls_any (vars : Int) (hv0 : 0 ≤ vars) (hv1 : vars ≤ 400) (cv : Value) (a : Option Addr) (l : List (List Int)) (cap g : Nat) (w : World) (h : ClsAt w a l)
    (hg : w.cell? ⟨g, 0, none⟩ = some (.func (.func 79) #[.agg #[.int .i64 vars, cv]] #[])) :
    Calls Try.prog 106 #[.slice a l.length cap, .int .i64 0, .func (.func 107) #[] #[.pointer (some ⟨g, 0, none⟩)]] w
      fun e w' => (∃ k : Nat, e = .returned (.int .i64 k) ∧ k ≤ l.length ∧ ((k == l.length) = l.all (litsB vars))) ∧ Below w.heap.size w w' := by
  obtain ⟨hm, h⟩ := h
  go_enter Try.func106, Try.ntmps106
  go_wp2
  go_loopw [1] (fun i wr => ∃ k : Nat, k ≤ l.length ∧ i = .int .i64 k ∧ Hid ((l.take k).all (litsB vars) = true) ∧ Below w.heap.size w wr) (fun i _ => l.length - (intOf i).toNat)
  case atStart => exact ⟨0, Nat.zero_le _, rfl, rfl, Below.refl _ _⟩
  case round =>
    rename World => wo
    obtain ⟨k, hk, rfl, hl', hw⟩ := hrel
    by_cases hlt : k < l.length
    · rcases h with h | ⟨b, o, rfl, hSb, h⟩
      · subst h; simp at hlt
      · have hq := h k hlt
        clear h
        have H := hide (@all_take_succ (List Int) l [] (litsB vars) k hlt)
        have HN := hide (@all_not_take (List Int) l [] (litsB vars) k hlt)
        generalize l.getD k [] = q at hq H HN
        obtain ⟨a', c', hc, hrow⟩ := hq
        rw [← hw.cell (p := ⟨b, _, none⟩) hSb] at hc
        have hrow' := hide (hrow.on hw)
        clear hrow
        have hg' := (hw.cell (p := ⟨g, 0, none⟩) (block_lt_of_cell hg)).trans hg
        have HW := hide hw
        clear hw
        go_wp2_with fail
        refine (litCls_any vars hv0 hv1 cv a' q c' g _ (unhide hrow') hg').mono ?_
        rintro e w1 ⟨rfl, hb⟩
        have hbe := (unhide HW).trans (hb.mono (unhide HW).size)
        have HBE := hide hbe
        clear hb hbe
        cases hv : litsB vars q with
        | true =>
          go_wp2_with fail
          go_roundw
          case rel => exact ⟨k + 1, by omega, by go_num, by show _ = true; rw [unhide H, hl'.out, hv]; rfl, unhide HBE⟩
          case measure => simp [intOf]; omega
        | false =>
          have e1 := unhide HN hv
          have HE := hide e1
          clear e1
          go_wp2_with fail
          go_ret
          refine ⟨⟨k, rfl, by omega, ?_⟩, unhide HBE⟩
          rw [unhide HE, beq_eq_false_iff_ne]; omega
    · go_wp2_with fail
      go_ret
      refine ⟨⟨k, rfl, by omega, ?_⟩, hw⟩
      rw [all_of_take hlt hl'.out, beq_iff_eq]; omega

set_option maxHeartbeats 1000000 in
theorem allCls_any (vars : Int) (hv0 : 0 ≤ vars) (hv1 : vars ≤ 400) (cv : Value) (a : Option Addr) (l : List (List Int)) (cap : Nat) (w : World) (h : ClsAt w a l) :
    Calls Try.prog 78 #[.slice a l.length cap, .func (.func 79) #[.agg #[.int .i64 vars, cv]] #[]] w fun e w' => e = .returned (.bool (l.all (litsB vars))) ∧ Below w.heap.size w w' := by
  have H := hide (fun (o : Obj) g hg => searchCls_any vars hv0 hv1 cv a l cap g (w.alloc o) (h.on ((Below.refl _ _).alloc (Nat.le_refl _) _)) hg)
  clear h
  go_enter Try.func78, Try.ntmps78
  go_wp2_with fail
  refine (unhide H _ _ ?_).mono ?_
  · simp
  · rintro e w1 ⟨⟨k, rfl, hk, he⟩, hb⟩
    have HE := hide he
    clear he
    go_wp2_with fail
    go_ret
    refine ⟨ret_bool ?_, ((Below.refl _ _).alloc (Nat.le_refl _) _).trans (hb.mono (by simp))⟩
    rw [← unhide HE, Bool.eq_iff_iff]; simp; omega

set_option maxHeartbeats 2000000 in
theorem implCnfOk_any (vars : Int) (a : Option Addr) (cs : List (List Int)) (cap : Nat) (w : World) (h : ClsAt w a cs) :
    Calls Try.prog 42 #[.agg #[.int .i64 vars, .slice a cs.length cap]] w fun e w' => e = .returned (.bool (cnfB vars cs)) ∧ Below w.heap.size w w' := by
  have hm := h.1
  have H := hide (fun W (hW : Below w.heap.size w W) hv0 hv1 => allCls_any vars hv0 hv1 (.slice a cs.length cap) a cs cap W (h.on hW))
  clear h
  cases hin : inB vars 0 400 with
  | false =>
    have e : cnfB vars cs = false := by simp [cnfB, hin]
    have HE := hide e
    clear e
    go_enter Try.func42, Try.ntmps42
    go_wp2_with fail
    refine (within_any _ _ _ _).mono ?_
    rintro e w1 ⟨rfl, rfl⟩
    rw [hin]
    go_wp2_with fail
    go_ret
    exact ⟨ret_bool (unhide HE).symm, (Below.refl w.heap.size w).alloc (Nat.le_refl _) _⟩
  | true =>
    have hv : 0 ≤ vars ∧ vars ≤ 400 := by simpa [inB] using hin
    obtain ⟨hv0, hv1⟩ := hv
    by_cases hc : (cs.length : Int) ≤ 6000
    · have e : cnfB vars cs = cs.all (litsB vars) := by
        have : cs.length ≤ 6000 := by omega
        simp [cnfB, hin, this]
      have HE := hide e
      clear e
      go_enter Try.func42, Try.ntmps42
      go_wp2_with fail
      refine (within_any _ _ _ _).mono ?_
      rintro e w1 ⟨rfl, rfl⟩
      rw [hin]
      go_wp2_with fail
      refine (unhide H _ ((Below.refl _ _).alloc (Nat.le_refl _) _) hv0 hv1).mono ?_
      rintro e w1 ⟨rfl, hb⟩
      go_wp2_with fail
      go_ret
      exact ⟨ret_bool (unhide HE).symm, ((Below.refl _ _).alloc (Nat.le_refl _) _).trans (hb.mono (by simp))⟩
    · have e : cnfB vars cs = false := by simp only [cnfB]; simp; omega
      have HE := hide e
      clear e
      go_enter Try.func42, Try.ntmps42
      go_wp2_with fail
      refine (within_any _ _ _ _).mono ?_
      rintro e w1 ⟨rfl, rfl⟩
      rw [hin]
      go_wp2_with fail
      go_ret
      exact ⟨ret_bool (unhide HE).symm, (Below.refl w.heap.size w).alloc (Nat.le_refl _) _⟩
end Go.Proofs.Ythkhaemlcmkkjat

namespace Go.Proofs.Ythkhaemlcmkkjat
set_option linter.unusedVariables false
set_option linter.unusedSimpArgs false
open Go.RowKit Go.Deep Go.Sort

/-- What is so, in memory, read alone. -/
def BoolsAt (w : World) (a : Option Addr) (m : List Bool) : Prop := m.length ≤ 1048576 ∧ (m = [] ∨ ∃ b o, a = some ⟨b, o, none⟩ ∧ b < w.heap.size ∧ ∀ i, i < m.length → w.cell? ⟨b, o + i, none⟩ = some (.bool (m.getD i false)))
theorem BoolsAt.on {w w' : World} {a : Option Addr} {m : List Bool} (h : BoolsAt w a m) (hb : Below w.heap.size w w') : BoolsAt w' a m := by
  obtain ⟨hl, h⟩ := h
  exact ⟨hl, h.imp id fun ⟨b, o, ha, hlt, hc⟩ => ⟨b, o, ha, Nat.lt_of_lt_of_le hlt hb.size, fun i hi => (hb.cell (p := ⟨b, o + i, none⟩) hlt).trans (hc i hi)⟩⟩
/-- A literal is so. -/
def soB (m : List Bool) (x : Int) : Bool := if 0 < x then m.getD (x - 1).toNat false else !m.getD (-x - 1).toNat false
def holdsB (m : List Bool) (c : List Int) : Bool := c.any (soB m)
def cnfTrueB (vars : Int) (cs : List (List Int)) (m : List Bool) : Bool := cnfB vars cs && (decide ((m.length : Int) = vars) && cs.all (holdsB m))
theorem lit_parts {vars x : Int} (h : litB vars x = true) : x ≠ 0 ∧ -vars ≤ x ∧ x ≤ vars := by
  simp [litB, inB] at h
  exact ⟨h.1, h.2.1, h.2.2⟩
theorem cany_take_succ {α : Type} {l : List α} {d : α} {f : α → Bool} {k : Nat} (h : k < l.length) : (l.take (k + 1)).any f = ((l.take k).any f || f (l.getD k d)) := by
  rw [List.take_add_one, List.any_append]
  simp [List.getD, h]
theorem cany_of_take {α : Type} {l : List α} {f : α → Bool} {k : Nat} (h : ¬ k < l.length) : (l.take k).any f = l.any f := by rw [List.take_of_length_le (by omega)]

/-- Where a literal's variable lies. -/
theorem so_at {w : World} {a : Option Addr} {m : List Bool} {x : Int} (h : BoolsAt w a m) (hx : x ≠ 0) (h1 : -(m.length : Int) ≤ x) (h2 : x ≤ m.length) : ∃ b o n : Nat, a = some ⟨b, o, none⟩ ∧ n < m.length ∧ w.cell? ⟨b, o + n, none⟩ = some (.bool (m.getD n false)) ∧ (0 < x → IntKind.i64.wrap (x - 1) = (n : Int) ∧ soB m x = m.getD n false) ∧ (x < 0 → IntKind.i64.wrap (-x) = -x ∧ IntKind.i64.wrap (-x - 1) = (n : Int) ∧ soB m x = !m.getD n false) := by
  obtain ⟨hm, h⟩ := h
  rcases h with rfl | ⟨b, o, rfl, hb, hc⟩
  · simp at h1 h2; omega
  by_cases hp : 0 < x
  · refine ⟨b, o, (x - 1).toNat, rfl, by omega, hc _ (by omega), fun _ => ⟨by rw [IntKind.wrap_i64]; omega, by simp [soB, hp]⟩, fun hn => by omega⟩
  · refine ⟨b, o, (-x - 1).toNat, rfl, by omega, hc _ (by omega), fun h => absurd h hp, fun hn => ⟨by rw [IntKind.wrap_i64]; omega, by rw [IntKind.wrap_i64]; omega, by simp [soB, hp]⟩⟩

theorem cls_lits {vars : Int} {cs : List (List Int)} {k : Nat} (h : cnfB vars cs = true) (hk : k < cs.length) : ∀ x ∈ cs.getD k [], x ≠ 0 ∧ -vars ≤ x ∧ x ≤ vars := by
  simp only [cnfB, Bool.and_eq_true, List.all_eq_true] at h
  have := h.2.2 _ (getD_mem (d := []) hk)
  simp only [litsB, Bool.and_eq_true, List.all_eq_true] at this
  exact fun x hx => lit_parts (this.2 x hx)

end Go.Proofs.Ythkhaemlcmkkjat
