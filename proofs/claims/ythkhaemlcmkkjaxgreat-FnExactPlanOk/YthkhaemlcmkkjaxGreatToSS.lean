/- The laws' copies of steps. -/
import Derived.Test.YthkhaemlcmkkjaxGreatToS
import Derived.Test.YthkhaemlcmkkjaxGreatStepsN
namespace Go.Proofs.YthkhaemlcmkkjaxGreat
set_option linter.unusedVariables false
set_option linter.unusedSimpArgs false
open Go.RowKit Go.Deep

theorem Tryz.cellsStepM : (Tryz.prog.info? 36).map (fun i => (i.zero, i.size, i.bytes)) = some (some (.agg #[.int .i64 0, .int .i64 0, .int .i64 0]), 3, 24) := by kernel_rfl
/-- The cells of step i. -/
def StepAt (w : World) (H o : Nat) (s : StepD) : Prop := w.cell? ⟨H, o, none⟩ = some (.int .i64 s.kind) ∧ w.cell? ⟨H, o + 1, none⟩ = some (.int .i64 s.inn) ∧ w.cell? ⟨H, o + 2, none⟩ = some (.int .i64 s.out)
theorem StepAt.range {w : World} {H o : Nat} {s : StepD} (h : StepAt w H o s) : w.rangeAt H o [.int .i64 s.kind, .int .i64 s.inn, .int .i64 s.out] := fun j v hv => by
  match j, hv with
  | 0, hv => simp at hv; subst hv; exact h.1
  | 1, hv => simp at hv; subst hv; exact h.2.1
  | 2, hv => simp at hv; subst hv; exact h.2.2
theorem StepAt.of_range {w : World} {H o : Nat} {s : StepD} (h : w.rangeAt H o [.int .i64 s.kind, .int .i64 s.inn, .int .i64 s.out]) : StepAt w H o s := ⟨h 0 _ rfl, h 1 _ rfl, h 2 _ rfl⟩
theorem StepAt.stay {w w' : World} {H o : Nat} {s : StepD} (h : StepAt w H o s) (hb : w'.heap[H]? = w.heap[H]?) : StepAt w' H o s := ⟨(World.cell?_of_block (w := w) (a := ⟨H, o, none⟩) hb).trans h.1, (World.cell?_of_block (w := w) (a := ⟨H, o + 1, none⟩) hb).trans h.2.1, (World.cell?_of_block (w := w) (a := ⟨H, o + 2, none⟩) hb).trans h.2.2⟩
theorem stepAt_step {w1 : World} {H n k : Nat} {t : TypeId} {l : List StepD} {q : StepD} (hr : Row w1 H t n) (hk : k * 3 + 3 ≤ n) (hl : ∀ i, i < k → StepAt w1 H (i * 3) (l.getD i dStep)) (hq : q = l.getD k dStep) :
    ∀ i, i < k + 1 → StepAt (w1.setCells H (k * 3) [.int .i64 q.kind, .int .i64 q.inn, .int .i64 q.out]) H (i * 3) (l.getD i dStep) := by
  intro i hi
  by_cases e : i = k
  · subst e
    rw [← hq]
    exact StepAt.of_range (World.rangeAt_setCells_same w1 H (i * 3) [.int .i64 q.kind, .int .i64 q.inn, .int .i64 q.out] (hr.there hk))
  · have h := hl i (by omega)
    exact StepAt.of_range (World.rangeAt_setCells_apart h.range H (k * 3) _ (Or.inr (Or.inl (by simp; omega))))
/-- Cells that are steps are a row of them. -/
theorem stepsRow {w : World} {g B : Nat} {l : List StepD} (hg : B ≤ g) (hr : Row w g 36 (l.length * 3)) (hl : ∀ i, i < l.length → StepAt w g (i * 3) (l.getD i dStep)) (hm : l.length ≤ 1048576) : SR B w (.slice (some ⟨g, 0, none⟩) l.length l.length) l := by
  obtain ⟨C, hC, hs⟩ := hr
  refine ⟨stepVs_len l, Or.inr ⟨g, l.length, C, rfl, hg, hC, Nat.le_refl _, by unfold maxLen; omega, by omega, ?_⟩⟩
  apply List.ext_getElem?
  intro i
  rw [List.getElem?_take]
  by_cases hi : i < l.length * 3
  · rw [if_pos hi]
    obtain ⟨q, j, hq, hj, rfl⟩ : ∃ q j, q < l.length ∧ j < 3 ∧ i = q * 3 + j := ⟨i / 3, i % 3, by omega, by omega, by omega⟩
    rw [stepVs_at l q j hq hj]
    have h := hl q hq
    have key : ∀ v, w.cell? ⟨g, q * 3 + j, none⟩ = some v → C.toList[q * 3 + j]? = some v := fun v hv => by
      simp only [World.cell?, hC] at hv
      simpa using hv
    match j, hj with
    | 0, _ => exact key _ h.1
    | 1, _ => exact key _ h.2.1
    | 2, _ => exact key _ h.2.2
  · rw [if_neg hi, List.getElem?_eq_none (by rw [stepVs_len]; omega)]

set_option maxHeartbeats 1000000 in
theorem toStepS_any (a : Option Addr) (l : List StepD) (cap : Nat) (w : World) (h : StepsAt w a l) :
    Calls Tryz.prog 20 #[.slice a l.length cap] w fun e w' => ∃ g : Nat, e = .returned (.slice (some ⟨g, 0, none⟩) l.length l.length) ∧ Below w.heap.size w w' ∧ SR w.heap.size w' (.slice (some ⟨g, 0, none⟩) l.length l.length) l := by
  obtain ⟨hm, h⟩ := h
  have hmk := make_eq (P := Tryz.prog) 46 36 _ 3 24 Tryz.underlying46 Tryz.cellsStepM l.length (by omega) (by omega)
  go_enter Tryz.func20, Tryz.ntmps20
  go_wp2
  go_loopw [4] (fun i wr => ∃ k : Nat, k ≤ l.length ∧ i = .int .i64 k ∧ Below w.heap.size w wr ∧ Row wr w.heap.size 36 (l.length * 3) ∧ Hid (∀ i, i < k → StepAt wr w.heap.size (i * 3) (l.getD i dStep))) (fun i _ => l.length - (intOf i).toNat)
  case atStart => exact ⟨0, Nat.zero_le _, rfl, (Below.refl _ _).alloc (Nat.le_refl _) _, row_made _ _ _ _, fun i hi => absurd hi (Nat.not_lt_zero _)⟩
  case round =>
    rename World => wo
    obtain ⟨k, hk, rfl, hw, hrow, hl⟩ := hrel
    by_cases hlt : k < l.length
    · rcases h with h | ⟨b, o, rfl, hSb, h⟩
      · subst h; simp at hlt
      · have hq := h k hlt
        clear h
        obtain ⟨q, hqe⟩ : ∃ q, q = l.getD k dStep := ⟨_, rfl⟩
        rw [← hqe] at hq
        have HQ := hide hqe
        clear hqe
        obtain ⟨c0, c1, c2⟩ := hq
        rw [← hw.cell (p := ⟨b, _, none⟩) hSb] at c0 c1 c2
        have HW := hide hw
        have HR := hide hrow
        clear hw hrow
        go_wp2_with fail
        refine (toStep_any q _).mono ?_
        rintro e w1 ⟨rfl, hb⟩
        have hr1 : Row w1 w.heap.size 36 (l.length * 3) := (unhide HR).of_block (hb.block _ (unhide HR).lt)
        obtain ⟨y0, x0⟩ := hr1.cell (i := k * 3) (by omega)
        obtain ⟨y1, x1⟩ := hr1.cell (i := k * 3 + 1) (by omega)
        obtain ⟨y2, x2⟩ := hr1.cell (i := k * 3 + 2) (by omega)
        have f0 := hr1.frozen (k * 3)
        have f1 := hr1.frozen (k * 3 + 1)
        have f2 := hr1.frozen (k * 3 + 2)
        have HB := hide hb
        have HR1 := hide hr1
        clear hb hr1
        go_wp2_with fail
        go_roundw
        case rel =>
          exact ⟨k + 1, by omega, by go_num, below_sets w.heap.size (Nat.le_refl _) [.int .i64 q.kind, .int .i64 q.inn, .int .i64 q.out] (k * 3) w w1 ((unhide HW).trans ((unhide HB).mono (unhide HW).size)),
            Row.sets _ [.int .i64 q.kind, .int .i64 q.inn, .int .i64 q.out] (k * 3) w1 (unhide HR1), stepAt_step (unhide HR1) (by omega) (fun i hi => (hl.out i hi).stay ((unhide HB).block _ (unhide HR).lt)) (unhide HQ)⟩
        case measure => simp [intOf]; omega
    · go_wp2_with fail
      go_ret
      exact ⟨w.heap.size, rfl, hw, stepsRow (Nat.le_refl _) hrow (fun i hi => hl.out i (by omega)) hm⟩

set_option maxHeartbeats 1000000 in
theorem szStepS_any (a : Option Addr) (n cap : Nat) (left : Int) (w : World) (hn : n ≤ 9223372036854775807) (h0 : 0 ≤ left) (h1 : left ≤ 1048576) :
    Calls Tryz.prog 18 #[.slice a n cap, .int .i64 left] w fun e w' => (∃ r : Int, e = .returned (.int .i64 r) ∧ (r < 0 ∨ (0 ≤ r ∧ n ≤ 1048576))) ∧ Below w.heap.size w w' := by
  have hw : IntKind.i64.wrap (left - (n : Int)) = left - (n : Int) := by rw [IntKind.wrap_i64]; omega
  by_cases hneg : left - (n : Int) < 0
  · go_enter Tryz.func18, Tryz.ntmps18
    go_wp2_with fail
    go_ret
    exact ⟨⟨_, rfl, Or.inl (by omega)⟩, Below.refl _ _⟩
  · go_enter Tryz.func18, Tryz.ntmps18
    go_wp2_with fail
    go_ret
    exact ⟨⟨_, rfl, Or.inr ⟨by omega, by omega⟩⟩, Below.refl _ _⟩
end Go.Proofs.YthkhaemlcmkkjaxGreat
