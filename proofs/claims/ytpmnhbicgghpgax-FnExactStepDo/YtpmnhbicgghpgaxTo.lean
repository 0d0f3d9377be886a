/- The law's own copies: requests and rows of such, laid anew. -/
import Derived.Test.YtpmnhbicgghpgaxGBase
import Derived.Deep.OwnRows
import Derived.Deep.MidRow
import Derived.Laws.IdiomCopy
namespace Go.Proofs.Ytpmnhbicgghpgax
set_option linter.unusedVariables false
set_option linter.unusedSimpArgs false
open Go.RowKit Go.Deep

theorem Try.cellsReq : (Try.prog.info? 103).map (fun i => (i.zero, i.size, i.bytes)) = some (some (.agg #[.string ByteArray.empty, .int .i64 0, .int .i64 0]), 3, 32) := by kernel_rfl

set_option maxHeartbeats 400000 in
theorem toReq_any (q : ReqD) (w : World) :
    Calls Try.prog 94 #[.agg #[.string q.name, .int .i64 q.low, .int .i64 q.high]] w fun e w' => e = .returned (.agg #[.string q.name, .int .i64 q.low, .int .i64 q.high]) ∧ Below w.heap.size w w' := by
  go_enter Try.func94, Try.ntmps94
  go_wp2
  refine bodyPost_ret (v := .agg #[.string q.name, .int .i64 q.low, .int .i64 q.high]) (by simp [results, Try.results94, go_sem]) rfl ⟨rfl, ?_⟩
  exact (((Below.refl _ _).alloc (Nat.le_refl _) _).alloc (by simp) _).alloc (by simp; omega) _

/-- One request more is laid. -/
theorem reqs_step {w1 : World} {H n k : Nat} {t : TypeId} {l : List ReqD} {q : ReqD} (hr : Row w1 H t n) (hk : k * 3 + 3 ≤ n) (hl : ∀ i, i < k → ReqAt w1 H (i * 3) (l.getD i dReq)) (hq : q = l.getD k dReq) (hn : q.name.size ≤ maxLen) :
    ∀ i, i < k + 1 → ReqAt (w1.setCells H (k * 3) [.string q.name, .int .i64 q.low, .int .i64 q.high]) H (i * 3) (l.getD i dReq) := by
  intro i hi
  by_cases e : i = k
  · subst e
    rw [← hq]
    exact ReqAt.of_range (World.rangeAt_setCells_same w1 H (i * 3) _ (hr.there hk)) hn
  · have h := hl i (by omega)
    exact ReqAt.of_range (World.rangeAt_setCells_apart h.range H (k * 3) _ (Or.inr (Or.inl (by simp; omega)))) h.len

set_option maxHeartbeats 1000000 in
theorem toReqS_any (a : Option Addr) (l : List ReqD) (cap : Nat) (w : World) (h : ReqsAt (Old w) w a l) (hsm : l.length ≤ 1048576) :
    Calls Try.prog 76 #[.slice a l.length cap] w fun e w' => ∃ g : Nat, e = .returned (.slice (some ⟨g, 0, none⟩) l.length l.length) ∧ Below w.heap.size w w' ∧ ReqsAt (New w w') w' (some ⟨g, 0, none⟩) l := by
  obtain ⟨hm, h⟩ := h
  unfold maxLen at hm
  have hmk := make_eq (P := Try.prog) 53 103 _ 3 32 Try.underlying53 Try.cellsReq l.length (by omega) (by omega)
  go_enter Try.func76, Try.ntmps76
  go_wp2
  go_loopw [4] (fun i wr => ∃ k : Nat, k ≤ l.length ∧ i = .int .i64 k ∧ Below w.heap.size w wr ∧ Row wr w.heap.size 103 (l.length * 3) ∧ Hid (∀ i, i < k → ReqAt wr w.heap.size (i * 3) (l.getD i dReq))) (fun i _ => l.length - (intOf i).toNat)
  case atStart => exact ⟨0, Nat.zero_le _, rfl, (Below.refl _ _).alloc (Nat.le_refl _) _, row_made _ _ _ _, fun i hi => absurd hi (Nat.not_lt_zero _)⟩
  case round =>
    rename World => wo
    obtain ⟨k, hk, rfl, hw, hrow, hl⟩ := hrel
    by_cases hlt : k < l.length
    · rcases h with h | ⟨b, o, rfl, hSb, h⟩
      · subst h; simp at hlt
      · have hq := h k hlt
        clear h
        have hqk : Hid (l.getD k dReq = l.getD k dReq) := rfl
        obtain ⟨q, hqe⟩ : ∃ q, q = l.getD k dReq := ⟨_, rfl⟩
        rw [← hqe] at hq
        have HQ := hide hqe
        clear hqe hqk
        obtain ⟨c0, c1, c2, hn⟩ := hq
        rw [← hw.cell (p := ⟨b, _, none⟩) hSb] at c0 c1 c2
        have HW := hide hw
        have HR := hide hrow
        clear hw hrow
        go_wp2_with fail
        refine (toReq_any q _).mono ?_
        rintro e w1 ⟨rfl, hb⟩
        have hr1 : Row w1 w.heap.size 103 (l.length * 3) := (unhide HR).of_block (hb.block _ (unhide HR).lt)
        obtain ⟨y0, x0⟩ := hr1.cell (i := k * 3) (by omega)
        obtain ⟨y1, x1⟩ := hr1.cell (i := k * 3 + 1) (by omega)
        obtain ⟨y2, x2⟩ := hr1.cell (i := k * 3 + 2) (by omega)
        have f0 := hr1.frozen (k * 3)
        have f1 := hr1.frozen (k * 3 + 1)
        have f2 := hr1.frozen (k * 3 + 2)
        have HB := hide hb
        have HR1 := hide hr1
        clear hb hr1
        go_wp2_with fail
        go_roundw
        case rel =>
          exact ⟨k + 1, by omega, by go_num, below_sets w.heap.size (Nat.le_refl _) [.string q.name, .int .i64 q.low, .int .i64 q.high] (k * 3) w w1 ((unhide HW).trans ((unhide HB).mono (unhide HW).size)),
            Row.sets _ [.string q.name, .int .i64 q.low, .int .i64 q.high] (k * 3) w1 (unhide HR1), reqs_step (unhide HR1) (by omega) (fun i hi => (hl.out i hi).stay ((unhide HB).block _ (unhide HR).lt)) (unhide HQ) hn⟩
        case measure => simp [intOf]; omega
    · go_wp2_with fail
      go_ret
      refine ⟨w.heap.size, rfl, hw, hm, Or.inr ⟨w.heap.size, 0, rfl, ⟨Nat.le_refl _, hrow.cells⟩, fun i hi => ?_⟩⟩
      rw [Nat.zero_add]
      exact hl.out i (by omega)
end Go.Proofs.Ytpmnhbicgghpgax
