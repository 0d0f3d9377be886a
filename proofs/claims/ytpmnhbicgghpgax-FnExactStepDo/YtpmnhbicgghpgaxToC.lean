/- The law's own copies: all packs, laid anew. -/
import Derived.Test.YtpmnhbicgghpgaxToB
namespace Go.Proofs.Ytpmnhbicgghpgax
set_option linter.unusedVariables false
set_option linter.unusedSimpArgs false
open Go.RowKit Go.Deep

structure SmallPacks (l : List PackD) : Prop where
  len : l.length ≤ 1048576
  each : ∀ i, i < l.length → SmallPack (l.getD i dPack)

set_option maxHeartbeats 1000000 in
theorem toPackS_any (a : Option Addr) (l : List PackD) (cap : Nat) (w : World) (h : PacksAt (Old w) w a l) (hsm : SmallPacks l) :
    Calls Try.prog 26 #[.slice a l.length cap] w fun e w' => ∃ g : Nat, e = .returned (.slice (some ⟨g, 0, none⟩) l.length l.length) ∧ Below w.heap.size w w' ∧ PacksAt (New w w') w' (some ⟨g, 0, none⟩) l := by
  obtain ⟨hm, h⟩ := h
  unfold maxLen at hm
  have hsl := hsm.len
  have hmk := make_eq (P := Try.prog) 28 55 _ 6 104 Try.underlying28 Try.cellsPack l.length (by omega) (by omega)
  have HS := hide hsm
  clear hsm
  go_enter Try.func26, Try.ntmps26
  go_wp2
  go_loopw [4] (fun i wr => ∃ k : Nat, k ≤ l.length ∧ i = .int .i64 k ∧ Below w.heap.size w wr ∧ Row wr w.heap.size 55 (l.length * 6) ∧ Hid (∀ i, i < k → PackAt (Above w.heap.size wr) wr w.heap.size (i * 6) (l.getD i dPack))) (fun i _ => l.length - (intOf i).toNat)
  case atStart => exact ⟨0, Nat.zero_le _, rfl, (Below.refl _ _).alloc (Nat.le_refl _) _, row_made _ _ _ _, fun i hi => absurd hi (Nat.not_lt_zero _)⟩
  case round =>
    rename World => wo
    obtain ⟨k, hk, rfl, hw, hrow, hl⟩ := hrel
    by_cases hlt : k < l.length
    · rcases h with h | ⟨b, o, rfl, hSb, h⟩
      · subst h; simp at hlt
      · have hq := h k hlt
        have hs' := (unhide HS).each k hlt
        clear h
        obtain ⟨q, hqe⟩ : ∃ q, q = l.getD k dPack := ⟨_, rfl⟩
        rw [← hqe] at hq hs'
        have HQ := hide hqe
        clear hqe
        obtain ⟨a1, c1, a2, c2, a3, c3, ⟨p0, p1, p2, p3, p4, p5⟩, hv⟩ := hq
        rw [← hw.cell (p := ⟨b, _, none⟩) hSb] at p0 p1 p2 p3 p4 p5
        have HC := hide (toPack_any q a1 c1 a2 c2 a3 c3 wo (hv.on hw) hs')
        have HW := hide hw
        have HR := hide hrow
        clear hw hrow hv hs'
        go_wp2_with fail
        refine (unhide HC).mono ?_
        rintro e w1 ⟨g1, g2, g3, rfl, hb, hnew⟩
        have hr1 : Row w1 w.heap.size 55 (l.length * 6) := (unhide HR).of_block (hb.block _ (unhide HR).lt)
        obtain ⟨y0, x0⟩ := hr1.cell (i := k * 6) (by omega)
        obtain ⟨y1, x1⟩ := hr1.cell (i := k * 6 + 1) (by omega)
        obtain ⟨y2, x2⟩ := hr1.cell (i := k * 6 + 2) (by omega)
        obtain ⟨y3, x3⟩ := hr1.cell (i := k * 6 + 3) (by omega)
        obtain ⟨y4, x4⟩ := hr1.cell (i := k * 6 + 4) (by omega)
        obtain ⟨y5, x5⟩ := hr1.cell (i := k * 6 + 5) (by omega)
        have f0 := hr1.frozen
        have HB := hide hb
        have HR1 := hide hr1
        have HN := hide hnew
        clear hb hr1 hnew
        go_wp2_with fail
        go_roundw
        case rel =>
          exact ⟨k + 1, by omega, by go_num, below_sets w.heap.size (Nat.le_refl _) [.string q.name, .int .i64 q.ver, .int .i64 q.size, .slice (some ⟨g1, 0, none⟩) q.deps.length q.deps.length, .slice (some ⟨g2, 0, none⟩) q.pres.length q.pres.length, .slice (some ⟨g3, 0, none⟩) q.bans.length q.bans.length] (k * 6) w w1 ((unhide HW).trans ((unhide HB).mono (unhide HW).size)),
            Row.sets _ [.string q.name, .int .i64 q.ver, .int .i64 q.size, .slice (some ⟨g1, 0, none⟩) q.deps.length q.deps.length, .slice (some ⟨g2, 0, none⟩) q.pres.length q.pres.length, .slice (some ⟨g3, 0, none⟩) q.bans.length q.bans.length] (k * 6) w1 (unhide HR1),
            packs_step (unhide HR1) (by omega) (fun i hi => (hl.out i hi).on (unhide HR).lt (unhide HB)) (unhide HQ) ((unhide HN).wider (fun _ b hb => hb.above (unhide HR).lt))⟩
        case measure => simp [intOf]; omega
    · go_wp2_with fail
      go_ret
      refine ⟨w.heap.size, rfl, hw, hm, Or.inr ⟨w.heap.size, 0, rfl, ⟨Nat.le_refl _, hrow.cells⟩, fun i hi => ?_⟩⟩
      rw [Nat.zero_add]
      exact (hl.out i (by omega)).wider (fun _ b hb => hb.new)

set_option maxHeartbeats 1000000 in
theorem toRepo_any (a : Option Addr) (l : List PackD) (cap : Nat) (room : Int) (w : World) (h : PacksAt (Old w) w a l) (hsm : SmallPacks l) :
    Calls Try.prog 8 #[.agg #[.slice a l.length cap, .int .i64 room]] w fun e w' => ∃ g : Nat, e = .returned (.agg #[.slice (some ⟨g, 0, none⟩) l.length l.length, .int .i64 room]) ∧ Below w.heap.size w w' ∧ PacksAt (New w w') w' (some ⟨g, 0, none⟩) l := by
  have HV := hide h
  clear h
  go_enter Try.func8, Try.ntmps8
  go_wp2_with fail
  have e0 : Below w.heap.size w (((w.alloc (.cells #[.slice a l.length cap, .int .i64 room] 24 (0, 0))).alloc (.cells #[.slice none 0 0, .int .i64 0] 30 (0, 0))).alloc (.cells #[.slice none 0 0, .int .i64 0] 30 (0, 0))) :=
    (((Below.refl _ _).alloc (Nat.le_refl _) _).alloc (by simp) _).alloc (by simp; omega) _
  refine (toPackS_any a l cap _ ((unhide HV).on e0) hsm).mono ?_
  rintro e w1 ⟨g, rfl, hb, hn⟩
  have bA : w1.heap[w.heap.size]? = some (.cells #[.slice a l.length cap, .int .i64 room] 24 (0, 0)) := (hb.block _ (by simp; omega)).trans (three_alloc _ _ _ _).1
  have bR : w1.heap[w.heap.size + 1]? = some (.cells #[.slice none 0 0, .int .i64 0] 30 (0, 0)) := (hb.block _ (by simp)).trans (three_alloc _ _ _ _).2.1
  have bO : w1.heap[w.heap.size + 1 + 1]? = some (.cells #[.slice none 0 0, .int .i64 0] 30 (0, 0)) := (hb.block _ (by simp)).trans (three_alloc _ _ _ _).2.2
  have hz := hb.size
  simp at hz
  have hb1 := e0.trans (hb.mono (by simp; omega))
  have HB := hide hb1
  have HN := hide (hn.wider (T := Above (w.heap.size + 1 + 1) w1) (fun _ b hb' => ⟨by have := hb'.1; simp at this; omega, hb'.2⟩))
  clear hb hb1 e0 hn
  obtain ⟨A0, A1, fA⟩ := two bA
  obtain ⟨O0, O1, fO⟩ := two bO
  obtain ⟨R0, R1, fR⟩ := two bR
  clear bA bR bO
  go_wp2_with fail
  refine bodyPost_ret (v := .agg #[.slice (some ⟨g, 0, none⟩) l.length l.length, .int .i64 room]) (by simp [results, Try.results8, go_sem, R0, R1]) rfl ⟨g, rfl, ?_, ?_⟩
  · exact below_sets (w.heap.size + 1) (by omega) [.slice (some ⟨g, 0, none⟩) l.length l.length, .int .i64 room] 0 w _ (below_sets (w.heap.size + 1 + 1) (by omega) [.slice (some ⟨g, 0, none⟩) l.length l.length, .int .i64 room] 0 w _ (unhide HB))
  · show PacksAt (New w ((w1.setCells (w.heap.size + 1 + 1) 0 [.slice (some ⟨g, 0, none⟩) l.length l.length, .int .i64 room]).setCells (w.heap.size + 1) 0 [.slice (some ⟨g, 0, none⟩) l.length l.length, .int .i64 room])) ((w1.setCells (w.heap.size + 1 + 1) 0 [.slice (some ⟨g, 0, none⟩) l.length l.length, .int .i64 room]).setCells (w.heap.size + 1) 0 [.slice (some ⟨g, 0, none⟩) l.length l.length, .int .i64 room]) _ l
    have hbl : ∀ k b, Above (w.heap.size + 1 + 1) w1 k b → ((w1.setCells (w.heap.size + 1 + 1) 0 [.slice (some ⟨g, 0, none⟩) l.length l.length, .int .i64 room]).setCells (w.heap.size + 1) 0 [.slice (some ⟨g, 0, none⟩) l.length l.length, .int .i64 room]).heap[b]? = w1.heap[b]? := fun _ b hb => (blk_sets _ _ _ _ _ (by have := hb.1; omega)).trans (blk_sets _ _ _ _ _ (by have := hb.1; omega))
    have hsz : ((w1.setCells (w.heap.size + 1 + 1) 0 [.slice (some ⟨g, 0, none⟩) l.length l.length, .int .i64 room]).setCells (w.heap.size + 1) 0 [.slice (some ⟨g, 0, none⟩) l.length l.length, .int .i64 room]).heap.size = w1.heap.size := (size_sets _ _ _ _).trans (size_sets _ _ _ _)
    exact ((unhide HN).stay hbl).wider (fun k b hb => ⟨by have := hb.1; omega, hb.2.of_block (hbl k b hb)⟩)
end Go.Proofs.Ytpmnhbicgghpgax
