/- DrawStepAll: the drawn packs. -/
import Derived.Test.YtnegiggafgfmkacGDrawS
namespace Go.Proofs.Ytnegiggafgfmkac
set_option linter.unusedVariables false
set_option linter.unusedSimpArgs false
open Go.RowKit Go.Deep

set_option maxRecDepth 100000 in
set_option maxHeartbeats 8000000 in
theorem DrawStepAll_V (a : Option Addr) (n c : Nat) (w : World) (h : CodeAt w.heap.size w a n) (hn : n ≤ 1048576) (hc : n ≤ c) (hc2 : c ≤ maxLen) :
    Calls Try.prog 15 #[.slice a n c] w fun e w' => (∃ (v : Value) (room : Int), e = .returned (.agg #[v, .int .i64 room]) ∧ V2 w.heap.size w' 60000 v) ∧ Below w.heap.size w w' := by
  have b0 := (Below.refl w.heap.size w).alloc (Nat.le_refl _) (.cells #[.slice none 0 0, .int .i64 0] 25)
  have hcode := h.below b0 (Nat.le_refl _)
  have HF0 := hide (show (w.alloc (.cells #[.slice none 0 0, .int .i64 0] 25)).heap[w.heap.size]? = some (repoCells (.slice none 0 0) 0) from blk_alloc_new _ _)
  go_enter Try.func15, Try.ntmps15
  go_wp2_with fail
  refine (l6Open_any a n c _ hcode hn hc hc2).mono ?_
  rintro e w1 ⟨rfl, R1, b1⟩
  simp only [nblk_alloc] at R1 b1
  have hz1 := b1.size
  simp at hz1
  have res1 := (b1.block w.heap.size (by omega)).trans (unhide HF0)
  have B1 : Below w.heap.size w w1 := b0.trans (b1.mono (by omega))
  clear b0 b1 hcode HF0
  go_wp2_with fail
  refine (l71Any_V (w.heap.size + 1) (w.heap.size + 1) 0 6 _ R1 (by omega) (by omega)).mono ?_
  rintro e w2 ⟨⟨v, room, rfl, hV⟩, R2, W2⟩
  obtain ⟨va, vn, vc, rfl, _, hvN, _⟩ := SlBy.slice hV
  have hz2 := W2.size
  have res2 := W2.blk res1 repoNotRd
  have B2 := B1.trans (W2.bel (B' := w.heap.size) (by omega) (by omega))
  obtain ⟨r0, r1, rf⟩ := two res2
  have rf0 := rf 0
  have rf1 := rf 1
  have HFO := hide (fin_own (room := room) res2 hV B2 (Nat.le_refl _))
  clear rf R1 W2 res1 B1 hV R2 res2 B2
  go_wp2_with fail
  obtain ⟨f1, f2, f3, f4⟩ := unhide HFO
  exact bodyPost_ret (v := .agg #[.slice va vn vc, .int .i64 room]) (by simp [results, Try.results15, go_sem, f3, f4]) rfl ⟨⟨_, _, rfl, V2.down f1 (by omega)⟩, f2⟩
end Go.Proofs.Ytnegiggafgfmkac
