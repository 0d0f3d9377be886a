/- DrawCoreCount: drawn clauses. -/
import Derived.Test.YthkhaemlcmkkjaqGDcn
import Derived.Test.YthkhaemlcmkkjaqSatL
import Derived.Test.YthkhaemlcmkkjaqCoE
namespace Go.Proofs.Ythkhaemlcmkkjaq
set_option linter.unusedVariables false
set_option linter.unusedSimpArgs false
open Go.RowKit Go.Deep

/-- What DrawCoreCount answers. -/
def DrawnCo (w' : World) (e : Ending) : Prop := ∃ (vars : Int) (va : Option Addr) (vc : Nat) (ls : List (List Int)), e = .returned (.agg #[.int .i64 vars, .slice va ls.length vc]) ∧ ClsAt w' va ls ∧ (ls = [] ∨ ∃ g, va = some ⟨g, 0, none⟩ ∧ ls.length ≤ vc ∧ vc ≤ maxLen) ∧ (va = none → vc = 0) ∧ ls.length ≤ 26

set_option maxRecDepth 100000 in
set_option maxHeartbeats 2000000 in
theorem DrawCoreCount_V (a : Option Addr) (n c : Nat) (w : World) (h : CodeAt w.heap.size w a n) (hn : n ≤ 1048576) (hc : n ≤ c) (hc2 : c ≤ maxLen) :
    Calls Try.prog 9 #[.slice a n c] w fun e w' => DrawnCo w' e ∧ Below w.heap.size w w' := by
  have b0 := (Below.refl w.heap.size w).alloc (Nat.le_refl _) (.cells #[.int .i64 0, .slice none 0 0] 25)
  have hcode := h.below b0 (Nat.le_refl _)
  have HF0 := hide (show (w.alloc (.cells #[.int .i64 0, .slice none 0 0] 25)).heap[w.heap.size]? = some (cnfCells 0 (.slice none 0 0)) from blk_alloc_new _ _)
  go_enter Try.func9, Try.ntmps9
  go_wp2_with fail
  refine (l6Open_any a n c _ hcode hn hc hc2).mono ?_
  rintro e w1 ⟨rfl, R1, b1⟩
  simp only [nblk_alloc] at R1 b1
  have hz1 := b1.size
  simp at hz1
  have res1 := (b1.block w.heap.size (by omega)).trans (unhide HF0)
  have B1 : Below w.heap.size w w1 := b0.trans (b1.mono (by omega))
  have hrl := R1.lt
  clear b0 b1 hcode HF0 h
  go_wp2_with fail
  refine (l71Cnf_V (w.heap.size + 1) (w.heap.size + 1) 0 _ R1 (by omega)).mono ?_
  rintro e w2 ⟨⟨vars, v, ls, vs, rfl, hL, hll, hsh⟩, R2, W2⟩
  obtain ⟨va, vc, hv⟩ := hL.slice
  subst hv
  have res2 := W2.blk res1 cnfNoRd
  have B2 := B1.trans (W2.bel (B' := w.heap.size) (by omega) (by omega))
  obtain ⟨r0, r1, rf⟩ := two res2
  have rf0 := rf 0
  have rf1 := rf 1
  have e1 := blk_set res2 0 (.int .i64 vars)
  have hy : ((w2.setCell ⟨w.heap.size, 0, none⟩ (.int .i64 vars)).setCell ⟨w.heap.size, 1, none⟩ (.slice va ls.length vc)).heap[w.heap.size]? = some (cnfCells vars (.slice va ls.length vc)) := by rw [blk_set e1 1 _]; rfl
  obtain ⟨q0, q1, _⟩ := two hy
  have hL2 := (hL.set2 (b := w.heap.size) (by omega) 0 (.int .i64 vars)).set2 (b := w.heap.size) (by omega) 1 (.slice va ls.length vc)
  have HB := hide (Below.setCell (Below.setCell B2 (Nat.le_refl _) (.int .i64 vars) (p := ⟨w.heap.size, 0, none⟩)) (Nat.le_refl _) (.slice va ls.length vc) (p := ⟨w.heap.size, 1, none⟩))
  have hcap : ls = [] ∨ ∃ g, va = some ⟨g, 0, none⟩ ∧ ls.length ≤ vc ∧ vc ≤ maxLen := by
    rcases hL.own.2 with ⟨h, h0⟩ | ⟨g, cap, cur, h, _, _, h1, h2, _⟩
    · exact .inl (List.length_eq_zero_iff.1 h0)
    · simp only [Value.slice.injEq, true_and] at h
      exact .inr ⟨g, h.1, by rw [h.2]; exact h1, by rw [h.2]; exact h2⟩
  have hvn : va = none → vc = 0 := fun e => by
    rcases hL.own.2 with ⟨h, _⟩ | ⟨g, cap, cur, h, _⟩
    · simp only [Value.slice.injEq] at h; exact h.2.2
    · simp only [Value.slice.injEq] at h; rw [h.1] at e; cases e
  obtain ⟨va', vc', hv', hcls⟩ := hL2.cls (by omega) hsh
  simp only [Value.slice.injEq, true_and] at hv'
  obtain ⟨rfl, rfl⟩ := hv'
  have HC := hide hcls
  have HCA := hide (And.intro hcap hvn)
  clear R1 W2 res1 B1 hL R2 res2 B2 rf e1 hy hL2 hsh hcls hcap hvn
  go_wp2_with fail
  exact bodyPost_ret (v := .agg #[.int .i64 vars, .slice va ls.length vc]) (by simp [results, Try.results9, go_sem, q0, q1]) rfl ⟨⟨vars, va, vc, ls, rfl, unhide HC, (unhide HCA).1, (unhide HCA).2, hll⟩, unhide HB⟩
end Go.Proofs.Ythkhaemlcmkkjaq
