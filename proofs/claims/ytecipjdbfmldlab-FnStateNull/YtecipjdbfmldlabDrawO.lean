/- The specification's reader is opened. -/
import Derived.Test.YtecipjdbfmldlabDrawA
namespace Go.Proofs.Ytecipjdbfmldlab
set_option linter.unusedVariables false
set_option linter.unusedSimpArgs false
open Go.RowKit Go.Deep

theorem CodeAt.less {B : Nat} {w : World} {a : Option Addr} {n n' : Nat} (h : CodeAt B w a n) (hn : n' ≤ n) : CodeAt B w a n' := by
  rcases h with h | ⟨b, o, ha, h0, h1, h⟩
  · exact Or.inl (by omega)
  · exact Or.inr ⟨b, o, ha, h0, h1, fun i hi => h i (by omega)⟩
theorem Rd.made {w : World} {a : Option Addr} {n c : Nat} (h : CodeAt w.heap.size w a n) (hn : n ≤ 2000) : Rd w.heap.size (w.alloc (.cells #[.slice a n c, .int .i64 0] 73 (0, 0))) w.heap.size 0 :=
  ⟨Nat.le_refl _, a, n, c, 0, blk_alloc_new _ _, by omega, by omega, hn, h.on (by simp) (fun b hb => blk_alloc_lt _ _ _ hb)⟩

set_option maxHeartbeats 1000000 in
theorem l6Open_any (a : Option Addr) (n c : Nat) (w : World) (h : CodeAt w.heap.size w a n) (hn : n ≤ 1048576) (hc : n ≤ c) (hc2 : c ≤ maxLen) :
    Calls Try.prog 22 #[.slice a n c] w fun e w' => e = .returned (.pointer (some ⟨w.heap.size, 0, none⟩)) ∧ Rd w.heap.size w' w.heap.size 0 ∧ Below w.heap.size w w' := by
  unfold maxLen at hc2
  by_cases hb : 2000 < n
  · have hb' : (2000 : Int) < (n : Int) := by omega
    obtain ⟨b, o, rfl, hr⟩ := h.resolve_left (by omega)
    have HC := hide (show CodeAt w.heap.size w (some ⟨b, o, none⟩) 2000 from (CodeAt.less (Or.inr ⟨b, o, rfl, hr⟩) (by omega)))
    clear hr
    go_enter Try.func22, Try.ntmps22
    go_wp2_with fail
    go_ret
    exact ⟨rfl, Rd.made (unhide HC) (by omega), (Below.refl _ _).alloc (Nat.le_refl _) _⟩
  · have hb' : ¬ (2000 : Int) < (n : Int) := by omega
    go_enter Try.func22, Try.ntmps22
    go_wp2_with fail
    go_ret
    exact ⟨rfl, Rd.made h (by omega), (Below.refl _ _).alloc (Nat.le_refl _) _⟩
end Go.Proofs.Ytecipjdbfmldlab
