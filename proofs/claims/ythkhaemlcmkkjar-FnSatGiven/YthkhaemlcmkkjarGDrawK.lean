/- The specification's reader is opened. Slices of good blocks are plain data, laid in what is there. What the draws leave: smaller facts. The specification's drawn packs, one in some spoilt. A code that came in, opened. -/
import Derived.Test.YthkhaemlcmkkjarGDrawB
import Derived.Test.YthkhaemlcmkkjarGDrawE
import Derived.Laws.OwnMore
import Derived.Deep.CutBlock
import Derived.Test.YthkhaemlcmkkjarProg
import Derived.WalkKit
import Derived.ProofKit
import Derived.OpenShut
import Derived.ChangeOld
import Derived.Deep.Slices
namespace Go.Proofs.Ythkhaemlcmkkjar
set_option linter.unusedVariables false
set_option linter.unusedSimpArgs false
open Go.RowKit Go.Deep

theorem CodeAt.less {B : Nat} {w : World} {a : Option Addr} {n n' : Nat} (h : CodeAt B w a n) (hn : n' ≤ n) : CodeAt B w a n' := by
  rcases h with h | ⟨b, o, ha, h0, h1, h⟩
  · exact Or.inl (by omega)
  · exact Or.inr ⟨b, o, ha, h0, h1, fun i hi => h i (by omega)⟩
theorem Rd.made {w : World} {a : Option Addr} {n c : Nat} (h : CodeAt w.heap.size w a n) (hn : n ≤ 2000) : Rd w.heap.size (w.alloc (.cells #[.slice a n c, .int .i64 0] 103 (0, 0))) w.heap.size 0 :=
  ⟨Nat.le_refl _, a, n, c, 0, blk_alloc_new _ _, by omega, by omega, hn, h.on (by simp) (fun b hb => blk_alloc_lt _ _ _ hb)⟩

set_option maxHeartbeats 1000000 in
theorem l6Open_any (a : Option Addr) (n c : Nat) (w : World) (h : CodeAt w.heap.size w a n) (hn : n ≤ 1048576) (hc : n ≤ c) (hc2 : c ≤ maxLen) :
    Calls Try.prog 19 #[.slice a n c] w fun e w' => e = .returned (.pointer (some ⟨w.heap.size, 0, none⟩)) ∧ Rd w.heap.size w' w.heap.size 0 ∧ Below w.heap.size w w' := by
  unfold maxLen at hc2
  by_cases hb : 2000 < n
  · have hb' : (2000 : Int) < (n : Int) := by omega
    obtain ⟨b, o, rfl, hr⟩ := h.resolve_left (by omega)
    have HC := hide (show CodeAt w.heap.size w (some ⟨b, o, none⟩) 2000 from (CodeAt.less (Or.inr ⟨b, o, rfl, hr⟩) (by omega)))
    clear hr
    go_enter Try.func19, Try.ntmps19
    go_wp2_with fail
    go_ret
    exact ⟨rfl, Rd.made (unhide HC) (by omega), (Below.refl _ _).alloc (Nat.le_refl _) _⟩
  · have hb' : ¬ (2000 : Int) < (n : Int) := by omega
    go_enter Try.func19, Try.ntmps19
    go_wp2_with fail
    go_ret
    exact ⟨rfl, Rd.made h (by omega), (Below.refl _ _).alloc (Nat.le_refl _) _⟩
end Go.Proofs.Ythkhaemlcmkkjar

namespace Go.Proofs.Ythkhaemlcmkkjar
set_option linter.unusedVariables false
set_option linter.unusedSimpArgs false
set_option maxRecDepth 10000
open Go.RowKit Go.Deep

end Go.Proofs.Ythkhaemlcmkkjar

namespace Go.Proofs.Ythkhaemlcmkkjar
set_option linter.unusedVariables false
set_option linter.unusedSimpArgs false
set_option maxRecDepth 10000
open Go.RowKit Go.Deep

theorem CodeAt.up {B B' : Nat} {w : World} {a : Option Addr} {n : Nat} (h : CodeAt B w a n) (hB : B ≤ B') : CodeAt B' w a n := by
  rcases h with h | ⟨b, o, ha, h0, h1, h⟩
  · exact Or.inl h
  · exact Or.inr ⟨b, o, ha, by omega, h1, h⟩
theorem CodeAt.below {B : Nat} {w w' : World} {a : Option Addr} {n : Nat} (h : CodeAt B w a n) (hb : Below w.heap.size w w') (hB : B ≤ w.heap.size) : CodeAt w'.heap.size w' a n :=
  (h.on hb.size fun b hb' => hb.block b (by omega)).up (Nat.le_trans hB hb.size)
theorem Wrote.bel {B B' : Nat} {ts : TypeId → Prop} {w w' : World} (h : Wrote B ts w w') (hB : B' ≤ B) (hw : B' ≤ w.heap.size) : Below B' w w' :=
  ⟨h.os, h.tape, h.output, h.size, fun b hb => h.block b (by omega) (Or.inl (by omega))⟩
end Go.Proofs.Ythkhaemlcmkkjar

namespace Go.Proofs.Ythkhaemlcmkkjar
set_option linter.unusedVariables false
set_option linter.unusedSimpArgs false
set_option maxRecDepth 10000
open Go.RowKit Go.Deep

end Go.Proofs.Ythkhaemlcmkkjar

namespace Go.Proofs.Ythkhaemlcmkkjar
set_option linter.unusedVariables false
set_option linter.unusedSimpArgs false
open Go.RowKit Go.Deep Go.ChangeShapes Go.WideShapes

theorem Try.cellsByte : Try.prog.cellsOf 5 = 1 := by kernel_rfl
section
variable {H : Type} {enc : TypeId × Value → H} {W : World} {base : Nat} {spare : Nat → Bool} {held : Bool}
theorem byte_wf {z : Int} (h : (Lit.int .u8 z).wf = true) : 0 ≤ z ∧ z ≤ 255 := by
  have e0 : IntKind.u8.min = 0 := by first | rfl | decide
  have e1 : IntKind.u8.max = 255 := by first | rfl | decide
  simp [Lit.wf] at h
  omega
theorem open_code {n : Nat} {v : Value} {x : DataW H × List MemPlace} (h : DataW.trod enc Try.prog W base spare held n 22 [v] = some x) : ∃ (a : Option Addr) (len cap : Nat), v = .slice a len cap ∧ len ≤ cap ∧ cap ≤ maxLen ∧ CodeAt W.heap.size W a len := by
  rcases open_slice Try.underlying22 h with ⟨hcs, _⟩ | ⟨a, len, cap, m, n', D, Pl, hcs, _, hl, hm, hmm, _, hel⟩
  · simp at hcs
    exact ⟨none, 0, 0, hcs, Nat.le_refl _, Nat.zero_le _, Or.inl rfl⟩
  · simp at hcs
    rw [Try.cellsByte] at hel
    refine ⟨some a, len, cap, hcs, hl, hm, ?_⟩
    by_cases h0 : len = 0
    · exact Or.inl h0
    · have hlm : len ≤ m := by rw [hmm]; split <;> omega
      obtain ⟨cs0, hc0, _⟩ := hel 0 (by omega)
      obtain ⟨_, hl0, hcell0⟩ := World.cells?_some hc0
      have h00 := hcell0 0 (by omega)
      rw [List.getElem?_eq_getElem (by omega)] at h00
      obtain ⟨b, o, sp⟩ := a
      have hs : sp = none := by simpa [Addr.add] using World.cell?_spot h00
      subst hs
      have hb := block_lt_of_cell h00
      simp [Addr.add] at hb
      refine Or.inr ⟨b, o, rfl, hb, hb, fun i hi => ?_⟩
      obtain ⟨cs, hc, ht⟩ := hel i (by omega)
      obtain ⟨z, he, _, hwf⟩ := DataW.trod_int Try.underlying5 ht
      subst he
      obtain ⟨_, _, hcell⟩ := World.cells?_some hc
      have := hcell 0 (by omega)
      rw [add_add, add_plain] at this
      exact ⟨z, by simpa using this, byte_wf hwf⟩
end
end Go.Proofs.Ythkhaemlcmkkjar
