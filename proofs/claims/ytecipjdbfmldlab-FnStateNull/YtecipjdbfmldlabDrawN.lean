/- What the draws leave: smaller facts. -/
import Derived.Test.YtecipjdbfmldlabDrawJ
import Derived.Test.YtecipjdbfmldlabDrawO
import Derived.Test.YtecipjdbfmldlabPick
namespace Go.Proofs.Ytecipjdbfmldlab
set_option linter.unusedVariables false
set_option linter.unusedSimpArgs false
set_option maxRecDepth 10000
open Go.RowKit Go.Deep

theorem V2.down {s s' N : Nat} {x : World} {v : Value} (h : V2 s x N v) (hs : s' ≤ s) : V2 s' x N v := h.lower hs fun _ _ => rfl
theorem CodeAt.up {B B' : Nat} {w : World} {a : Option Addr} {n : Nat} (h : CodeAt B w a n) (hB : B ≤ B') : CodeAt B' w a n := by
  rcases h with h | ⟨b, o, ha, h0, h1, h⟩
  · exact Or.inl h
  · exact Or.inr ⟨b, o, ha, by omega, h1, h⟩
theorem CodeAt.below {B : Nat} {w w' : World} {a : Option Addr} {n : Nat} (h : CodeAt B w a n) (hb : Below w.heap.size w w') (hB : B ≤ w.heap.size) : CodeAt w'.heap.size w' a n :=
  (h.on hb.size fun b hb' => hb.block b (by omega)).up (Nat.le_trans hB hb.size)
theorem Wrote.bel {B B' : Nat} {ts : TypeId → Prop} {w w' : World} (h : Wrote B ts w w') (hB : B' ≤ B) (hw : B' ≤ w.heap.size) : Below B' w w' :=
  ⟨h.os, h.tape, h.output, h.size, fun b hb => h.block b (by omega) (Or.inl (by omega))⟩
theorem Ev.bel {B B' s N N' : Nat} {w w' : World} (h : Ev B s N N' w w') (hB : B' ≤ B) (hs : B' ≤ s) (hw : B' ≤ w.heap.size) : Below B' w w' :=
  ⟨h.os, h.tape, h.output, h.size, fun b hb => h.old b (by omega) (by omega) (Or.inl (by omega))⟩

theorem fin_own {s rs N : Nat} {w x : World} {v u0 u1 : Value} {room : Int} (hres : x.heap[rs]? = some (.cells #[u0, u1] 25 (0, 0))) (hv : V2 s x N v) (hW : Below w.heap.size w x) (h2 : w.heap.size ≤ rs) :
    let y := (x.setCell ⟨rs, 0, none⟩ v).setCell ⟨rs, 1, none⟩ (.int .i64 room)
    V2 s y N v ∧ Below w.heap.size w y ∧ y.cell? ⟨rs, 0, none⟩ = some v ∧ y.cell? ⟨rs, 1, none⟩ = some (.int .i64 room) := by
  intro y
  have h1 := blk_set hres 0 v
  have hy : y.heap[rs]? = some (repoCells v room) := by
    show ((x.setCell ⟨rs, 0, none⟩ v).setCell ⟨rs, 1, none⟩ (.int .i64 room)).heap[rs]? = _
    rw [blk_set h1 1 _]; rfl
  obtain ⟨c0, c1, _⟩ := two hy
  refine ⟨(hv.apart ⟨_, hres⟩).apart ⟨_, h1⟩, ?_, c0, c1⟩
  refine Below.setCell (Below.setCell hW ?_ _) ?_ _
  · exact h2
  · exact h2
end Go.Proofs.Ytecipjdbfmldlab
