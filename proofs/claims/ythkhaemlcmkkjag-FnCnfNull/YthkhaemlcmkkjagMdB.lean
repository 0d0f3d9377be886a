/- Models gone through by bits: their rows in memory. -/
import Derived.Test.YthkhaemlcmkkjagCoP
import Derived.Test.YthkhaemlcmkkjagGCn
import Derived.Test.YthkhaemlcmkkjagGStL
namespace Go.Proofs.Ythkhaemlcmkkjag
set_option linter.unusedVariables false
set_option linter.unusedSimpArgs false
open Go.RowKit Go.Deep

theorem Try.infoMd : (Try.prog.info? 4).map (fun i => (i.zero, i.size, i.bytes)) = some (some (.bool false), 1, 1) := by kernel_rfl
abbrev RowM (B : Nat) (w : World) (v : Value) (l : List Bool) : Prop := w.ownsRow B 4 1 v l.length (l.map fun i => .bool i)
theorem RowM.nil (w : World) : RowM w.heap.size (w.alloc (.cells #[] 4)) (.slice (some ⟨w.heap.size, 0, none⟩) 0 0) [] :=
  ⟨rfl, Or.inr ⟨w.heap.size, 0, #[], rfl, Nat.le_refl _, blk_alloc_new _ _, Nat.zero_le _, Nat.zero_le _, rfl, rfl⟩⟩
theorem RowM.at {B : Nat} {w : World} {v : Value} {l : List Bool} (h : RowM B w v l) (hl : l.length ≤ 1048576) : ∃ a cap, v = .slice a l.length cap ∧ BoolsAt w a l := by
  obtain ⟨h1, h2⟩ := h
  rcases h2 with ⟨hv, h0⟩ | ⟨g, cap, cur, hv, hB, hc, hcap, _, hsz, hx⟩
  · have : l = [] := List.length_eq_zero_iff.1 h0
    subst this
    exact ⟨none, 0, hv, by simp, Or.inl rfl⟩
  · refine ⟨some ⟨g, 0, none⟩, cap, hv, hl, Or.inr ⟨g, 0, rfl, (Array.getElem?_eq_some_iff.1 hc).1, fun i hi => ?_⟩⟩
    have e : cur.toList[i]? = some (.bool (l.getD i false)) := by
      have : (cur.toList.take (l.length * 1))[i]? = (l.map fun i => Value.bool i)[i]? := by rw [hx]
      rw [List.getElem?_take, if_pos (by omega)] at this
      rw [this]
      simp [List.getD, hi]
    simp only [World.cell?, hc, Nat.zero_add]
    simpa using e
end Go.Proofs.Ythkhaemlcmkkjag
