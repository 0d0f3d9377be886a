/- The law's own marks: they write into what lies in the given blocks alone. -/
import Derived.Test.YthkhaemlcmkkjaxGreatGTo
import Derived.Test.YthkhaemlcmkkjaxGreatConv
namespace Go.Proofs.YthkhaemlcmkkjaxGreat
set_option linter.unusedVariables false
set_option linter.unusedSimpArgs false
open Go.RowKit Go.Deep

set_option maxHeartbeats 1000000 in
theorem markText_any (k : Int) (w : World) (h0 : 0 ≤ k) (h1 : k ≤ 4611686018427387904) :
    Calls Tryz.prog 66 #[.int .i64 k] w fun e w' => (∃ s : ByteArray, e = .returned (.string s)) ∧ Below w.heap.size w w' := by
  by_cases hk : k ≤ 0
  · go_enter Tryz.func66, Tryz.ntmps66
    go_wp2
    go_ret
    exact ⟨⟨_, rfl⟩, Below.refl _ _⟩
  · go_enter Tryz.func66, Tryz.ntmps66
    go_wp2
    go_loopw [0, 3] (fun z o wr => ∃ (y : Int) (s : ByteArray), z = .int .i64 y ∧ o = .string s ∧ 0 ≤ y ∧ (s.size : Int) + y ≤ 4611686018427387904 ∧ Below w.heap.size w wr) (fun z _ _ => (intOf z).toNat)
    case atStart => exact ⟨k, _, rfl, rfl, h0, by show (0 : Int) + k ≤ _; omega, Below.refl _ _⟩
    case round =>
      rename World => wo
      obtain ⟨y, s, rfl, rfl, hy0, hy1, hw⟩ := hrel
      by_cases hy : 0 < y
      · have hcv := fun (W : World) (hc : W.cell? ⟨wo.heap.size, 0, none⟩ = some (.int .u8 (48 + y % 10))) => conv_one (P := Tryz.prog) W 138 9 5 wo.heap.size (48 + y % 10) Tryz.underlying138 Tryz.underlying5 Tryz.underlying9 hc (by omega) (by omega)
        have hcv1 := hcv (wo.alloc (.cells #[.int .u8 (48 + y % 10)] 5)) (by simp)
        clear hcv
        go_wp2
        refine ⟨⟨y / 10, _, rfl, rfl, by omega, ?_, hw.alloc hw.size _⟩, by simp [intOf]; omega⟩
        rw [ByteArray.size_append]
        show ((1 + s.size : Nat) : Int) + y / 10 ≤ _
        omega
      · go_wp2
        go_ret
        exact ⟨⟨_, rfl⟩, hw⟩
end Go.Proofs.YthkhaemlcmkkjaxGreat
