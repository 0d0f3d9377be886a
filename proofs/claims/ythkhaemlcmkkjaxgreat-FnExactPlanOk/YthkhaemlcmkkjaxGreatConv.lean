/- A list of one byte as a text. -/
import Derived.Test.YthkhaemlcmkkjaxGreatProg
import Derived.WalkKit
namespace Go.Proofs.YthkhaemlcmkkjaxGreat
set_option linter.unusedVariables false
set_option linter.unusedSimpArgs false

/-- A list of one byte as a text. -/
theorem conv_one {P : Program} (w : World) (src dst e : TypeId) (g : Nat) (n : Int) (hs : P.underlying src = some (.slice e)) (he : P.underlying e = some (.int .u8)) (hd : P.underlying dst = some .string)
    (hc : w.cell? ⟨g, 0, none⟩ = some (.int .u8 n)) (h0 : 0 ≤ n) (h1 : n < 256) :
    (convert src dst (.slice (some ⟨g, 0, none⟩) 1 1)).run P w = .ok (.string ⟨#[n.toNat.toUInt8]⟩) w := by
  rw [run_convert_bytes_string w src dst e _ _ _ hs he hd]
  have h := run_bytesToString (P := P) w ⟨g, 0, none⟩ 1 1 [n] (by simp [loadCells, Sem.run, hc, Addr.add, go_sem])
  rw [h]
  rfl

end Go.Proofs.YthkhaemlcmkkjaxGreat
