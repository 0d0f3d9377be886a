/- States: the specification's form and size of some packs. The specification's StateSize. -/
import Derived.Test.YthkhaemlcmkkjarGSpec
import Derived.Test.YthkhaemlcmkkjarGBase
import Derived.Deep.QuietTactic
import Derived.BigQuiet
namespace Go.Proofs.Ythkhaemlcmkkjar
set_option linter.unusedVariables false
set_option linter.unusedSimpArgs false
open Go.RowKit Go.Deep

/-- Numbers that lie in memory, read alone. -/
def SetAt (w : World) (a : Option Addr) (l : List Int) : Prop := l.length ≤ 1048576 ∧ (l = [] ∨ ∃ b o, a = some ⟨b, o, none⟩ ∧ b < w.heap.size ∧ ∀ i, i < l.length → w.cell? ⟨b, o + i, none⟩ = some (.int .i64 (l.getD i 0)))
theorem SetAt.on {w w' : World} {a : Option Addr} {l : List Int} (h : SetAt w a l) (hb : Below w.heap.size w w') : SetAt w' a l := by
  obtain ⟨hl, h⟩ := h
  refine ⟨hl, h.imp id fun ⟨b, o, ha, hlt, hc⟩ => ⟨b, o, ha, Nat.lt_of_lt_of_le hlt hb.size, fun i hi => ?_⟩⟩
  rw [World.cell?_of_block (w := w) (a := ⟨b, o + i, none⟩) (hb.block b hlt)]
  exact hc i hi
end Go.Proofs.Ythkhaemlcmkkjar

namespace Go.Proofs.Ythkhaemlcmkkjar
set_option linter.unusedVariables false
set_option linter.unusedSimpArgs false
open Go.RowKit Go.Deep

end Go.Proofs.Ythkhaemlcmkkjar
