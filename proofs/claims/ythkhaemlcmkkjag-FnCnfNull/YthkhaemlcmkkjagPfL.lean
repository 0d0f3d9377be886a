/- What the laws on refutations read: parts of rows; worlds that only grow. -/
import Derived.Test.YthkhaemlcmkkjagSpA
import Derived.Test.YthkhaemlcmkkjagGReg
import Derived.Test.YthkhaemlcmkkjagGGrow
import Derived.Maps.AppendAt
import Derived.Deep.QuietTactic
import Derived.BigQuiet
import Derived.Test.YthkhaemlcmkkjagSatD
import Derived.Test.YthkhaemlcmkkjagGFu
import Derived.Test.YthkhaemlcmkkjagGFo
import Derived.Test.YthkhaemlcmkkjagGUp
import Derived.Test.YthkhaemlcmkkjagSuG
import Derived.Test.YthkhaemlcmkkjagGSu
import Derived.Test.YthkhaemlcmkkjagGStA
import Derived.Test.YthkhaemlcmkkjagGStO
import Derived.Test.YthkhaemlcmkkjagGImpl
namespace Go.Proofs.Ythkhaemlcmkkjag
set_option linter.unusedVariables false
set_option linter.unusedSimpArgs false
open Go.RowKit Go.Deep

/-- Worlds behind W that leave all of it. -/
structure CG (W : World) (b : Bool) (us : List Value) (x : World) : Prop where
  below : Below W.heap.size W x
theorem CG.on {W x y : World} {b b' : Bool} {us us' : List Value} (h : CG W b us x) (hb : Below x.heap.size x y) : CG W b' us' y := ⟨h.below.trans (hb.mono h.below.size)⟩
/-- A row of some rows. -/
theorem ClsAt.cellAt {w : World} {a : Option Addr} {cs : List (List Int)} (h : ClsAt w a cs) {i : Nat} (hi : i < cs.length) : ∃ b o a' c, a = some ⟨b, o, none⟩ ∧ w.cell? ⟨b, o + i, none⟩ = some (.slice a' (cs.getD i []).length c) ∧ SetAt w a' (cs.getD i []) := by
  rcases h.2 with h0 | ⟨b, o, e, h1, h2⟩
  · subst h0; simp at hi
  · obtain ⟨a', c, h3, h4⟩ := h2 i hi
    exact ⟨b, o, a', c, e, h3, h4⟩
end Go.Proofs.Ythkhaemlcmkkjag
