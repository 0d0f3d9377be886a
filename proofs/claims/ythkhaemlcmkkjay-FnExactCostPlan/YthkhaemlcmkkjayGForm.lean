/- Health of a state, by bits. The program's states in form. The program's StateSize and StateOk. -/
import Derived.Test.YthkhaemlcmkkjayGStO
import Derived.Test.YthkhaemlcmkkjayGImpl
import Derived.Test.YthkhaemlcmkkjayGReg
import Derived.Test.YthkhaemlcmkkjayGSpec
import Derived.Test.YthkhaemlcmkkjayGBase
import Derived.Deep.QuietTactic
import Derived.BigQuiet
namespace Go.Proofs.Ythkhaemlcmkkjay
set_option linter.unusedVariables false
set_option linter.unusedSimpArgs false
open Go.RowKit Go.Deep

/-- What packs that are ok have. -/
structure OkL (l : List PackD) : Prop where
  l8 : l.length ≤ 8
  size : ∀ q, q < l.length → 0 ≤ (l.getD q dPack).size ∧ (l.getD q dPack).size ≤ 999
  ver : ∀ q, q < l.length → inB (l.getD q dPack).ver 0 99 = true
  reqs : ∀ q, q < l.length → (l.getD q dPack).deps.length ≤ 4 ∧ (l.getD q dPack).pres.length ≤ 4
theorem OkL.of {l : List PackD} {room : Int} (h : repoB ⟨l, room⟩ = true) : OkL l := by
  simp only [repoB, Bool.and_eq_true, decide_eq_true_eq] at h
  obtain ⟨⟨⟨h1, h2⟩, h3⟩, h4⟩ := h
  have hp : ∀ q, q < l.length → packB (l.getD q dPack) = true := fun q hq => List.all_eq_true.1 h3 _ (getD_mem hq)
  refine ⟨h1, fun q hq => ?_, fun q hq => ?_, fun q hq => ?_⟩
  · have := hp q hq
    simp only [packB, inB, reqsB, Bool.and_eq_true, decide_eq_true_eq] at this
    omega
  · have := hp q hq
    simp only [packB, Bool.and_eq_true] at this
    exact this.1.1.1.1.1.2
  · have := hp q hq
    simp only [packB, reqsB, Bool.and_eq_true, decide_eq_true_eq] at this
    exact ⟨this.1.1.1.2, this.1.2.1⟩
/-- The room of a state, by bits. -/
def bitSize (l : List PackD) (s : Nat) : Int := sumP l (placesTo s 8) (placesTo s 8).length
end Go.Proofs.Ythkhaemlcmkkjay

namespace Go.Proofs.Ythkhaemlcmkkjay
set_option linter.unusedVariables false
set_option linter.unusedSimpArgs false
open Go.RowKit Go.Deep

/-- A variable ahead of the asks is written: they stay. -/
theorem AsksAt.var {l : List PackD} {v : Value} {x y : World} {rb B : Nat} (h : AsksAt x v l) (hf : AsksFrom B v l) (hg : x.grownBy y (some rb)) (hr : rb < B) : AsksAt y v l := by
  refine ⟨h.1, fun hn => ?_⟩
  obtain ⟨ag, ac, C, e1, e2, e3, e4⟩ := h.2 hn
  have hlt := hf hn ag ac e1
  exact ⟨ag, ac, C, e1, (hg.block ag (Array.getElem?_eq_some_iff.1 e2).1 (by simp; omega)).trans e2, e3, fun j hj => (e4 j hj).far hg (by omega)⟩

end Go.Proofs.Ythkhaemlcmkkjay

namespace Go.Proofs.Ythkhaemlcmkkjay
set_option linter.unusedVariables false
set_option linter.unusedSimpArgs false
open Go.RowKit Go.Deep

end Go.Proofs.Ythkhaemlcmkkjay
