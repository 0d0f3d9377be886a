/- Blocks from block s on whose cells are of their kind: requests, rows of such, packs; and how memory goes on. The specification's drawn rows of requests. Append onto slices of good blocks. -/
import Derived.Test.YthkhaemlcmkkjarGDrawB
import Derived.OwnWalk
import Derived.Test.YthkhaemlcmkkjarGGrow
namespace Go.Proofs.Ythkhaemlcmkkjar
set_option linter.unusedVariables false
set_option linter.unusedSimpArgs false
set_option maxRecDepth 10000
open Go.RowKit Go.Deep

end Go.Proofs.Ythkhaemlcmkkjar

namespace Go.Proofs.Ythkhaemlcmkkjar
set_option linter.unusedVariables false
set_option linter.unusedSimpArgs false
set_option maxRecDepth 10000
open Go.RowKit Go.Deep

theorem Wrote.grown {B : Nat} {ts : TypeId → Prop} {a w w' : World} {row : Option Nat} (h : Wrote B ts a w) (hg : w.grownBy w' row) (hrow : ∀ k, row = some k → a.heap.size ≤ k) : Wrote B ts a w' := by
  have e : ∀ b, b < a.heap.size → w'.heap[b]? = w.heap[b]? := fun b hb => hg.block b (Nat.lt_of_lt_of_le hb h.size) (fun x => by have := hrow b x.symm; omega)
  exact ⟨hg.os.trans h.os, hg.tape.trans h.tape, hg.output.trans h.output, Nat.le_trans h.size hg.size, fun b hb hc => (e b hb).trans (h.block b hb hc), fun b t n hr => (h.shape b t n hr).of_block (e b hr.lt)⟩
theorem Rd.grown {B : Nat} {w w' : World} {rb : Nat} {m : Int} {row : Option Nat} (h : Rd B w rb m) (hg : w.grownBy w' row) (hrow : ∀ k, row = some k → rb < k) : Rd B w' rb m := by
  have e : ∀ b, b ≤ rb → w'.heap[b]? = w.heap[b]? := fun b hb => hg.block b (Nat.lt_of_le_of_lt hb h.lt) (fun x => by have := hrow b x.symm; omega)
  exact h.on hg.size (fun b hb => e b (by have := h.past; omega)) (e rb (Nat.le_refl _))
/-- A slice of the call's own stays where the reader alone is written. -/
theorem owns_wrote {B base : Nat} {x y : World} {e : TypeId} {size : Nat} {v : Value} {n : Nat} {xs : List Value} (h : x.ownsRow base e size v n xs) (hw : Wrote B isRd x y) (he : e ≠ 103) : y.ownsRow base e size v n xs := by
  refine ⟨h.1, ?_⟩
  rcases h.2 with hn | ⟨g, cap, cur, hv, hb, hg, rest⟩
  · exact .inl hn
  · exact .inr ⟨g, cap, cur, hv, hb, hw.blk hg he, rest⟩

end Go.Proofs.Ythkhaemlcmkkjar

namespace Go.Proofs.Ythkhaemlcmkkjar
set_option linter.unusedVariables false
set_option linter.unusedSimpArgs false
set_option maxRecDepth 10000
open Go.RowKit Go.Deep

end Go.Proofs.Ythkhaemlcmkkjar
