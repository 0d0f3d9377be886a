/- The specification's drawn rows of requests, as slices of good blocks. Good blocks opened and written: one request, one row, one pack; the state of a drawing. -/
import Derived.Test.YthkhaemlcmkkjarGGood
namespace Go.Proofs.Ythkhaemlcmkkjar
set_option linter.unusedVariables false
set_option linter.unusedSimpArgs false
set_option maxRecDepth 10000
open Go.RowKit Go.Deep

/-- Where all below s is as it was the reader is. -/
theorem Rd.low {B s : Nat} {w w' : World} {rb : Nat} {m : Int} (h : Rd B w rb m) (hs : rb < s) (hz : w.heap.size ≤ w'.heap.size) (hb : ∀ b, b < s → w'.heap[b]? = w.heap[b]?) : Rd B w' rb m :=
  h.on hz (fun b hb' => hb b (by have := h.past; omega)) (hb rb hs)
end Go.Proofs.Ythkhaemlcmkkjar

namespace Go.Proofs.Ythkhaemlcmkkjar
set_option linter.unusedVariables false
set_option linter.unusedSimpArgs false
set_option maxRecDepth 10000
open Go.RowKit Go.Deep

theorem Wrote.own {B : Nat} {ts : TypeId → Prop} {a w w' : World} (h : Wrote B ts a w) (hb : Below a.heap.size w w') : Wrote B ts a w' :=
  ⟨hb.os.trans h.os, hb.tape.trans h.tape, hb.output.trans h.output, Nat.le_trans h.size hb.size, fun b hb' hc => (hb.block b hb').trans (h.block b hb' hc), fun b t n hr => (h.shape b t n hr).of_block (hb.block b hr.lt)⟩

end Go.Proofs.Ythkhaemlcmkkjar
