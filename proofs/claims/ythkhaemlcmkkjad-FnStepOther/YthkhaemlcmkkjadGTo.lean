/- The law's own copies: requests and rows of such, laid anew. The law's own copies: rows, packs, all packs, laid anew. The law's own copies: all packs, laid anew. -/
import Derived.Test.YthkhaemlcmkkjadGBase
import Derived.Deep.OwnRows
import Derived.Deep.MidRow
import Derived.Laws.IdiomCopy
namespace Go.Proofs.Ythkhaemlcmkkjad
set_option linter.unusedVariables false
set_option linter.unusedSimpArgs false
open Go.RowKit Go.Deep

end Go.Proofs.Ythkhaemlcmkkjad

namespace Go.Proofs.Ythkhaemlcmkkjad
set_option linter.unusedVariables false
set_option linter.unusedSimpArgs false
open Go.RowKit Go.Deep

/-- The blocks of a kind behind a block that may be written. -/
def Above (H : Nat) (w : World) : Nat → Nat → Prop := fun k b => H < b ∧ CellsOf w b (kindTy k)

theorem Above.on {H k : Nat} {w w' : World} (hb : Below w.heap.size w w') {b : Nat} (h : Above H w k b) : Above H w' k b :=
  ⟨h.1, h.2.of_block (hb.block b h.2.lt)⟩
theorem Above.new {w w' : World} {b k : Nat} (h : Above w.heap.size w' k b) : New w w' k b := ⟨Nat.le_of_lt h.1, h.2⟩
theorem Above.set {H k c : Nat} {w : World} {b : Nat} (v : Value) (h : Above H w c b) : Above H (w.setCell ⟨H, k, none⟩ v) c b := ⟨h.1, h.2.of_block (blk_setCell_other _ _ _ _ (by have := h.1; show b ≠ H; omega))⟩
theorem PackCells.range {w : World} {b o : Nat} {p : PackD} {a1 : Option Addr} {c1 : Nat} {a2 : Option Addr} {c2 : Nat} {a3 : Option Addr} {c3 : Nat} (h : PackCells w b o p a1 c1 a2 c2 a3 c3) : w.rangeAt b o [.string p.name, .int .i64 p.ver, .int .i64 p.size, .slice a1 p.deps.length c1, .slice a2 p.pres.length c2, .slice a3 p.bans.length c3] := fun j v hv => by
  match j, hv with
  | 0, hv => simp at hv; subst hv; exact h.name
  | 1, hv => simp at hv; subst hv; exact h.ver
  | 2, hv => simp at hv; subst hv; exact h.size
  | 3, hv => simp at hv; subst hv; exact h.deps
  | 4, hv => simp at hv; subst hv; exact h.pres
  | 5, hv => simp at hv; subst hv; exact h.bans
theorem PackAt.on {w w' : World} {H i : Nat} {p : PackD} (h : PackAt (Above H w) w H i p) (hH : H < w.heap.size) (hb : Below w.heap.size w w') : PackAt (Above H w') w' H i p := by
  obtain ⟨a1, c1, a2, c2, a3, c3, h1, h2⟩ := h
  exact ⟨a1, c1, a2, c2, a3, c3, h1.stay (hb.block _ hH), (h2.stay (fun _ b hb' => hb.block b hb'.2.lt)).wider (fun _ b hb' => hb'.on hb)⟩

end Go.Proofs.Ythkhaemlcmkkjad

namespace Go.Proofs.Ythkhaemlcmkkjad
set_option linter.unusedVariables false
set_option linter.unusedSimpArgs false
open Go.RowKit Go.Deep

end Go.Proofs.Ythkhaemlcmkkjad
