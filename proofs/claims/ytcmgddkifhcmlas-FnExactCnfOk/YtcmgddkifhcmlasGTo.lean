/- The law's own copies: requests and rows of such, laid anew. The law's own copies: rows, packs, all packs, laid anew. The law's own copies: all packs, laid anew. -/
import Derived.Test.YtcmgddkifhcmlasGBase
import Derived.Deep.OwnRows
import Derived.Deep.MidRow
import Derived.Laws.IdiomCopy
namespace Go.Proofs.Ytcmgddkifhcmlas
set_option linter.unusedVariables false
set_option linter.unusedSimpArgs false
open Go.RowKit Go.Deep

theorem Try.cellsReq : (Try.prog.info? 126).map (fun i => (i.zero, i.size, i.bytes)) = some (some (.agg #[.string ByteArray.empty, .int .i64 0, .int .i64 0]), 3, 32) := by kernel_rfl

/-- One request more is laid. -/
theorem reqs_step {w1 : World} {H n k : Nat} {t : TypeId} {l : List ReqD} {q : ReqD} (hr : Row w1 H t n) (hk : k * 3 + 3 ≤ n) (hl : ∀ i, i < k → ReqAt w1 H (i * 3) (l.getD i dReq)) (hq : q = l.getD k dReq) (hn : q.name.size ≤ maxLen) :
    ∀ i, i < k + 1 → ReqAt (w1.setCells H (k * 3) [.string q.name, .int .i64 q.low, .int .i64 q.high]) H (i * 3) (l.getD i dReq) := by
  intro i hi
  by_cases e : i = k
  · subst e
    rw [← hq]
    exact ReqAt.of_range (World.rangeAt_setCells_same w1 H (i * 3) _ (hr.there hk)) hn
  · have h := hl i (by omega)
    exact ReqAt.of_range (World.rangeAt_setCells_apart h.range H (k * 3) _ (Or.inr (Or.inl (by simp; omega)))) h.len

end Go.Proofs.Ytcmgddkifhcmlas

namespace Go.Proofs.Ytcmgddkifhcmlas
set_option linter.unusedVariables false
set_option linter.unusedSimpArgs false
open Go.RowKit Go.Deep

/-- The blocks of a kind behind a block that may be written. -/
def Above (H : Nat) (w : World) : Nat → Nat → Prop := fun k b => H < b ∧ CellsOf w b (kindTy k)

theorem Above.on {H k : Nat} {w w' : World} (hb : Below w.heap.size w w') {b : Nat} (h : Above H w k b) : Above H w' k b :=
  ⟨h.1, h.2.of_block (hb.block b h.2.lt)⟩
theorem New.above {H k : Nat} {w w' : World} (hH : H < w.heap.size) {b : Nat} (h : New w w' k b) : Above H w' k b := ⟨Nat.lt_of_lt_of_le hH h.1, h.2⟩
theorem Above.new {w w' : World} {b k : Nat} (h : Above w.heap.size w' k b) : New w w' k b := ⟨Nat.le_of_lt h.1, h.2⟩
theorem Above.set {H k c : Nat} {w : World} {b : Nat} (v : Value) (h : Above H w c b) : Above H (w.setCell ⟨H, k, none⟩ v) c b := ⟨h.1, h.2.of_block (blk_setCell_other _ _ _ _ (by have := h.1; show b ≠ H; omega))⟩
theorem Above.sets {H k c : Nat} {w : World} {b : Nat} (vs : List Value) (h : Above H w c b) : Above H (w.setCells H k vs) c b := ⟨h.1, h.2.of_block (blk_sets _ _ _ _ _ (by have := h.1; omega))⟩

theorem Try.cellsReqs : (Try.prog.info? 73).map (fun i => (i.zero, i.size, i.bytes)) = some (some (.slice none 0 0), 1, 24) := by kernel_rfl
theorem Try.cellsPack : (Try.prog.info? 75).map (fun i => (i.zero, i.size, i.bytes)) = some (some (.agg #[.string ByteArray.empty, .int .i64 0, .int .i64 0, .slice none 0 0, .slice none 0 0, .slice none 0 0]), 6, 104) := by kernel_rfl

def RowAt (S : Nat → Nat → Prop) (w : World) (H i : Nat) (r : List ReqD) : Prop := ∃ a' c, w.cell? ⟨H, i, none⟩ = some (.slice a' r.length c) ∧ ReqsAt S w a' r

theorem RowAt.on {w w' : World} {H i : Nat} {r : List ReqD} (h : RowAt (Above H w) w H i r) (hH : H < w.heap.size) (hb : Below w.heap.size w w') : RowAt (Above H w') w' H i r := by
  obtain ⟨a', c, h1, h2⟩ := h
  exact ⟨a', c, (hb.cell (p := ⟨H, i, none⟩) hH).trans h1, (h2.stay (fun _ b hb' => hb.block b hb'.2.lt)).wider (fun _ b hb' => hb'.on hb)⟩

/-- One row more is laid. -/
theorem rows_step {w1 : World} {H n k a' c : Nat} {t : TypeId} {l : List (List ReqD)} (hr : Row w1 H t n) (hk : k < n) (hl : ∀ i, i < k → RowAt (Above H w1) w1 H i (l.getD i []))
    (hq : ReqsAt (Above H w1) w1 (some ⟨a', 0, none⟩) (l.getD k [])) :
    ∀ i, i < k + 1 → RowAt (Above H (w1.setCell ⟨H, k, none⟩ (.slice (some ⟨a', 0, none⟩) (l.getD k []).length c))) (w1.setCell ⟨H, k, none⟩ (.slice (some ⟨a', 0, none⟩) (l.getD k []).length c)) H i (l.getD i []) := by
  intro i hi
  have hz : ∀ v, (w1.setCell ⟨H, k, none⟩ v).heap.size = w1.heap.size := fun v => nblk_setCell _ _ _
  have st : ∀ v a r, ReqsAt (Above H w1) w1 a r → ReqsAt (Above H (w1.setCell ⟨H, k, none⟩ v)) (w1.setCell ⟨H, k, none⟩ v) a r := fun v a r h =>
    (h.stay (fun _ b hb => blk_setCell_other _ _ _ _ (by have := hb.1; show b ≠ H; omega))).wider (fun _ b hb => hb.set _)
  by_cases e : i = k
  · subst e
    obtain ⟨v, hv⟩ := hr.cell hk
    exact ⟨_, c, World.cell?_setCell_same _ _ _ hv, st _ _ _ hq⟩
  · obtain ⟨b', d, h1, h2⟩ := hl i (by omega)
    exact ⟨b', d, (World.cell?_setCell_other _ _ _ _ (by intro h; apply e; simpa using h.symm)).trans h1, st _ _ _ h2⟩

structure SmallPack (p : PackD) : Prop where
  deps : p.deps.length ≤ 1048576
  rows : ∀ i, i < p.deps.length → (p.deps.getD i []).length ≤ 1048576
  pres : p.pres.length ≤ 1048576
  bans : p.bans.length ≤ 1048576

theorem PackCells.range {w : World} {b o : Nat} {p : PackD} {a1 : Option Addr} {c1 : Nat} {a2 : Option Addr} {c2 : Nat} {a3 : Option Addr} {c3 : Nat} (h : PackCells w b o p a1 c1 a2 c2 a3 c3) : w.rangeAt b o [.string p.name, .int .i64 p.ver, .int .i64 p.size, .slice a1 p.deps.length c1, .slice a2 p.pres.length c2, .slice a3 p.bans.length c3] := fun j v hv => by
  match j, hv with
  | 0, hv => simp at hv; subst hv; exact h.name
  | 1, hv => simp at hv; subst hv; exact h.ver
  | 2, hv => simp at hv; subst hv; exact h.size
  | 3, hv => simp at hv; subst hv; exact h.deps
  | 4, hv => simp at hv; subst hv; exact h.pres
  | 5, hv => simp at hv; subst hv; exact h.bans
theorem PackCells.of_range {w : World} {b o : Nat} {p : PackD} {a1 : Option Addr} {c1 : Nat} {a2 : Option Addr} {c2 : Nat} {a3 : Option Addr} {c3 : Nat} (h : w.rangeAt b o [.string p.name, .int .i64 p.ver, .int .i64 p.size, .slice a1 p.deps.length c1, .slice a2 p.pres.length c2, .slice a3 p.bans.length c3]) : PackCells w b o p a1 c1 a2 c2 a3 c3 :=
  ⟨h 0 _ rfl, h 1 _ rfl, h 2 _ rfl, h 3 _ rfl, h 4 _ rfl, h 5 _ rfl⟩

theorem PackAt.on {w w' : World} {H i : Nat} {p : PackD} (h : PackAt (Above H w) w H i p) (hH : H < w.heap.size) (hb : Below w.heap.size w w') : PackAt (Above H w') w' H i p := by
  obtain ⟨a1, c1, a2, c2, a3, c3, h1, h2⟩ := h
  exact ⟨a1, c1, a2, c2, a3, c3, h1.stay (hb.block _ hH), (h2.stay (fun _ b hb' => hb.block b hb'.2.lt)).wider (fun _ b hb' => hb'.on hb)⟩

/-- One pack more is laid. -/
theorem packs_step {w1 : World} {H n k : Nat} {t : TypeId} {l : List PackD} {q : PackD} {a1 : Option Addr} {c1 : Nat} {a2 : Option Addr} {c2 : Nat} {a3 : Option Addr} {c3 : Nat} (hr : Row w1 H t n) (hk : k * 6 + 6 ≤ n) (hl : ∀ i, i < k → PackAt (Above H w1) w1 H (i * 6) (l.getD i dPack))
    (hq : q = l.getD k dPack) (hv : PackVal (Above H w1) w1 a1 a2 a3 q) :
    ∀ i, i < k + 1 → PackAt (Above H (w1.setCells H (k * 6) [.string q.name, .int .i64 q.ver, .int .i64 q.size, .slice a1 q.deps.length c1, .slice a2 q.pres.length c2, .slice a3 q.bans.length c3])) (w1.setCells H (k * 6) [.string q.name, .int .i64 q.ver, .int .i64 q.size, .slice a1 q.deps.length c1, .slice a2 q.pres.length c2, .slice a3 q.bans.length c3]) H (i * 6) (l.getD i dPack) := by
  intro i hi
  have st : ∀ a1 a2 a3 p, PackVal (Above H w1) w1 a1 a2 a3 p → PackVal (Above H (w1.setCells H (k * 6) [.string q.name, .int .i64 q.ver, .int .i64 q.size, .slice a1 q.deps.length c1, .slice a2 q.pres.length c2, .slice a3 q.bans.length c3])) (w1.setCells H (k * 6) [.string q.name, .int .i64 q.ver, .int .i64 q.size, .slice a1 q.deps.length c1, .slice a2 q.pres.length c2, .slice a3 q.bans.length c3]) a1 a2 a3 p := fun a1 a2 a3 p h =>
    (h.stay (fun _ b hb => blk_sets _ _ _ _ _ (by have := hb.1; omega))).wider (fun _ b hb => hb.sets _)
  by_cases e : i = k
  · subst e
    rw [← hq]
    exact ⟨a1, c1, a2, c2, a3, c3, PackCells.of_range (World.rangeAt_setCells_same w1 H (i * 6) _ (hr.there hk)), st _ _ _ _ hv⟩
  · obtain ⟨z1, d1, z2, d2, z3, d3, h1, h2⟩ := hl i (by omega)
    have h2' := (h2.stay (w' := w1.setCells H (k * 6) [.string q.name, .int .i64 q.ver, .int .i64 q.size, .slice a1 q.deps.length c1, .slice a2 q.pres.length c2, .slice a3 q.bans.length c3]) (fun _ b hb => blk_sets _ _ _ _ _ (by have := hb.1; omega)))
    exact ⟨z1, d1, z2, d2, z3, d3, PackCells.of_range (World.rangeAt_setCells_apart h1.range H (k * 6) _ (Or.inr (Or.inl (by simp; omega)))), h2'.wider (fun _ b hb => hb.sets _)⟩
end Go.Proofs.Ytcmgddkifhcmlas

namespace Go.Proofs.Ytcmgddkifhcmlas
set_option linter.unusedVariables false
set_option linter.unusedSimpArgs false
open Go.RowKit Go.Deep

structure SmallPacks (l : List PackD) : Prop where
  len : l.length ≤ 1048576
  each : ∀ i, i < l.length → SmallPack (l.getD i dPack)

end Go.Proofs.Ytcmgddkifhcmlas
