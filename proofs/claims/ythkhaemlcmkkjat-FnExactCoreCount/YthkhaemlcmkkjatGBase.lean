/- Plain data of packs, what is ok of them, and how they lie in memory. Blocks by kind, rows of cells, and what has been written. -/
import Derived.Test.YthkhaemlcmkkjatProg
import Derived.WalkKit
import Derived.WalkSpells
import Derived.WalkLawsBesides
import Derived.Deep.OwnRows
import Derived.Deep.MidRow
import Derived.Laws.IdiomCopy
namespace Go.Proofs.Ythkhaemlcmkkjat
set_option linter.unusedVariables false
set_option linter.unusedSimpArgs false
open Go.RowKit

theorem hide {p : Prop} (h : p) : Hid p := h
theorem unhide {p : Prop} (h : Hid p) : p := h
theorem ret_bool {a b : Bool} (h : a = b) : Ending.returned (.bool a) = .returned (.bool b) := by rw [h]

def inB (n low high : Int) : Bool := decide (low ≤ n) && decide (n ≤ high)
/-! ### How they lie in memory: requests in blocks of which S 0 holds, rows in blocks of S 1, packs in blocks of S 2 -/

/-! ### They stay where the blocks stay -/

/-! ### Fewer blocks are as good -/

theorem getD_mem {α : Type} {l : List α} {i : Nat} {d : α} (h : i < l.length) : l.getD i d ∈ l := by
  simp [List.getD, h]
theorem all_take_succ {α : Type} {l : List α} {d : α} {f : α → Bool} {k : Nat} (h : k < l.length) : (l.take (k + 1)).all f = ((l.take k).all f && f (l.getD k d)) := by
  rw [List.take_succ_eq_append_getElem h, List.all_append]
  simp [List.getD, h]
end Go.Proofs.Ythkhaemlcmkkjat

namespace Go.Proofs.Ythkhaemlcmkkjat
set_option linter.unusedVariables false
set_option linter.unusedSimpArgs false
open Go.RowKit Go.Deep

def CellsOf (w : World) (b : Nat) (t : TypeId) : Prop := ∃ C : Array Value, w.heap[b]? = some (.cells C t (0, 0))
theorem CellsOf.lt {w : World} {b : Nat} {t : TypeId} (h : CellsOf w b t) : b < w.heap.size := by
  obtain ⟨C, hb⟩ := h
  exact (Array.getElem?_eq_some_iff.1 hb).1
theorem CellsOf.frozen {w : World} {b : Nat} {t : TypeId} (h : CellsOf w b t) (i : Nat) : w.frozen? ⟨b, i, none⟩ = false := by
  obtain ⟨C, hb⟩ := h
  simp [World.frozen?, hb]
theorem CellsOf.of_block {w w' : World} {b : Nat} {t : TypeId} (h : CellsOf w b t) (e : w'.heap[b]? = w.heap[b]?) : CellsOf w' b t := by
  obtain ⟨C, hb⟩ := h
  exact ⟨C, e.trans hb⟩
theorem CellsOf.one {w : World} {b : Nat} {t t' : TypeId} (h : CellsOf w b t) (h' : CellsOf w b t') : t = t' := by
  obtain ⟨C, hb⟩ := h
  obtain ⟨C', hb'⟩ := h'
  rw [hb] at hb'
  simp at hb'
  exact hb'.2
/-- A block of so many cells of a type that may be written. -/
def Row (w : World) (b : Nat) (t : TypeId) (n : Nat) : Prop := ∃ C : Array Value, w.heap[b]? = some (.cells C t (0, 0)) ∧ C.size = n
theorem Row.cells {w : World} {b n : Nat} {t : TypeId} (h : Row w b t n) : CellsOf w b t := by
  obtain ⟨C, hb, _⟩ := h
  exact ⟨C, hb⟩
theorem Row.cell {w : World} {b n i : Nat} {t : TypeId} (h : Row w b t n) (hi : i < n) : ∃ v, w.cell? ⟨b, i, none⟩ = some v := by
  obtain ⟨C, hb, hn⟩ := h
  exact ⟨C[i]'(by omega), by simp [World.cell?, hb, hn, hi]⟩
theorem Row.frozen {w : World} {b n : Nat} {t : TypeId} (h : Row w b t n) (i : Nat) : w.frozen? ⟨b, i, none⟩ = false := by
  obtain ⟨C, hb, hn⟩ := h
  simp [World.frozen?, hb]
theorem Row.lt {w : World} {b n : Nat} {t : TypeId} (h : Row w b t n) : b < w.heap.size := by
  obtain ⟨C, hb, hn⟩ := h
  exact (Array.getElem?_eq_some_iff.1 hb).1
theorem Row.of_block {w w' : World} {b n : Nat} {t : TypeId} (h : Row w b t n) (e : w'.heap[b]? = w.heap[b]?) : Row w' b t n := by
  obtain ⟨C, hb, hn⟩ := h
  exact ⟨C, e.trans hb, hn⟩
theorem Row.set {w : World} {b n : Nat} {t : TypeId} (h : Row w b t n) (b' i : Nat) (v : Value) : Row (w.setCell ⟨b', i, none⟩ v) b t n := by
  obtain ⟨C, hb, hn⟩ := h
  by_cases e : b = b'
  · subst e
    exact ⟨C.setIfInBounds i v, by simp [World.setCell, Array.getElem?_modify, hb], by simpa using hn⟩
  · exact ⟨C, (blk_setCell_other _ _ _ _ e).trans hb, hn⟩
theorem Row.sets {b n : Nat} {t : TypeId} (b' : Nat) : ∀ (vs : List Value) (o : Nat) (w : World), Row w b t n → Row (w.setCells b' o vs) b t n
  | [], _, _, h => h
  | v :: r, o, w, h => Row.sets b' r (o + 1) _ (h.set b' o v)
theorem blk_sets (b : Nat) : ∀ (vs : List Value) (o : Nat) (w : World) (k : Nat), k ≠ b → (w.setCells b o vs).heap[k]? = w.heap[k]?
  | [], _, _, _, _ => rfl
  | v :: r, o, w, k, h => (blk_sets b r (o + 1) _ k h).trans (blk_setCell_other _ _ _ _ h)
theorem below_sets {B : Nat} (b : Nat) (hb : B ≤ b) : ∀ (vs : List Value) (o : Nat) (a w : World), Below B a w → Below B a (w.setCells b o vs)
  | [], _, _, _, h => h
  | v :: r, o, a, w, h => below_sets b hb r (o + 1) a _ (h.setCell hb v)

theorem two {w : World} {b : Nat} {v0 v1 : Value} {t : TypeId} (h : w.heap[b]? = some (.cells #[v0, v1] t (0, 0))) :
    w.cell? ⟨b, 0, none⟩ = some v0 ∧ w.cell? ⟨b, 1, none⟩ = some v1 ∧ ∀ i, w.frozen? ⟨b, i, none⟩ = false := by
  simp [World.cell?, World.frozen?, h]
theorem blk_set {w : World} {b : Nat} {c : Array Value} {t : TypeId} (h : w.heap[b]? = some (.cells c t (0, 0))) (i : Nat) (v : Value) : (w.setCell ⟨b, i, none⟩ v).heap[b]? = some (.cells (c.setIfInBounds i v) t (0, 0)) := by
  simp [World.setCell, Array.getElem?_modify, h]

theorem three_alloc (w : World) (A B C : Obj) : (((w.alloc A).alloc B).alloc C).heap[w.heap.size]? = some A ∧ (((w.alloc A).alloc B).alloc C).heap[w.heap.size + 1]? = some B ∧ (((w.alloc A).alloc B).alloc C).heap[w.heap.size + 1 + 1]? = some C := by
  have e : (((w.alloc A).alloc B).alloc C).heap = ((w.heap.push A).push B).push C := rfl
  rw [e]
  refine ⟨?_, ?_, ?_⟩
  · rw [Array.getElem?_push, if_neg (by simp; omega), Array.getElem?_push, if_neg (by simp), Array.getElem?_push, if_pos rfl]
  · rw [Array.getElem?_push, if_neg (by simp), Array.getElem?_push, if_pos (by simp)]
  · rw [Array.getElem?_push, if_pos (by simp)]

theorem make_eq {P : Program} (t e : TypeId) (z : Value) (size bytes : Nat) (ht : P.underlying t = some (.slice e)) (hinfo : (P.info? e).map (fun i => (i.zero, i.size, i.bytes)) = some (some z, size, bytes))
    (n : Nat) (hbytes : bytes * n ≤ 281474976710656) (h63 : n ≤ 9223372036854775807) (w : World) :
    (Instr.makeSlice t (.int .i64 (n : Int)) (.int .i64 (n : Int))).run P w = .ok (.slice (some ⟨w.heap.size, 0, none⟩) n n) (w.alloc (.cells (madeCells z.cells (n * size)) e)) := by
  obtain ⟨i, hi, hzz⟩ := Option.map_eq_some_iff.1 hinfo
  simp only [Prod.mk.injEq] at hzz
  obtain ⟨hz, hs, hb⟩ := hzz
  have hb' : (i.bytes : Int) * (n : Int) ≤ 281474976710656 := by
    have h : ((i.bytes * n : Nat) : Int) ≤ 281474976710656 := by rw [hb]; omega
    rwa [Int.natCast_mul] at h
  have hr := run_make (P := P) w t e i z ht hi hz .i64 .i64 n n (by omega) (Int.le_refl _) hb' (by omega)
  simp only [Int.toNat_natCast, hs] at hr
  exact hr

theorem row_made (w : World) (z : Array Value) (n : Nat) (t : TypeId) : Row (w.alloc (.cells (madeCells z n) t)) w.heap.size t n :=
  ⟨_, blk_alloc_new _ _, size_madeCells _ _⟩

end Go.Proofs.Ythkhaemlcmkkjat
