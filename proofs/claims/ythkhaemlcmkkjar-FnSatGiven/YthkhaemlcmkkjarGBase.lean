/- Plain data of packs, what is ok of them, and how they lie in memory. Blocks by kind, rows of cells, and what has been written. -/
import Derived.Test.YthkhaemlcmkkjarProg
import Derived.WalkKit
import Derived.WalkSpells
import Derived.WalkLawsBesides
import Derived.Deep.OwnRows
import Derived.Deep.MidRow
import Derived.Laws.IdiomCopy
namespace Go.Proofs.Ythkhaemlcmkkjar
set_option linter.unusedVariables false
set_option linter.unusedSimpArgs false
open Go.RowKit

theorem hide {p : Prop} (h : p) : Hid p := h
theorem unhide {p : Prop} (h : Hid p) : p := h
theorem ret_bool {a b : Bool} (h : a = b) : Ending.returned (.bool a) = .returned (.bool b) := by rw [h]

def inB (n low high : Int) : Bool := decide (low ≤ n) && decide (n ≤ high)
/-! ### How they lie in memory: requests in blocks of which S 0 holds, rows in blocks of S 1, packs in blocks of S 2 -/

/-! ### They stay where the blocks stay -/

/-! ### Fewer blocks are as good -/

theorem getD_mem {α : Type} {l : List α} {i : Nat} {d : α} (h : i < l.length) : l.getD i d ∈ l := by
  simp [List.getD, h]
theorem all_take_succ {α : Type} {l : List α} {d : α} {f : α → Bool} {k : Nat} (h : k < l.length) : (l.take (k + 1)).all f = ((l.take k).all f && f (l.getD k d)) := by
  rw [List.take_succ_eq_append_getElem h, List.all_append]
  simp [List.getD, h]
end Go.Proofs.Ythkhaemlcmkkjar

namespace Go.Proofs.Ythkhaemlcmkkjar
set_option linter.unusedVariables false
set_option linter.unusedSimpArgs false
open Go.RowKit Go.Deep

def CellsOf (w : World) (b : Nat) (t : TypeId) : Prop := ∃ C : Array Value, w.heap[b]? = some (.cells C t (0, 0))
theorem CellsOf.lt {w : World} {b : Nat} {t : TypeId} (h : CellsOf w b t) : b < w.heap.size := by
  obtain ⟨C, hb⟩ := h
  exact (Array.getElem?_eq_some_iff.1 hb).1
theorem CellsOf.frozen {w : World} {b : Nat} {t : TypeId} (h : CellsOf w b t) (i : Nat) : w.frozen? ⟨b, i, none⟩ = false := by
  obtain ⟨C, hb⟩ := h
  simp [World.frozen?, hb]
theorem CellsOf.of_block {w w' : World} {b : Nat} {t : TypeId} (h : CellsOf w b t) (e : w'.heap[b]? = w.heap[b]?) : CellsOf w' b t := by
  obtain ⟨C, hb⟩ := h
  exact ⟨C, e.trans hb⟩
theorem CellsOf.one {w : World} {b : Nat} {t t' : TypeId} (h : CellsOf w b t) (h' : CellsOf w b t') : t = t' := by
  obtain ⟨C, hb⟩ := h
  obtain ⟨C', hb'⟩ := h'
  rw [hb] at hb'
  simp at hb'
  exact hb'.2
/-- A block of so many cells of a type that may be written. -/
def Row (w : World) (b : Nat) (t : TypeId) (n : Nat) : Prop := ∃ C : Array Value, w.heap[b]? = some (.cells C t (0, 0)) ∧ C.size = n
theorem Row.cells {w : World} {b n : Nat} {t : TypeId} (h : Row w b t n) : CellsOf w b t := by
  obtain ⟨C, hb, _⟩ := h
  exact ⟨C, hb⟩
theorem Row.cell {w : World} {b n i : Nat} {t : TypeId} (h : Row w b t n) (hi : i < n) : ∃ v, w.cell? ⟨b, i, none⟩ = some v := by
  obtain ⟨C, hb, hn⟩ := h
  exact ⟨C[i]'(by omega), by simp [World.cell?, hb, hn, hi]⟩
theorem Row.frozen {w : World} {b n : Nat} {t : TypeId} (h : Row w b t n) (i : Nat) : w.frozen? ⟨b, i, none⟩ = false := by
  obtain ⟨C, hb, hn⟩ := h
  simp [World.frozen?, hb]
theorem Row.lt {w : World} {b n : Nat} {t : TypeId} (h : Row w b t n) : b < w.heap.size := by
  obtain ⟨C, hb, hn⟩ := h
  exact (Array.getElem?_eq_some_iff.1 hb).1
theorem Row.of_block {w w' : World} {b n : Nat} {t : TypeId} (h : Row w b t n) (e : w'.heap[b]? = w.heap[b]?) : Row w' b t n := by
  obtain ⟨C, hb, hn⟩ := h
  exact ⟨C, e.trans hb, hn⟩
theorem Row.set {w : World} {b n : Nat} {t : TypeId} (h : Row w b t n) (b' i : Nat) (v : Value) : Row (w.setCell ⟨b', i, none⟩ v) b t n := by
  obtain ⟨C, hb, hn⟩ := h
  by_cases e : b = b'
  · subst e
    exact ⟨C.setIfInBounds i v, by simp [World.setCell, Array.getElem?_modify, hb], by simpa using hn⟩
  · exact ⟨C, (blk_setCell_other _ _ _ _ e).trans hb, hn⟩
theorem two {w : World} {b : Nat} {v0 v1 : Value} {t : TypeId} (h : w.heap[b]? = some (.cells #[v0, v1] t (0, 0))) :
    w.cell? ⟨b, 0, none⟩ = some v0 ∧ w.cell? ⟨b, 1, none⟩ = some v1 ∧ ∀ i, w.frozen? ⟨b, i, none⟩ = false := by
  simp [World.cell?, World.frozen?, h]
theorem blk_set {w : World} {b : Nat} {c : Array Value} {t : TypeId} (h : w.heap[b]? = some (.cells c t (0, 0))) (i : Nat) (v : Value) : (w.setCell ⟨b, i, none⟩ v).heap[b]? = some (.cells (c.setIfInBounds i v) t (0, 0)) := by
  simp [World.setCell, Array.getElem?_modify, h]

theorem Row.there {w : World} {b n o k : Nat} {t : TypeId} (h : Row w b t n) (hk : o + k ≤ n) : w.there b o k := fun j hj => by
  obtain ⟨v, hv⟩ := h.cell (i := o + j) (by omega)
  exact ⟨by rw [hv]; rfl, h.frozen _⟩

theorem make_eq {P : Program} (t e : TypeId) (z : Value) (size bytes : Nat) (ht : P.underlying t = some (.slice e)) (hinfo : (P.info? e).map (fun i => (i.zero, i.size, i.bytes)) = some (some z, size, bytes))
    (n : Nat) (hbytes : bytes * n ≤ 281474976710656) (h63 : n ≤ 9223372036854775807) (w : World) :
    (Instr.makeSlice t (.int .i64 (n : Int)) (.int .i64 (n : Int))).run P w = .ok (.slice (some ⟨w.heap.size, 0, none⟩) n n) (w.alloc (.cells (madeCells z.cells (n * size)) e)) := by
  obtain ⟨i, hi, hzz⟩ := Option.map_eq_some_iff.1 hinfo
  simp only [Prod.mk.injEq] at hzz
  obtain ⟨hz, hs, hb⟩ := hzz
  have hb' : (i.bytes : Int) * (n : Int) ≤ 281474976710656 := by
    have h : ((i.bytes * n : Nat) : Int) ≤ 281474976710656 := by rw [hb]; omega
    rwa [Int.natCast_mul] at h
  have hr := run_make (P := P) w t e i z ht hi hz .i64 .i64 n n (by omega) (Int.le_refl _) hb' (by omega)
  simp only [Int.toNat_natCast, hs] at hr
  exact hr

/-- From w to w' nothing has been written but blocks of the types ts, from block B on; each block keeps its type and its length. -/
structure Wrote (B : Nat) (ts : TypeId → Prop) (w w' : World) : Prop where
  os : w'.os = w.os
  tape : w'.tape = w.tape
  output : w'.output = w.output
  size : w.heap.size ≤ w'.heap.size
  block : ∀ b, b < w.heap.size → (b < B ∨ ∀ t, ts t → ¬ CellsOf w b t) → w'.heap[b]? = w.heap[b]?
  shape : ∀ b t n, Row w b t n → Row w' b t n

theorem Wrote.refl (B : Nat) (ts : TypeId → Prop) (w : World) : Wrote B ts w w := ⟨rfl, rfl, rfl, Nat.le_refl _, fun _ _ _ => rfl, fun _ _ _ h => h⟩
theorem Wrote.trans {B : Nat} {ts : TypeId → Prop} {a b c : World} (h : Wrote B ts a b) (k : Wrote B ts b c) : Wrote B ts a c :=
  ⟨k.os.trans h.os, k.tape.trans h.tape, k.output.trans h.output, Nat.le_trans h.size k.size,
   fun x hx hc => by
     have e := h.block x hx hc
     exact (k.block x (Nat.lt_of_lt_of_le hx h.size) (hc.imp id fun hc t ht hn => hc t ht (hn.of_block e.symm))).trans e,
   fun x t n hr => k.shape x t n (h.shape x t n hr)⟩
theorem Wrote.of_below {B : Nat} {ts : TypeId → Prop} {w w' : World} (h : Below w.heap.size w w') : Wrote B ts w w' :=
  ⟨h.os, h.tape, h.output, h.size, fun b hb _ => h.block b hb, fun b t n hr => hr.of_block (h.block b hr.lt)⟩
theorem Wrote.set {B : Nat} {ts : TypeId → Prop} {a w : World} (h : Wrote B ts a w) {b : Nat} {t : TypeId} (hB : B ≤ b) (hc : CellsOf w b t) (ht : ts t) (i : Nat) (v : Value) : Wrote B ts a (w.setCell ⟨b, i, none⟩ v) := by
  refine h.trans ⟨rfl, rfl, rfl, by rw [nblk_setCell]; exact Nat.le_refl _, fun x hx hx' => blk_setCell_other _ _ _ _ ?_, fun x u n hr => hr.set b i v⟩
  intro e
  rcases hx' with hx' | hx'
  · have : x = b := e
    omega
  · exact hx' t ht (by rw [show x = b from e]; exact hc)
theorem Wrote.more {B : Nat} {ts ts' : TypeId → Prop} {w w' : World} (h : Wrote B ts w w') (hs : ∀ t, ts t → ts' t) : Wrote B ts' w w' :=
  ⟨h.os, h.tape, h.output, h.size, fun b hb hc => h.block b hb (hc.imp id fun hc t ht => hc t (hs t ht)), h.shape⟩
theorem Wrote.cells {B : Nat} {ts : TypeId → Prop} {w w' : World} (h : Wrote B ts w w') {b : Nat} {t : TypeId} (hc : CellsOf w b t) : CellsOf w' b t := by
  obtain ⟨C, hC⟩ := hc
  exact (h.shape b t C.size ⟨C, hC, rfl⟩).cells
theorem Wrote.other {B : Nat} {ts : TypeId → Prop} {w w' : World} (h : Wrote B ts w w') {b : Nat} {t : TypeId} (hc : CellsOf w b t) (ht : ¬ ts t) : w'.heap[b]? = w.heap[b]? :=
  h.block b hc.lt (Or.inr fun u hu hn => ht (by rw [hc.one hn]; exact hu))
/-- Where nothing below B was written: as it was below B. -/
theorem Wrote.below {B : Nat} {ts : TypeId → Prop} {w w' : World} (h : Wrote B ts w w') (hB : B ≤ w.heap.size) : Below B w w' :=
  ⟨h.os, h.tape, h.output, h.size, fun b hb => h.block b (by omega) (Or.inl hb)⟩

end Go.Proofs.Ythkhaemlcmkkjar
