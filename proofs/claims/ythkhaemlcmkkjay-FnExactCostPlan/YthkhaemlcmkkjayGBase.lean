/- Plain data of packs, what is ok of them, and how they lie in memory. Blocks by kind, rows of cells, and what has been written. -/
import Derived.Test.YthkhaemlcmkkjayProg
import Derived.WalkKit
import Derived.WalkSpells
import Derived.WalkLawsBesides
import Derived.Deep.OwnRows
import Derived.Deep.MidRow
import Derived.Laws.IdiomCopy
namespace Go.Proofs.Ythkhaemlcmkkjay
set_option linter.unusedVariables false
set_option linter.unusedSimpArgs false
open Go.RowKit

theorem hide {p : Prop} (h : p) : Hid p := h
theorem unhide {p : Prop} (h : Hid p) : p := h
theorem ret_bool {a b : Bool} (h : a = b) : Ending.returned (.bool a) = .returned (.bool b) := by rw [h]

structure ReqD where
  name : ByteArray
  low : Int
  high : Int
structure PackD where
  name : ByteArray
  ver : Int
  size : Int
  deps : List (List ReqD)
  pres : List ReqD
  bans : List ReqD
structure RepoD where
  packs : List PackD
  room : Int
def dReq : ReqD := ⟨ByteArray.empty, 0, 0⟩
def dPack : PackD := ⟨ByteArray.empty, 0, 0, [], [], []⟩

def inB (n low high : Int) : Bool := decide (low ≤ n) && decide (n ≤ high)
def letterB (c : UInt8) : Bool := decide (97 ≤ (c.toNat : Int)) && decide ((c.toNat : Int) ≤ 122)
def lettersB (l : List UInt8) : Bool := l.all letterB
def nameB (s : ByteArray) : Bool := inB s.size 1 6 && lettersB s.data.toList
def reqB (q : ReqD) : Bool := nameB q.name && inB q.high 0 99 && inB q.low 0 q.high
def reqsB (l : List ReqD) : Bool := decide (l.length ≤ 4) && l.all reqB
def rowB (l : List ReqD) : Bool := decide (0 < l.length) && reqsB l
def packB (p : PackD) : Bool :=
  nameB p.name && inB p.ver 0 99 && inB p.size 0 999 && decide (p.deps.length ≤ 4) && p.deps.all rowB && reqsB p.pres && reqsB p.bans
def aheadB (a b : PackD) : Bool :=
  Op.bytesLess a.name.toList b.name.toList || ((a.name.toList == b.name.toList) && decide (a.ver < b.ver))
theorem less_irrefl : ∀ l : List UInt8, Op.bytesLess l l = false
  | [] => rfl
  | a :: l => by simp [Op.bytesLess, less_irrefl l]
def ascB (l : List PackD) : Bool := (List.range (l.length - 1)).all fun i => aheadB (l.getD i dPack) (l.getD (i + 1) dPack)
def repoB (r : RepoD) : Bool := decide (r.packs.length ≤ 8) && inB r.room 0 999 && r.packs.all packB && ascB r.packs

/-! ### How they lie in memory: requests in blocks of which S 0 holds, rows in blocks of S 1, packs in blocks of S 2 -/

structure ReqAt (w : World) (b o : Nat) (q : ReqD) : Prop where
  name : w.cell? ⟨b, o, none⟩ = some (.string q.name)
  low : w.cell? ⟨b, o + 1, none⟩ = some (.int .i64 q.low)
  high : w.cell? ⟨b, o + 2, none⟩ = some (.int .i64 q.high)
  len : q.name.size ≤ maxLen

def ReqsAt (S : Nat → Nat → Prop) (w : World) (a : Option Addr) (l : List ReqD) : Prop :=
  l.length ≤ maxLen ∧ (l = [] ∨ ∃ b o, a = some ⟨b, o, none⟩ ∧ S 0 b ∧ ∀ i, i < l.length → ReqAt w b (o + i * 3) (l.getD i dReq))

def RowsAt (S : Nat → Nat → Prop) (w : World) (a : Option Addr) (l : List (List ReqD)) : Prop :=
  l.length ≤ maxLen ∧ (l = [] ∨ ∃ b o, a = some ⟨b, o, none⟩ ∧ S 1 b ∧ ∀ i, i < l.length → ∃ a' c, w.cell? ⟨b, o + i, none⟩ = some (.slice a' (l.getD i []).length c) ∧ ReqsAt S w a' (l.getD i []))

structure PackVal (S : Nat → Nat → Prop) (w : World) (a1 a2 a3 : Option Addr) (p : PackD) : Prop where
  len : p.name.size ≤ maxLen
  deps : RowsAt S w a1 p.deps
  pres : ReqsAt S w a2 p.pres
  bans : ReqsAt S w a3 p.bans

structure PackCells (w : World) (b o : Nat) (p : PackD) (a1 : Option Addr) (c1 : Nat) (a2 : Option Addr) (c2 : Nat) (a3 : Option Addr) (c3 : Nat) : Prop where
  name : w.cell? ⟨b, o, none⟩ = some (.string p.name)
  ver : w.cell? ⟨b, o + 1, none⟩ = some (.int .i64 p.ver)
  size : w.cell? ⟨b, o + 2, none⟩ = some (.int .i64 p.size)
  deps : w.cell? ⟨b, o + 3, none⟩ = some (.slice a1 p.deps.length c1)
  pres : w.cell? ⟨b, o + 4, none⟩ = some (.slice a2 p.pres.length c2)
  bans : w.cell? ⟨b, o + 5, none⟩ = some (.slice a3 p.bans.length c3)

def PackAt (S : Nat → Nat → Prop) (w : World) (b o : Nat) (p : PackD) : Prop :=
  ∃ a1 c1 a2 c2 a3 c3, PackCells w b o p a1 c1 a2 c2 a3 c3 ∧ PackVal S w a1 a2 a3 p

def PacksAt (S : Nat → Nat → Prop) (w : World) (a : Option Addr) (l : List PackD) : Prop :=
  l.length ≤ maxLen ∧ (l = [] ∨ ∃ b o, a = some ⟨b, o, none⟩ ∧ S 2 b ∧ ∀ i, i < l.length → PackAt S w b (o + i * 6) (l.getD i dPack))

/-! ### They stay where the blocks stay -/

theorem ReqAt.stay {w w' : World} {b o : Nat} {q : ReqD} (h : ReqAt w b o q) (hb : w'.heap[b]? = w.heap[b]?) : ReqAt w' b o q :=
  ⟨by rw [World.cell?_of_block (w := w) (a := ⟨b, o, none⟩) hb]; exact h.name, by rw [World.cell?_of_block (w := w) (a := ⟨b, o + 1, none⟩) hb]; exact h.low,
   by rw [World.cell?_of_block (w := w) (a := ⟨b, o + 2, none⟩) hb]; exact h.high, h.len⟩

theorem ReqsAt.stay {S : Nat → Nat → Prop} {w w' : World} {a : Option Addr} {l : List ReqD} (h : ReqsAt S w a l) (hb : ∀ k b, S k b → w'.heap[b]? = w.heap[b]?) : ReqsAt S w' a l := by
  obtain ⟨h0, h⟩ := h
  refine ⟨h0, ?_⟩
  rcases h with h | ⟨b, o, ha, hS, h⟩
  · exact Or.inl h
  · exact Or.inr ⟨b, o, ha, hS, fun i hi => (h i hi).stay (hb _ b hS)⟩

theorem RowsAt.stay {S : Nat → Nat → Prop} {w w' : World} {a : Option Addr} {l : List (List ReqD)} (h : RowsAt S w a l) (hb : ∀ k b, S k b → w'.heap[b]? = w.heap[b]?) : RowsAt S w' a l := by
  obtain ⟨h0, h⟩ := h
  refine ⟨h0, ?_⟩
  rcases h with h | ⟨b, o, ha, hS, h⟩
  · exact Or.inl h
  · refine Or.inr ⟨b, o, ha, hS, fun i hi => ?_⟩
    obtain ⟨a', c, h1, h2⟩ := h i hi
    exact ⟨a', c, by rw [World.cell?_of_block (w := w) (a := ⟨b, o + i, none⟩) (hb _ b hS)]; exact h1, h2.stay hb⟩

theorem PackVal.stay {S : Nat → Nat → Prop} {w w' : World} {a1 a2 a3 : Option Addr} {p : PackD} (h : PackVal S w a1 a2 a3 p) (hb : ∀ k b, S k b → w'.heap[b]? = w.heap[b]?) : PackVal S w' a1 a2 a3 p :=
  ⟨h.len, h.deps.stay hb, h.pres.stay hb, h.bans.stay hb⟩

theorem PackCells.stay {w w' : World} {b o : Nat} {p : PackD} {a1 : Option Addr} {c1 : Nat} {a2 : Option Addr} {c2 : Nat} {a3 : Option Addr} {c3 : Nat} (h : PackCells w b o p a1 c1 a2 c2 a3 c3) (hb : w'.heap[b]? = w.heap[b]?) : PackCells w' b o p a1 c1 a2 c2 a3 c3 :=
  have e : ∀ k, w'.cell? ⟨b, k, none⟩ = w.cell? ⟨b, k, none⟩ := fun k => World.cell?_of_block (w := w) (a := ⟨b, k, none⟩) hb
  ⟨by rw [e]; exact h.name, by rw [e]; exact h.ver, by rw [e]; exact h.size, by rw [e]; exact h.deps, by rw [e]; exact h.pres, by rw [e]; exact h.bans⟩

theorem PackAt.stay {S : Nat → Nat → Prop} {w w' : World} {b o : Nat} {p : PackD} (h : PackAt S w b o p) (hS : S 2 b) (hb : ∀ k b, S k b → w'.heap[b]? = w.heap[b]?) : PackAt S w' b o p := by
  obtain ⟨a1, c1, a2, c2, a3, c3, h1, h2⟩ := h
  exact ⟨a1, c1, a2, c2, a3, c3, h1.stay (hb _ b hS), h2.stay hb⟩

theorem PacksAt.stay {S : Nat → Nat → Prop} {w w' : World} {a : Option Addr} {l : List PackD} (h : PacksAt S w a l) (hb : ∀ k b, S k b → w'.heap[b]? = w.heap[b]?) : PacksAt S w' a l := by
  obtain ⟨h0, h⟩ := h
  refine ⟨h0, ?_⟩
  rcases h with h | ⟨b, o, ha, hS, h⟩
  · exact Or.inl h
  · exact Or.inr ⟨b, o, ha, hS, fun i hi => (h i hi).stay hS hb⟩

/-! ### Fewer blocks are as good -/

theorem ReqsAt.wider {S T : Nat → Nat → Prop} {w : World} {a : Option Addr} {l : List ReqD} (h : ReqsAt S w a l) (hST : ∀ k b, S k b → T k b) : ReqsAt T w a l := by
  obtain ⟨h0, h⟩ := h
  exact ⟨h0, h.imp id fun ⟨b, o, ha, hS, h⟩ => ⟨b, o, ha, hST _ b hS, h⟩⟩
theorem RowsAt.wider {S T : Nat → Nat → Prop} {w : World} {a : Option Addr} {l : List (List ReqD)} (h : RowsAt S w a l) (hST : ∀ k b, S k b → T k b) : RowsAt T w a l := by
  obtain ⟨h0, h⟩ := h
  refine ⟨h0, h.imp id fun ⟨b, o, ha, hS, h⟩ => ⟨b, o, ha, hST _ b hS, fun i hi => ?_⟩⟩
  obtain ⟨a', c, h1, h2⟩ := h i hi
  exact ⟨a', c, h1, h2.wider hST⟩
theorem PackVal.wider {S T : Nat → Nat → Prop} {w : World} {a1 a2 a3 : Option Addr} {p : PackD} (h : PackVal S w a1 a2 a3 p) (hST : ∀ k b, S k b → T k b) : PackVal T w a1 a2 a3 p :=
  ⟨h.len, h.deps.wider hST, h.pres.wider hST, h.bans.wider hST⟩
theorem PackAt.wider {S T : Nat → Nat → Prop} {w : World} {b o : Nat} {p : PackD} (h : PackAt S w b o p) (hST : ∀ k b, S k b → T k b) : PackAt T w b o p := by
  obtain ⟨a1, c1, a2, c2, a3, c3, h1, h2⟩ := h
  exact ⟨a1, c1, a2, c2, a3, c3, h1, h2.wider hST⟩
theorem PacksAt.wider {S T : Nat → Nat → Prop} {w : World} {a : Option Addr} {l : List PackD} (h : PacksAt S w a l) (hST : ∀ k b, S k b → T k b) : PacksAt T w a l := by
  obtain ⟨h0, h⟩ := h
  exact ⟨h0, h.imp id fun ⟨b, o, ha, hS, h⟩ => ⟨b, o, ha, hST _ b hS, fun i hi => (h i hi).wider hST⟩⟩

/-- All blocks that are there. -/
def Old (w : World) : Nat → Nat → Prop := fun _ b => b < w.heap.size

theorem Old.of {w w' : World} (h : Below w.heap.size w w') : ∀ k b, Old w k b → w'.heap[b]? = w.heap[b]? := fun _ b hb => h.block b hb
theorem Old.grow {w w' : World} (h : Below w.heap.size w w') : ∀ k b, Old w k b → Old w' k b := fun _ _ hb => Nat.lt_of_lt_of_le hb h.size

theorem ReqsAt.on {w w' : World} {a : Option Addr} {l : List ReqD} (h : ReqsAt (Old w) w a l) (hb : Below w.heap.size w w') : ReqsAt (Old w') w' a l := (h.stay (Old.of hb)).wider (Old.grow hb)
theorem RowsAt.on {w w' : World} {a : Option Addr} {l : List (List ReqD)} (h : RowsAt (Old w) w a l) (hb : Below w.heap.size w w') : RowsAt (Old w') w' a l := (h.stay (Old.of hb)).wider (Old.grow hb)
theorem PackVal.on {w w' : World} {a1 a2 a3 : Option Addr} {p : PackD} (h : PackVal (Old w) w a1 a2 a3 p) (hb : Below w.heap.size w w') : PackVal (Old w') w' a1 a2 a3 p := (h.stay (Old.of hb)).wider (Old.grow hb)
theorem PacksAt.on {w w' : World} {a : Option Addr} {l : List PackD} (h : PacksAt (Old w) w a l) (hb : Below w.heap.size w w') : PacksAt (Old w') w' a l := (h.stay (Old.of hb)).wider (Old.grow hb)

theorem getD_mem {α : Type} {l : List α} {i : Nat} {d : α} (h : i < l.length) : l.getD i d ∈ l := by
  simp [List.getD, h]
theorem all_take_succ {α : Type} {l : List α} {d : α} {f : α → Bool} {k : Nat} (h : k < l.length) : (l.take (k + 1)).all f = ((l.take k).all f && f (l.getD k d)) := by
  rw [List.take_succ_eq_append_getElem h, List.all_append]
  simp [List.getD, h]
end Go.Proofs.Ythkhaemlcmkkjay

namespace Go.Proofs.Ythkhaemlcmkkjay
set_option linter.unusedVariables false
set_option linter.unusedSimpArgs false
open Go.RowKit Go.Deep

/-- What lies in a block of a kind. -/
def kindTy (k : Nat) : TypeId := if k = 0 then 90 else if k = 1 then 60 else 62
def CellsOf (w : World) (b : Nat) (t : TypeId) : Prop := ∃ C : Array Value, w.heap[b]? = some (.cells C t (0, 0))
theorem CellsOf.lt {w : World} {b : Nat} {t : TypeId} (h : CellsOf w b t) : b < w.heap.size := by
  obtain ⟨C, hb⟩ := h
  exact (Array.getElem?_eq_some_iff.1 hb).1
theorem CellsOf.frozen {w : World} {b : Nat} {t : TypeId} (h : CellsOf w b t) (i : Nat) : w.frozen? ⟨b, i, none⟩ = false := by
  obtain ⟨C, hb⟩ := h
  simp [World.frozen?, hb]
theorem CellsOf.of_block {w w' : World} {b : Nat} {t : TypeId} (h : CellsOf w b t) (e : w'.heap[b]? = w.heap[b]?) : CellsOf w' b t := by
  obtain ⟨C, hb⟩ := h
  exact ⟨C, e.trans hb⟩
theorem CellsOf.one {w : World} {b : Nat} {t t' : TypeId} (h : CellsOf w b t) (h' : CellsOf w b t') : t = t' := by
  obtain ⟨C, hb⟩ := h
  obtain ⟨C', hb'⟩ := h'
  rw [hb] at hb'
  simp at hb'
  exact hb'.2
/-- The blocks of a kind that have come since, and may be written. -/
def New (w w' : World) : Nat → Nat → Prop := fun k b => w.heap.size ≤ b ∧ CellsOf w' b (kindTy k)

/-- A block of so many cells of a type that may be written. -/
def Row (w : World) (b : Nat) (t : TypeId) (n : Nat) : Prop := ∃ C : Array Value, w.heap[b]? = some (.cells C t (0, 0)) ∧ C.size = n
theorem Row.cells {w : World} {b n : Nat} {t : TypeId} (h : Row w b t n) : CellsOf w b t := by
  obtain ⟨C, hb, _⟩ := h
  exact ⟨C, hb⟩
theorem Row.cell {w : World} {b n i : Nat} {t : TypeId} (h : Row w b t n) (hi : i < n) : ∃ v, w.cell? ⟨b, i, none⟩ = some v := by
  obtain ⟨C, hb, hn⟩ := h
  exact ⟨C[i]'(by omega), by simp [World.cell?, hb, hn, hi]⟩
theorem Row.frozen {w : World} {b n : Nat} {t : TypeId} (h : Row w b t n) (i : Nat) : w.frozen? ⟨b, i, none⟩ = false := by
  obtain ⟨C, hb, hn⟩ := h
  simp [World.frozen?, hb]
theorem Row.lt {w : World} {b n : Nat} {t : TypeId} (h : Row w b t n) : b < w.heap.size := by
  obtain ⟨C, hb, hn⟩ := h
  exact (Array.getElem?_eq_some_iff.1 hb).1
theorem Row.of_block {w w' : World} {b n : Nat} {t : TypeId} (h : Row w b t n) (e : w'.heap[b]? = w.heap[b]?) : Row w' b t n := by
  obtain ⟨C, hb, hn⟩ := h
  exact ⟨C, e.trans hb, hn⟩
theorem Row.set {w : World} {b n : Nat} {t : TypeId} (h : Row w b t n) (b' i : Nat) (v : Value) : Row (w.setCell ⟨b', i, none⟩ v) b t n := by
  obtain ⟨C, hb, hn⟩ := h
  by_cases e : b = b'
  · subst e
    exact ⟨C.setIfInBounds i v, by simp [World.setCell, Array.getElem?_modify, hb], by simpa using hn⟩
  · exact ⟨C, (blk_setCell_other _ _ _ _ e).trans hb, hn⟩
theorem Row.sets {b n : Nat} {t : TypeId} (b' : Nat) : ∀ (vs : List Value) (o : Nat) (w : World), Row w b t n → Row (w.setCells b' o vs) b t n
  | [], _, _, h => h
  | v :: r, o, w, h => Row.sets b' r (o + 1) _ (h.set b' o v)
theorem blk_sets (b : Nat) : ∀ (vs : List Value) (o : Nat) (w : World) (k : Nat), k ≠ b → (w.setCells b o vs).heap[k]? = w.heap[k]?
  | [], _, _, _, _ => rfl
  | v :: r, o, w, k, h => (blk_sets b r (o + 1) _ k h).trans (blk_setCell_other _ _ _ _ h)
theorem size_sets (b : Nat) : ∀ (vs : List Value) (o : Nat) (w : World), (w.setCells b o vs).heap.size = w.heap.size
  | [], _, _ => rfl
  | v :: r, o, w => (size_sets b r (o + 1) _).trans (nblk_setCell _ _ _)
theorem below_sets {B : Nat} (b : Nat) (hb : B ≤ b) : ∀ (vs : List Value) (o : Nat) (a w : World), Below B a w → Below B a (w.setCells b o vs)
  | [], _, _, _, h => h
  | v :: r, o, a, w, h => below_sets b hb r (o + 1) a _ (h.setCell hb v)

theorem six {w : World} {b : Nat} {v0 v1 v2 v3 v4 v5 : Value} {t : TypeId} (h : w.heap[b]? = some (.cells #[v0, v1, v2, v3, v4, v5] t (0, 0))) :
    w.cell? ⟨b, 0, none⟩ = some v0 ∧ w.cell? ⟨b, 1, none⟩ = some v1 ∧ w.cell? ⟨b, 2, none⟩ = some v2 ∧ w.cell? ⟨b, 3, none⟩ = some v3 ∧ w.cell? ⟨b, 4, none⟩ = some v4 ∧ w.cell? ⟨b, 5, none⟩ = some v5 ∧ ∀ i, w.frozen? ⟨b, i, none⟩ = false := by
  simp [World.cell?, World.frozen?, h]
theorem two {w : World} {b : Nat} {v0 v1 : Value} {t : TypeId} (h : w.heap[b]? = some (.cells #[v0, v1] t (0, 0))) :
    w.cell? ⟨b, 0, none⟩ = some v0 ∧ w.cell? ⟨b, 1, none⟩ = some v1 ∧ ∀ i, w.frozen? ⟨b, i, none⟩ = false := by
  simp [World.cell?, World.frozen?, h]
theorem blk_set {w : World} {b : Nat} {c : Array Value} {t : TypeId} (h : w.heap[b]? = some (.cells c t (0, 0))) (i : Nat) (v : Value) : (w.setCell ⟨b, i, none⟩ v).heap[b]? = some (.cells (c.setIfInBounds i v) t (0, 0)) := by
  simp [World.setCell, Array.getElem?_modify, h]

theorem three_alloc (w : World) (A B C : Obj) : (((w.alloc A).alloc B).alloc C).heap[w.heap.size]? = some A ∧ (((w.alloc A).alloc B).alloc C).heap[w.heap.size + 1]? = some B ∧ (((w.alloc A).alloc B).alloc C).heap[w.heap.size + 1 + 1]? = some C := by
  have e : (((w.alloc A).alloc B).alloc C).heap = ((w.heap.push A).push B).push C := rfl
  rw [e]
  refine ⟨?_, ?_, ?_⟩
  · rw [Array.getElem?_push, if_neg (by simp; omega), Array.getElem?_push, if_neg (by simp), Array.getElem?_push, if_pos rfl]
  · rw [Array.getElem?_push, if_neg (by simp), Array.getElem?_push, if_pos (by simp)]
  · rw [Array.getElem?_push, if_pos (by simp)]

theorem ReqAt.range {w : World} {b o : Nat} {q : ReqD} (h : ReqAt w b o q) : w.rangeAt b o [.string q.name, .int .i64 q.low, .int .i64 q.high] := fun j v hv => by
  match j, hv with
  | 0, hv => simp at hv; subst hv; exact h.name
  | 1, hv => simp at hv; subst hv; exact h.low
  | 2, hv => simp at hv; subst hv; exact h.high
theorem ReqAt.of_range {w : World} {b o : Nat} {q : ReqD} (h : w.rangeAt b o [.string q.name, .int .i64 q.low, .int .i64 q.high]) (hl : q.name.size ≤ maxLen) : ReqAt w b o q :=
  ⟨h 0 _ rfl, h 1 _ rfl, h 2 _ rfl, hl⟩
theorem Row.there {w : World} {b n o k : Nat} {t : TypeId} (h : Row w b t n) (hk : o + k ≤ n) : w.there b o k := fun j hj => by
  obtain ⟨v, hv⟩ := h.cell (i := o + j) (by omega)
  exact ⟨by rw [hv]; rfl, h.frozen _⟩

theorem make_eq {P : Program} (t e : TypeId) (z : Value) (size bytes : Nat) (ht : P.underlying t = some (.slice e)) (hinfo : (P.info? e).map (fun i => (i.zero, i.size, i.bytes)) = some (some z, size, bytes))
    (n : Nat) (hbytes : bytes * n ≤ 281474976710656) (h63 : n ≤ 9223372036854775807) (w : World) :
    (Instr.makeSlice t (.int .i64 (n : Int)) (.int .i64 (n : Int))).run P w = .ok (.slice (some ⟨w.heap.size, 0, none⟩) n n) (w.alloc (.cells (madeCells z.cells (n * size)) e)) := by
  obtain ⟨i, hi, hzz⟩ := Option.map_eq_some_iff.1 hinfo
  simp only [Prod.mk.injEq] at hzz
  obtain ⟨hz, hs, hb⟩ := hzz
  have hb' : (i.bytes : Int) * (n : Int) ≤ 281474976710656 := by
    have h : ((i.bytes * n : Nat) : Int) ≤ 281474976710656 := by rw [hb]; omega
    rwa [Int.natCast_mul] at h
  have hr := run_make (P := P) w t e i z ht hi hz .i64 .i64 n n (by omega) (Int.le_refl _) hb' (by omega)
  simp only [Int.toNat_natCast, hs] at hr
  exact hr

theorem row_made (w : World) (z : Array Value) (n : Nat) (t : TypeId) : Row (w.alloc (.cells (madeCells z n) t)) w.heap.size t n :=
  ⟨_, blk_alloc_new _ _, size_madeCells _ _⟩

end Go.Proofs.Ythkhaemlcmkkjay
