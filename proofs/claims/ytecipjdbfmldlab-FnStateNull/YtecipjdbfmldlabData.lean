/- Plain data of packs, what is ok of them, and how they lie in memory. -/
import Derived.Test.YtecipjdbfmldlabProg
import Derived.WalkKit
import Derived.WalkSpells
import Derived.WalkLawsBesides
namespace Go.Proofs.Ytecipjdbfmldlab
set_option linter.unusedVariables false
set_option linter.unusedSimpArgs false
open Go.RowKit

theorem hide {p : Prop} (h : p) : Hid p := h
theorem unhide {p : Prop} (h : Hid p) : p := h
theorem ret_bool {a b : Bool} (h : a = b) : Ending.returned (.bool a) = .returned (.bool b) := by rw [h]

structure ReqD where
  name : ByteArray
  low : Int
  high : Int
structure PackD where
  name : ByteArray
  ver : Int
  size : Int
  deps : List (List ReqD)
  pres : List ReqD
  bans : List ReqD
structure RepoD where
  packs : List PackD
  room : Int
def dReq : ReqD := ⟨ByteArray.empty, 0, 0⟩
def dPack : PackD := ⟨ByteArray.empty, 0, 0, [], [], []⟩

def inB (n low high : Int) : Bool := decide (low ≤ n) && decide (n ≤ high)
def letterB (c : UInt8) : Bool := decide (97 ≤ (c.toNat : Int)) && decide ((c.toNat : Int) ≤ 122)
def lettersB (l : List UInt8) : Bool := l.all letterB
def nameB (s : ByteArray) : Bool := inB s.size 1 6 && lettersB s.data.toList
def reqB (q : ReqD) : Bool := nameB q.name && inB q.high 0 99 && inB q.low 0 q.high
def reqsB (l : List ReqD) : Bool := decide (l.length ≤ 4) && l.all reqB
def rowB (l : List ReqD) : Bool := decide (0 < l.length) && reqsB l
def packB (p : PackD) : Bool :=
  nameB p.name && inB p.ver 0 99 && inB p.size 0 999 && decide (p.deps.length ≤ 4) && p.deps.all rowB && reqsB p.pres && reqsB p.bans
def aheadB (a b : PackD) : Bool :=
  Op.bytesLess a.name.toList b.name.toList || ((a.name.toList == b.name.toList) && decide (a.ver < b.ver))
theorem less_irrefl : ∀ l : List UInt8, Op.bytesLess l l = false
  | [] => rfl
  | a :: l => by simp [Op.bytesLess, less_irrefl l]
def ascB (l : List PackD) : Bool := (List.range (l.length - 1)).all fun i => aheadB (l.getD i dPack) (l.getD (i + 1) dPack)
def repoB (r : RepoD) : Bool := decide (r.packs.length ≤ 8) && inB r.room 0 999 && r.packs.all packB && ascB r.packs

/-! ### How they lie in memory: requests in blocks of which S 0 holds, rows in blocks of S 1, packs in blocks of S 2 -/

structure ReqAt (w : World) (b o : Nat) (q : ReqD) : Prop where
  name : w.cell? ⟨b, o, none⟩ = some (.string q.name)
  low : w.cell? ⟨b, o + 1, none⟩ = some (.int .i64 q.low)
  high : w.cell? ⟨b, o + 2, none⟩ = some (.int .i64 q.high)
  len : q.name.size ≤ maxLen

def ReqsAt (S : Nat → Nat → Prop) (w : World) (a : Option Addr) (l : List ReqD) : Prop :=
  l.length ≤ maxLen ∧ (l = [] ∨ ∃ b o, a = some ⟨b, o, none⟩ ∧ S 0 b ∧ ∀ i, i < l.length → ReqAt w b (o + i * 3) (l.getD i dReq))

def RowsAt (S : Nat → Nat → Prop) (w : World) (a : Option Addr) (l : List (List ReqD)) : Prop :=
  l.length ≤ maxLen ∧ (l = [] ∨ ∃ b o, a = some ⟨b, o, none⟩ ∧ S 1 b ∧ ∀ i, i < l.length → ∃ a' c, w.cell? ⟨b, o + i, none⟩ = some (.slice a' (l.getD i []).length c) ∧ ReqsAt S w a' (l.getD i []))

structure PackVal (S : Nat → Nat → Prop) (w : World) (a1 a2 a3 : Option Addr) (p : PackD) : Prop where
  len : p.name.size ≤ maxLen
  deps : RowsAt S w a1 p.deps
  pres : ReqsAt S w a2 p.pres
  bans : ReqsAt S w a3 p.bans

/-- The six cells of a pack. -/
def packCells (p : PackD) (a1 : Option Addr) (c1 : Nat) (a2 : Option Addr) (c2 : Nat) (a3 : Option Addr) (c3 : Nat) : Array Value :=
  #[.string p.name, .int .i64 p.ver, .int .i64 p.size, .slice a1 p.deps.length c1, .slice a2 p.pres.length c2, .slice a3 p.bans.length c3]

structure PackCells (w : World) (b o : Nat) (p : PackD) (a1 : Option Addr) (c1 : Nat) (a2 : Option Addr) (c2 : Nat) (a3 : Option Addr) (c3 : Nat) : Prop where
  name : w.cell? ⟨b, o, none⟩ = some (.string p.name)
  ver : w.cell? ⟨b, o + 1, none⟩ = some (.int .i64 p.ver)
  size : w.cell? ⟨b, o + 2, none⟩ = some (.int .i64 p.size)
  deps : w.cell? ⟨b, o + 3, none⟩ = some (.slice a1 p.deps.length c1)
  pres : w.cell? ⟨b, o + 4, none⟩ = some (.slice a2 p.pres.length c2)
  bans : w.cell? ⟨b, o + 5, none⟩ = some (.slice a3 p.bans.length c3)

def PackAt (S : Nat → Nat → Prop) (w : World) (b o : Nat) (p : PackD) : Prop :=
  ∃ a1 c1 a2 c2 a3 c3, PackCells w b o p a1 c1 a2 c2 a3 c3 ∧ PackVal S w a1 a2 a3 p

def PacksAt (S : Nat → Nat → Prop) (w : World) (a : Option Addr) (l : List PackD) : Prop :=
  l.length ≤ maxLen ∧ (l = [] ∨ ∃ b o, a = some ⟨b, o, none⟩ ∧ S 2 b ∧ ∀ i, i < l.length → PackAt S w b (o + i * 6) (l.getD i dPack))

/-! ### They stay where the blocks stay -/

theorem ReqAt.stay {w w' : World} {b o : Nat} {q : ReqD} (h : ReqAt w b o q) (hb : w'.heap[b]? = w.heap[b]?) : ReqAt w' b o q :=
  ⟨by rw [World.cell?_of_block (w := w) (a := ⟨b, o, none⟩) hb]; exact h.name, by rw [World.cell?_of_block (w := w) (a := ⟨b, o + 1, none⟩) hb]; exact h.low,
   by rw [World.cell?_of_block (w := w) (a := ⟨b, o + 2, none⟩) hb]; exact h.high, h.len⟩

theorem ReqsAt.stay {S : Nat → Nat → Prop} {w w' : World} {a : Option Addr} {l : List ReqD} (h : ReqsAt S w a l) (hb : ∀ k b, S k b → w'.heap[b]? = w.heap[b]?) : ReqsAt S w' a l := by
  obtain ⟨h0, h⟩ := h
  refine ⟨h0, ?_⟩
  rcases h with h | ⟨b, o, ha, hS, h⟩
  · exact Or.inl h
  · exact Or.inr ⟨b, o, ha, hS, fun i hi => (h i hi).stay (hb _ b hS)⟩

theorem RowsAt.stay {S : Nat → Nat → Prop} {w w' : World} {a : Option Addr} {l : List (List ReqD)} (h : RowsAt S w a l) (hb : ∀ k b, S k b → w'.heap[b]? = w.heap[b]?) : RowsAt S w' a l := by
  obtain ⟨h0, h⟩ := h
  refine ⟨h0, ?_⟩
  rcases h with h | ⟨b, o, ha, hS, h⟩
  · exact Or.inl h
  · refine Or.inr ⟨b, o, ha, hS, fun i hi => ?_⟩
    obtain ⟨a', c, h1, h2⟩ := h i hi
    exact ⟨a', c, by rw [World.cell?_of_block (w := w) (a := ⟨b, o + i, none⟩) (hb _ b hS)]; exact h1, h2.stay hb⟩

theorem PackVal.stay {S : Nat → Nat → Prop} {w w' : World} {a1 a2 a3 : Option Addr} {p : PackD} (h : PackVal S w a1 a2 a3 p) (hb : ∀ k b, S k b → w'.heap[b]? = w.heap[b]?) : PackVal S w' a1 a2 a3 p :=
  ⟨h.len, h.deps.stay hb, h.pres.stay hb, h.bans.stay hb⟩

theorem PackCells.stay {w w' : World} {b o : Nat} {p : PackD} {a1 : Option Addr} {c1 : Nat} {a2 : Option Addr} {c2 : Nat} {a3 : Option Addr} {c3 : Nat} (h : PackCells w b o p a1 c1 a2 c2 a3 c3) (hb : w'.heap[b]? = w.heap[b]?) : PackCells w' b o p a1 c1 a2 c2 a3 c3 :=
  have e : ∀ k, w'.cell? ⟨b, k, none⟩ = w.cell? ⟨b, k, none⟩ := fun k => World.cell?_of_block (w := w) (a := ⟨b, k, none⟩) hb
  ⟨by rw [e]; exact h.name, by rw [e]; exact h.ver, by rw [e]; exact h.size, by rw [e]; exact h.deps, by rw [e]; exact h.pres, by rw [e]; exact h.bans⟩

theorem PackAt.stay {S : Nat → Nat → Prop} {w w' : World} {b o : Nat} {p : PackD} (h : PackAt S w b o p) (hS : S 2 b) (hb : ∀ k b, S k b → w'.heap[b]? = w.heap[b]?) : PackAt S w' b o p := by
  obtain ⟨a1, c1, a2, c2, a3, c3, h1, h2⟩ := h
  exact ⟨a1, c1, a2, c2, a3, c3, h1.stay (hb _ b hS), h2.stay hb⟩

theorem PacksAt.stay {S : Nat → Nat → Prop} {w w' : World} {a : Option Addr} {l : List PackD} (h : PacksAt S w a l) (hb : ∀ k b, S k b → w'.heap[b]? = w.heap[b]?) : PacksAt S w' a l := by
  obtain ⟨h0, h⟩ := h
  refine ⟨h0, ?_⟩
  rcases h with h | ⟨b, o, ha, hS, h⟩
  · exact Or.inl h
  · exact Or.inr ⟨b, o, ha, hS, fun i hi => (h i hi).stay hS hb⟩

/-! ### Fewer blocks are as good -/

theorem ReqsAt.wider {S T : Nat → Nat → Prop} {w : World} {a : Option Addr} {l : List ReqD} (h : ReqsAt S w a l) (hST : ∀ k b, S k b → T k b) : ReqsAt T w a l := by
  obtain ⟨h0, h⟩ := h
  exact ⟨h0, h.imp id fun ⟨b, o, ha, hS, h⟩ => ⟨b, o, ha, hST _ b hS, h⟩⟩
theorem RowsAt.wider {S T : Nat → Nat → Prop} {w : World} {a : Option Addr} {l : List (List ReqD)} (h : RowsAt S w a l) (hST : ∀ k b, S k b → T k b) : RowsAt T w a l := by
  obtain ⟨h0, h⟩ := h
  refine ⟨h0, h.imp id fun ⟨b, o, ha, hS, h⟩ => ⟨b, o, ha, hST _ b hS, fun i hi => ?_⟩⟩
  obtain ⟨a', c, h1, h2⟩ := h i hi
  exact ⟨a', c, h1, h2.wider hST⟩
theorem PackVal.wider {S T : Nat → Nat → Prop} {w : World} {a1 a2 a3 : Option Addr} {p : PackD} (h : PackVal S w a1 a2 a3 p) (hST : ∀ k b, S k b → T k b) : PackVal T w a1 a2 a3 p :=
  ⟨h.len, h.deps.wider hST, h.pres.wider hST, h.bans.wider hST⟩
theorem PackAt.wider {S T : Nat → Nat → Prop} {w : World} {b o : Nat} {p : PackD} (h : PackAt S w b o p) (hST : ∀ k b, S k b → T k b) : PackAt T w b o p := by
  obtain ⟨a1, c1, a2, c2, a3, c3, h1, h2⟩ := h
  exact ⟨a1, c1, a2, c2, a3, c3, h1, h2.wider hST⟩
theorem PacksAt.wider {S T : Nat → Nat → Prop} {w : World} {a : Option Addr} {l : List PackD} (h : PacksAt S w a l) (hST : ∀ k b, S k b → T k b) : PacksAt T w a l := by
  obtain ⟨h0, h⟩ := h
  exact ⟨h0, h.imp id fun ⟨b, o, ha, hS, h⟩ => ⟨b, o, ha, hST _ b hS, fun i hi => (h i hi).wider hST⟩⟩

/-- All blocks that are there. -/
def Old (w : World) : Nat → Nat → Prop := fun _ b => b < w.heap.size

theorem Old.of {w w' : World} (h : Below w.heap.size w w') : ∀ k b, Old w k b → w'.heap[b]? = w.heap[b]? := fun _ b hb => h.block b hb
theorem Old.grow {w w' : World} (h : Below w.heap.size w w') : ∀ k b, Old w k b → Old w' k b := fun _ _ hb => Nat.lt_of_lt_of_le hb h.size

theorem ReqsAt.on {w w' : World} {a : Option Addr} {l : List ReqD} (h : ReqsAt (Old w) w a l) (hb : Below w.heap.size w w') : ReqsAt (Old w') w' a l := (h.stay (Old.of hb)).wider (Old.grow hb)
theorem RowsAt.on {w w' : World} {a : Option Addr} {l : List (List ReqD)} (h : RowsAt (Old w) w a l) (hb : Below w.heap.size w w') : RowsAt (Old w') w' a l := (h.stay (Old.of hb)).wider (Old.grow hb)
theorem PackVal.on {w w' : World} {a1 a2 a3 : Option Addr} {p : PackD} (h : PackVal (Old w) w a1 a2 a3 p) (hb : Below w.heap.size w w') : PackVal (Old w') w' a1 a2 a3 p := (h.stay (Old.of hb)).wider (Old.grow hb)
theorem PacksAt.on {w w' : World} {a : Option Addr} {l : List PackD} (h : PacksAt (Old w) w a l) (hb : Below w.heap.size w w') : PacksAt (Old w') w' a l := (h.stay (Old.of hb)).wider (Old.grow hb)

theorem getD_mem {α : Type} {l : List α} {i : Nat} {d : α} (h : i < l.length) : l.getD i d ∈ l := by
  simp [List.getD, h]
theorem all_take_succ {α : Type} {l : List α} {d : α} {f : α → Bool} {k : Nat} (h : k < l.length) : (l.take (k + 1)).all f = ((l.take k).all f && f (l.getD k d)) := by
  rw [List.take_succ_eq_append_getElem h, List.all_append]
  simp [List.getD, h]
end Go.Proofs.Ytecipjdbfmldlab
