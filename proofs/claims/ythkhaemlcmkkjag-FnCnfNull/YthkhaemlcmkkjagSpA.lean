/- Drawn refutations: clauses and rows from a block on, and what a drawing of them has under way. -/
import Derived.Test.YthkhaemlcmkkjagDrawSf
import Derived.Test.YthkhaemlcmkkjagSatL
import Derived.Test.YthkhaemlcmkkjagGReg
import Derived.Test.YthkhaemlcmkkjagSatC
import Derived.Test.YthkhaemlcmkkjagGGrow
import Derived.Test.YthkhaemlcmkkjagSuG
import Derived.Test.YthkhaemlcmkkjagGDcn
import Derived.Maps.AppendAt
import Derived.Deep.QuietTactic
import Derived.BigQuiet
import Derived.Test.YthkhaemlcmkkjagGStO
import Derived.Test.YthkhaemlcmkkjagGImpl
import Derived.Test.YthkhaemlcmkkjagGStA
namespace Go.Proofs.Ythkhaemlcmkkjag
set_option linter.unusedVariables false
set_option linter.unusedSimpArgs false
open Go.RowKit Go.Deep

/-- Numbers from a block on. -/
def SetB (P : Nat) (w : World) (a : Option Addr) (l : List Int) : Prop := l.length ≤ 1048576 ∧ (l = [] ∨ ∃ b o, a = some ⟨b, o, none⟩ ∧ P ≤ b ∧ b < w.heap.size ∧ ∀ i, i < l.length → w.cell? ⟨b, o + i, none⟩ = some (.int .i64 (l.getD i 0)))
/-- Rows of numbers from a block on. -/
def ClsB (P : Nat) (w : World) (a : Option Addr) (cs : List (List Int)) : Prop := cs.length ≤ 1048576 ∧ (cs = [] ∨ ∃ b o, a = some ⟨b, o, none⟩ ∧ P ≤ b ∧ b < w.heap.size ∧ ∀ i, i < cs.length → ∃ a' c, w.cell? ⟨b, o + i, none⟩ = some (.slice a' (cs.getD i []).length c) ∧ SetB P w a' (cs.getD i []))
theorem SetB.set {P : Nat} {w : World} {a : Option Addr} {l : List Int} (h : SetB P w a l) : SetAt w a l :=
  ⟨h.1, h.2.imp id fun ⟨b, o, e, _, h1, h2⟩ => ⟨b, o, e, h1, h2⟩⟩
theorem ClsB.cls {P : Nat} {w : World} {a : Option Addr} {cs : List (List Int)} (h : ClsB P w a cs) : ClsAt w a cs :=
  ⟨h.1, h.2.imp id fun ⟨b, o, e, _, h1, h2⟩ => ⟨b, o, e, h1, fun i hi => by
    obtain ⟨a', c, h3, h4⟩ := h2 i hi
    exact ⟨a', c, h3, h4.set⟩⟩⟩
theorem SetB.kept {P : Nat} {w w' : World} {a : Option Addr} {l : List Int} (h : SetB P w a l) (hs : w.heap.size ≤ w'.heap.size) (hb : ∀ g, P ≤ g → g < w.heap.size → w'.heap[g]? = w.heap[g]?) : SetB P w' a l :=
  ⟨h.1, h.2.imp id fun ⟨b, o, e, hP, h1, h2⟩ => ⟨b, o, e, hP, Nat.lt_of_lt_of_le h1 hs, fun i hi => (World.cell?_of_block (w := w) (a := ⟨b, o + i, none⟩) (hb b hP h1)).trans (h2 i hi)⟩⟩
theorem ClsB.kept {P : Nat} {w w' : World} {a : Option Addr} {cs : List (List Int)} (h : ClsB P w a cs) (hs : w.heap.size ≤ w'.heap.size) (hb : ∀ g, P ≤ g → g < w.heap.size → w'.heap[g]? = w.heap[g]?) : ClsB P w' a cs :=
  ⟨h.1, h.2.imp id fun ⟨b, o, e, hP, h1, h2⟩ => ⟨b, o, e, hP, Nat.lt_of_lt_of_le h1 hs, fun i hi => by
    obtain ⟨a', c, h3, h4⟩ := h2 i hi
    exact ⟨a', c, (World.cell?_of_block (w := w) (a := ⟨b, o + i, none⟩) (hb b hP h1)).trans h3, h4.kept hs hb⟩⟩⟩
theorem SetB.nil (P : Nat) (w : World) (a : Option Addr) : SetB P w a [] := ⟨by simp, .inl rfl⟩
theorem RowI.setB {B : Nat} {w : World} {v : Value} {l : List Int} (h : RowI B w v l) (hl : l.length ≤ 1048576) : ∃ a cap, v = .slice a l.length cap ∧ SetB B w a l := by
  have hs := h.set hl
  obtain ⟨a, cap, hv, hset⟩ := hs
  refine ⟨a, cap, hv, hl, ?_⟩
  rcases hset.2 with h0 | ⟨b, o, e, h1, h2⟩
  · exact .inl h0
  rcases h.2 with ⟨hv2, h0⟩ | ⟨g, cap2, cur, hv2, hB, hc, _⟩
  · exact .inl (List.length_eq_zero_iff.1 h0)
  · rw [hv] at hv2
    simp only [Value.slice.injEq] at hv2
    rw [e] at hv2
    have hbg : b = g := by
      have := hv2.1
      simp only [Option.some.injEq, Addr.mk.injEq] at this
      exact this.1
    exact .inr ⟨b, o, e, by omega, h1, h2⟩
/-- Rows whose values lie in one row of the call's own. -/
theorem clsB_of {P P' : Nat} {w : World} {v : Value} {xs : List Value} (cs : List (List Int)) (ho : w.ownsRow P' 26 1 v cs.length xs) (hP : P ≤ P') (hl : cs.length ≤ 1048576)
    (hrow : ∀ i, i < cs.length → ∃ a' c', xs.getD i undef = .slice a' (cs.getD i []).length c' ∧ SetB P w a' (cs.getD i [])) : ∃ a c, v = .slice a cs.length c ∧ cs.length ≤ c ∧ c ≤ maxLen ∧ (a = none → c = 0) ∧ ClsB P w a cs := by
  rcases ho.2 with ⟨hv, h0⟩ | ⟨g, cap, cur, hv, hB, hc, hcap, hcm, hsz, hx⟩
  · exact ⟨none, 0, by rw [hv, h0], by omega, Nat.zero_le _, fun _ => rfl, hl, .inl (List.length_eq_zero_iff.1 h0)⟩
  · refine ⟨_, cap, hv, hcap, hcm, (fun e => by cases e), hl, ?_⟩
    by_cases h0 : cs.length = 0
    · exact .inl (List.length_eq_zero_iff.1 h0)
    refine .inr ⟨g, 0, rfl, by omega, (Array.getElem?_eq_some_iff.1 hc).1, fun i hi => ?_⟩
    obtain ⟨a', c', e1, e2⟩ := hrow i hi
    refine ⟨a', c', ?_, e2⟩
    have hcell := World.ownsRow.cellAt (hv ▸ ho) i (by omega)
    have hil : i < xs.length := by
      have h1 := congrArg List.length hx
      rw [List.length_take] at h1
      have h2 : cur.toList.length = cap * 1 := by rw [← hsz]; simp
      omega
    rw [Nat.zero_add, hcell, ← e1]
    simp [List.getD, hil]
theorem LstI.clsB {P : Nat} {w : World} {v : Value} {ls : List (List Int)} {vs : List Value} (h : LstI P w v ls vs) (hl : ls.length ≤ 1048576) (hr : ∀ c, c ∈ ls → c.length ≤ 1048576) : ∃ a c, v = .slice a ls.length c ∧ ls.length ≤ c ∧ c ≤ maxLen ∧ (a = none → c = 0) ∧ ClsB P w a ls :=
  clsB_of ls h.own (Nat.le_refl _) hl fun i hi => RowI.setB (h.row i hi) (hr _ (getD_mem (d := ([] : List Int)) hi))
/-- What DrawSatProof answers. -/
def DrawnProof (w' : World) (e : Ending) : Prop := ∃ (vars : Int) (va : Option Addr) (vc : Nat) (ls : List (List Int)) (pa : Option Addr) (ps : List (List Int)) (pc : Nat), e = .returned (.tuple #[.agg #[.int .i64 vars, .slice va ls.length vc], .slice pa ps.length pc]) ∧
  (ClsAt w' va ls ∧ (va = none → vc = 0) ∧ ls.length ≤ vc ∧ vc ≤ maxLen ∧ ls.length ≤ 26) ∧ ClsAt w' pa ps ∧ ps.length ≤ pc ∧ pc ≤ maxLen ∧ (pa = none → pc = 0) ∧ ps.length ≤ 7000
/-- Blocks below N stay, but one. -/
structure OldB (W : World) (N rs : Nat) (x : World) : Prop where
  os : x.os = W.os
  tape : x.tape = W.tape
  output : x.output = W.output
  size : W.heap.size ≤ x.heap.size
  old : ∀ g, g < N → g ≠ rs → x.heap[g]? = W.heap[g]?
theorem OldB.refl (W : World) (N rs : Nat) : OldB W N rs W := ⟨rfl, rfl, rfl, Nat.le_refl _, fun _ _ _ => rfl⟩
theorem OldB.below {W x y : World} {N N' rs : Nat} (h : OldB W N rs x) (hb : Below N' x y) (hN : N ≤ N') : OldB W N rs y :=
  ⟨hb.os.trans h.os, hb.tape.trans h.tape, hb.output.trans h.output, Nat.le_trans h.size hb.size, fun g hg hne => (hb.block g (by omega)).trans (h.old g hg hne)⟩
theorem OldB.cell {W x : World} {N rs : Nat} (h : OldB W N rs x) {p : Addr} (hp : p.block < N) (hne : p.block ≠ rs) : x.cell? p = W.cell? p := World.cell?_of_block (w := W) (h.old p.block hp hne)
theorem LstI.but {B N rs : Nat} {w w' : World} {v : Value} {ls : List (List Int)} {vs : List Value} (h : LstI B w v ls vs) (ho : OldB w N rs w') (hB : rs < B) (l1 : ∀ j, v.ownBlock = some j → j < N) (l2 : ∀ i j, i < ls.length → (vs.getD i undef).ownBlock = some j → j < N) : LstI B w' v ls vs := by
  have key : ∀ {e : TypeId} {u : Value} {n : Nat} {xs : List Value}, w.ownsRow B e 1 u n xs → (∀ j, u.ownBlock = some j → j < N) → w'.ownsRow B e 1 u n xs := fun {e u n xs} h hu => by
    obtain ⟨h1, h2⟩ := h
    refine ⟨h1, h2.imp id ?_⟩
    rintro ⟨g, cap, cur, hv, hg, hc, r⟩
    exact ⟨g, cap, cur, hv, hg, (ho.old g (hu g (by rw [hv]; rfl)) (by omega)).trans hc, r⟩
  exact ⟨h.len, key h.own l1, fun i hi => key (h.row i hi) (l2 i · hi), h.apart⟩
/-- In the midst of a drawing: all but the refutation. -/
structure DR (B rb cb rs P : Nat) (w0 : World) (m vars : Int) (V : Value) (ls : List (List Int)) (vs : List Value) (x : World) : Prop where
  rd : Rd B x rb m
  low : Below rs w0 x
  cell : x.heap[cb]? = some (cnfCells vars V)
  res : x.heap[rs]? = some (cnfCells 0 (.slice none 0 0))
  rows : LstI (rs + 1) x V ls vs
  l1 : ∀ j, V.ownBlock = some j → j < P
  l2 : ∀ i j, i < ls.length → (vs.getD i undef).ownBlock = some j → j < P
  past : P ≤ x.heap.size
section
variable {B rb cb rs P : Nat} {w0 x y : World} {m m' vars : Int} {V : Value} {ls : List (List Int)} {vs : List Value}
theorem DR.picked (h : DR B rb cb rs P w0 m vars V ls vs x) (hr : Rd B y rb m') (hw : Wrote B isRd x y) (hB : rs ≤ B) : DR B rb cb rs P w0 m' vars V ls vs y :=
  ⟨hr, h.low.trans (hw.bel hB (Nat.le_of_lt (Array.getElem?_eq_some_iff.1 h.res).1)), hw.blk h.cell cnfNoRd, hw.blk h.res cnfNoRd, h.rows.wrote hw, h.l1, h.l2, Nat.le_trans h.past hw.size⟩
theorem DR.far (h : DR B rb cb rs P w0 m vars V ls vs x) (hb : Below P x y) (hrb : rb < P) (hcb : cb < P) (hrs : rs < P) : DR B rb cb rs P w0 m vars V ls vs y :=
  ⟨h.rd.on hb.size (fun b hb' => hb.block b (by have := h.rd.past; omega)) (hb.block rb hrb), h.low.trans (hb.mono (Nat.le_of_lt hrs)), (hb.block cb hcb).trans h.cell, (hb.block rs hrs).trans h.res, h.rows.far hb h.l1 h.l2, h.l1, h.l2, Nat.le_trans h.past hb.size⟩
theorem DR.more (h : DR B rb cb rs P w0 m vars V ls vs x) (hm : m ≤ m') : DR B rb cb rs P w0 m' vars V ls vs x := ⟨h.rd.more hm, h.low, h.cell, h.res, h.rows, h.l1, h.l2, h.past⟩
/-- Both answers stand, the clauses stored where they are told. -/
theorem DR.fin2 (h : DR B rb cb rs P w0 m vars V ls vs x) (hP : rs < P) (hg : OldB x P rs y) (hl : ls.length ≤ 26) (hsh : ∀ r ∈ ls, r.length ≤ 3) {pa : Option Addr} {ps : List (List Int)} {pc : Nat}
    (hc : ClsB P y pa ps) (h1 : ps.length ≤ pc) (h2 : pc ≤ maxLen) (h3 : pa = none → pc = 0) (h4 : ps.length ≤ 7000) : DrawnProof y (.returned (.tuple #[.agg #[.int .i64 vars, V], .slice pa ps.length pc])) ∧ Below rs w0 y := by
  have hL := h.rows.but hg (Nat.lt_succ_self _) h.l1 h.l2
  obtain ⟨va, vc, hv, q1, q2, q3, hcv⟩ := hL.clsB (by omega) (fun c hc => by have := hsh c hc; omega)
  subst hv
  exact ⟨⟨vars, va, vc, ls, pa, ps, pc, rfl, ⟨hcv.cls, q3, q1, q2, hl⟩, hc.cls, h1, h2, h3, h4⟩, h.low.trans ⟨hg.os, hg.tape, hg.output, hg.size, fun g hgl => hg.old g (by omega) (by omega)⟩⟩
theorem DR.fin (h : DR B rb cb rs P w0 m vars V ls vs x) (hP : rs < P) (hl : ls.length ≤ 26) (hsh : ∀ r ∈ ls, r.length ≤ 3) {pa : Option Addr} {ps : List (List Int)} {pc : Nat}
    (hc : ClsB P x pa ps) (h1 : ps.length ≤ pc) (h2 : pc ≤ maxLen) (h3 : pa = none → pc = 0) (h4 : ps.length ≤ 7000) :
    let y := (x.setCell ⟨rs, 0, none⟩ (.int .i64 vars)).setCell ⟨rs, 1, none⟩ V
    (DrawnProof y (.returned (.tuple #[.agg #[.int .i64 vars, V], .slice pa ps.length pc])) ∧ Below rs w0 y) ∧ y.cell? ⟨rs, 0, none⟩ = some (.int .i64 vars) ∧ y.cell? ⟨rs, 1, none⟩ = some V := by
  intro y
  have e1 := blk_set h.res 0 (.int .i64 vars)
  have hy : y.heap[rs]? = some (cnfCells vars V) := by
    show ((x.setCell ⟨rs, 0, none⟩ (.int .i64 vars)).setCell ⟨rs, 1, none⟩ V).heap[rs]? = _
    rw [blk_set e1 1 _]; rfl
  obtain ⟨c0, c1, _⟩ := two hy
  have ho : ∀ g, g ≠ rs → y.heap[g]? = x.heap[g]? := fun g hg => (blk_setCell_other _ _ _ _ hg).trans (blk_setCell_other _ _ _ _ hg)
  have hz : x.heap.size = y.heap.size := by show _ = ((x.setCell ⟨rs, 0, none⟩ (.int .i64 vars)).setCell ⟨rs, 1, none⟩ V).heap.size; rw [nblk_setCell, nblk_setCell]
  have hg : OldB x P rs y := ⟨rfl, rfl, rfl, by omega, fun k hk hne => ho k hne⟩
  exact ⟨h.fin2 hP hg hl hsh (hc.kept (by omega) (fun g hgP _ => ho g (by omega))) h1 h2 h3 h4, c0, c1⟩
end
end Go.Proofs.Ythkhaemlcmkkjag
