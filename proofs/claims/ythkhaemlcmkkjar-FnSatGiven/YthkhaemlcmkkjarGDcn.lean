/- Rows of numbers: one row more. As RegE, where the class of worlds knows which operations are done, and each operation keeps only what is done. The specification's drawn clauses. DrawCnfUnits: drawn clauses and literals. Numbers compared, over any numbers. -/
import Derived.Test.YthkhaemlcmkkjarGStL
import Derived.Test.YthkhaemlcmkkjarGRn
import Derived.Test.YthkhaemlcmkkjarGDrawK
import Derived.Test.YthkhaemlcmkkjarGCn
import Derived.Test.YthkhaemlcmkkjarGReg
import Derived.Test.YthkhaemlcmkkjarGStA
import Derived.Test.YthkhaemlcmkkjarGBase
import Derived.BigQuiet
namespace Go.Proofs.Ythkhaemlcmkkjar
set_option linter.unusedVariables false
set_option linter.unusedSimpArgs false
open Go.RowKit Go.Deep

theorem LstI.snoc {B : Nat} {w w' : World} {v v' u : Value} {ls : List (List Int)} {vs : List Value} {r : List Int} {B2 : Nat} (h : LstI B w v ls vs) (hr : RowI B2 w u r) (hB : B ≤ B2) (hold : ∀ i j, i < ls.length → (vs.getD i undef).ownBlock = some j → j < B2) (ho : w'.ownsRow B 26 1 v' (ls.length + 1) (vs ++ [u])) (hg : w.grownBy w' v.ownBlock) : LstI B w' v' (ls ++ [r]) (vs ++ [u]) := by
  have gl : ∀ i, i < ls.length → (vs ++ [u]).getD i undef = vs.getD i undef := fun i hi => by
    have : i < vs.length := by rw [h.len]; exact hi
    simp [List.getD, List.getElem?_append, this]
  have ge : (vs ++ [u]).getD ls.length undef = u := by rw [← h.len]; simp [List.getD]
  have gl' : ∀ i, i < ls.length → (ls ++ [r]).getD i [] = ls.getD i [] := fun i hi => by simp [List.getD, List.getElem?_append, hi]
  have ge' : (ls ++ [r]).getD ls.length [] = r := by simp [List.getD]
  refine ⟨by simp [h.len], by simpa using ho, fun i hi => ?_, fun i j hij hj => ?_⟩
  · by_cases e : i < ls.length
    · rw [gl i e, gl' i e]
      exact row_kept (h.row i e) h.own hg
    · have : i = ls.length := by simp at hi; omega
      subst this
      rw [ge, ge']
      exact row_kept (row_base hr hB) h.own hg
  · by_cases e : j < ls.length
    · rw [gl i (by omega), gl j e]
      exact h.apart i j hij e
    · have : j = ls.length := by simp at hj; omega
      subst this
      rw [gl i hij, ge]
      cases hv : (vs.getD i undef).ownBlock with
      | none => exact Or.inl rfl
      | some b =>
        right
        intro e2
        have h1 := hold i b hij hv
        have h2 := (World.ownsRow.lt hr b e2.symm).1
        omega
theorem LstI.lt {B : Nat} {w : World} {v : Value} {ls : List (List Int)} {vs : List Value} (h : LstI B w v ls vs) : ∀ i j, i < ls.length → (vs.getD i undef).ownBlock = some j → j < w.heap.size := fun i j hi hj => (World.ownsRow.lt (h.row i hi) j hj).2
end Go.Proofs.Ythkhaemlcmkkjar

namespace Go.Proofs.Ythkhaemlcmkkjar
set_option linter.unusedVariables false
set_option linter.unusedSimpArgs false

variable {P : Program} {ops : Array Oper} {Q : Exit → Act → World → Prop}

/-- Those done, and one more. -/
def doneOne (L : Nat → Bool) (i : Nat) : Nat → Bool := fun j => j == i || L j
theorem wp_region_headF {id : Nat} (m : Nat) {a0 : Act} {w0 : World} (hm : P.follows .mixedOrders = true) (hp : bareB ops = true) (hpg : plainN ops = true) (hs : slotsB ops a0.tmps.size = true) (ht : tailB ops m = true)
    (T : Nat → Value → World → Prop) (C : (Nat → Bool) → World → Prop) (hC : C (fun _ => false) w0.drew)
    (hop : ∀ (i : Nat) (o : Oper), i < m → ops[i]? = some o → ∀ (a : Act) (w : World) (L : Nat → Bool), L i = false → Agree ops a0 a → C L w → (∀ e ∈ o.after, Region.binds .any e = true → T e.on (valOf ops a e.on) w) →
      o.wp P a w (fun a' w' => ∃ v, a' = a.put o.dst v ∧ T i (o.dst.elim undef fun _ => v) w' ∧ C (doneOne L i) w' ∧ ∀ j v, j < m → L j = true → T j v w → T j v w') Q)
    (hend : ∀ a w, Agree ops a0 a → (∀ i, i < m → T i (valOf ops a i) w) → (∃ L, (∀ i, i < m → L i = true) ∧ C L w) → wpList P ops Q (ops.toList.drop m) a w) : (Code.region id ops true).wp P Q a0 w0 := by
  simp only [tailB, Bool.and_eq_true, decide_eq_true_eq] at ht
  obtain ⟨⟨⟨hn, hsink⟩, hchain⟩, hseq⟩ := ht
  have head : ∀ (f : Nat) (listed : Array Bool) (a : Act) (w : World), leftOver m listed = f → f ≤ m → HeadInv .any ops m listed → Agree ops a0 a → C (fun j => listed.getD j false) w → (∀ i, i < m → listed.getD i false = true → T i (valOf ops a i) w) → wpAny P .any ops Q (f + (ops.size - m)) listed a w := by
    intro f
    induction f with
    | zero =>
      intro listed a w hf _ inv ha hCw hT
      have hall : ∀ i, i < m → listed.getD i false = true := fun i hi => by
        have h0 := List.countP_eq_zero.1 hf i (List.mem_range.2 hi)
        have hil : i < listed.size := by rw [inv.size]; omega
        simp [hil] at h0 ⊢
        exact h0
      have hl : listed = headL ops.size m := by
        apply Array.ext_getElem?
        intro i
        by_cases hi : i < ops.size
        · have hil : i < listed.size := by rw [inv.size]; exact hi
          by_cases hin : i < m
          · have := hall i hin
            simp [hil] at this
            simp [headL, hi, hil, this, hin]
          · have := inv.tail i (by omega) hi
            simp [hil] at this
            simp [headL, hi, hil, this, hin]
        · rw [Array.getElem?_eq_none (by rw [inv.size]; omega), Array.getElem?_eq_none (by simp [headL]; omega)]
      have h := hend a w ha (fun i hi => hT i hi (hall i hi)) ⟨_, hall, hCw⟩
      rw [hl]
      have hdl : (ops.toList.drop m).length = ops.size - m := by simp
      have := wpAny_of_seq (P := P) (ops := ops) (md := .any) (Q' := Q) (ops.toList.drop m) m (headL ops.size m) a w (fun j => by simp [List.getElem?_drop]) (by rw [hdl]; exact hseq) h
      rw [hdl] at this
      simpa using this
    | succ f ih =>
      intro listed a w hf hfm inv ha hCw hT
      obtain ⟨y, hu, hun⟩ : ∃ y, y < m ∧ listed.getD y true = false := by
        have : 0 < leftOver m listed := by omega
        obtain ⟨y, hu, h⟩ := List.countP_pos_iff.1 this
        exact ⟨y, List.mem_range.1 hu, by simpa using h⟩
      rw [show f + 1 + (ops.size - m) = (f + (ops.size - m)) + 1 by omega]
      refine ⟨fun hr => ?_, fun i hi => ?_⟩
      · exfalso
        have := allN_listed hpg hr inv.size y (by omega)
        rw [getD_both hun] at this
        cases this
      · have hin1 : i < m := by
          rcases Nat.lt_or_ge i m with h | h
          · exact h
          · exact absurd hi (tail_waits hsink hchain hn inv _ y rfl hu hun i h)
        obtain ⟨hiun, o, ho, hdeps⟩ := mem_ready.1 hi
        have hdep : ∀ e ∈ o.after, Region.binds .any e = true → T e.on (valOf ops a e.on) w := fun e hee hb => hT e.on (Nat.lt_trans ((plainN_at hpg ho).1 e hee hb) hin1) (hdeps e hee hb)
        have hif : listed.getD i false = false := by
          rw [Array.getD_eq_getD_getElem?] at hiun ⊢
          cases hli : listed[i]? with
          | none => rfl
          | some b => rw [hli] at hiun; simpa using hiun
        have hw := hop i o hin1 ho a w (fun j => listed.getD j false) hif ha hCw hdep
        unfold wpOp
        simp only [ho]
        rw [if_pos (by simp [Region.wanted, bare_at hp ho])]
        refine Or.inl (Oper.wp_mono ?_ hw)
        rintro a' w' ⟨v, rfl, hv, hc', hE'⟩
        refine ih _ _ _ (by have := left_step' hi hin1; omega) (by omega) (inv.set hi hin1) (ha.put ho v) (by
          have e : (fun j => (listed.setIfInBounds i true).getD j false) = doneOne (fun j => listed.getD j false) i := by
            funext j
            by_cases e : j = i
            · subst e
              have : j < listed.size := by rw [inv.size]; omega
              simp [doneOne, this]
            · simp only [doneOne]
              rw [getD_set_ne false (Ne.symm e)]
              simp [e]
          rw [e]
          exact hc') ?_
        intro j hj hjl
        by_cases e : j = i
        · subst e
          rw [valOf_put_same ho (fun d hd => by rw [ha.size]; exact slots_at hs (i := j) (by simp [slotOf, ho, hd]))]
          exact hv
        · rw [valOf_put_otherN hpg ho e]
          have hjl' : listed.getD j false = true := by
            rw [← hjl]
            exact (getD_set_ne false (Ne.symm e)).symm
          exact hE' j _ hj hjl' (hT j hj hjl')
  refine wp_region_any hm ?_
  have hl0 : leftOver m (Array.replicate ops.size false) = m := by
    unfold leftOver
    rw [List.countP_eq_length.2, List.length_range]
    intro i hi
    have := List.mem_range.1 hi
    have : i < ops.size := by omega
    simp [this]
  have := head m (Array.replicate ops.size false) a0 w0.drew hl0 (Nat.le_refl _) ⟨by simp, fun j oj _ hl => (by rw [getD_replicate_false] at hl; cases hl), fun t _ ht => getD_in (by simpa using ht) (getD_replicate_false _ _)⟩ (Agree.refl _ _) (by
    have e : (fun j => (Array.replicate ops.size false).getD j false) = fun _ => false := by funext j; exact getD_replicate_false _ _
    rw [e]; exact hC) (fun i _ hl => by rw [getD_replicate_false] at hl; cases hl)
  rw [show m + (ops.size - m) = ops.size by omega] at this
  exact this
end Go.Proofs.Ythkhaemlcmkkjar

namespace Go.Proofs.Ythkhaemlcmkkjar
set_option linter.unusedVariables false
set_option linter.unusedSimpArgs false
open Go.RowKit Go.Deep

theorem Try.infoJ : (Try.prog.info? 3).map (fun i => (i.zero, i.size, i.bytes)) = some (some (.int .i64 0), 1, 8) := by kernel_rfl
theorem Try.infoJJ : (Try.prog.info? 26).map (fun i => (i.zero, i.size, i.bytes)) = some (some (.slice none 0 0), 1, 24) := by kernel_rfl
theorem numNoRd : (3 : TypeId) ≠ 103 := by decide
theorem rowNoRd : (26 : TypeId) ≠ 103 := by decide
theorem cnfNoRd : (41 : TypeId) ≠ 103 := by decide
theorem RowI.wrote2 {B B' : Nat} {w w' : World} {v : Value} {l : List Int} (h : RowI B w v l) (hw : Wrote B' isRd w w') : RowI B w' v l := owns_wrote h hw numNoRd
theorem LstI.wrote {B B' : Nat} {w w' : World} {v : Value} {ls : List (List Int)} {vs : List Value} (h : LstI B w v ls vs) (hw : Wrote B' isRd w w') : LstI B w' v ls vs :=
  ⟨h.len, owns_wrote h.own hw rowNoRd, fun i hi => RowI.wrote2 (h.row i hi) hw, h.apart⟩
theorem LstI.cls {B : Nat} {w : World} {v : Value} {ls : List (List Int)} {vs : List Value} (h : LstI B w v ls vs) (hl : ls.length ≤ 1048576) (hr : ∀ r ∈ ls, r.length ≤ 3) : ∃ a cap, v = .slice a ls.length cap ∧ ClsAt w a ls := by
  obtain ⟨a, cap, hv⟩ := h.slice
  refine ⟨a, cap, hv, hl, ?_⟩
  by_cases h0 : ls.length = 0
  · exact Or.inl (List.length_eq_zero_iff.1 h0)
  obtain ⟨g, c, hg, _, hgl, _⟩ := h.cell (i := 0) (by omega)
  rw [hv] at hg
  injection hg with ea
  refine Or.inr ⟨g, 0, ea, hgl, fun i hi => ?_⟩
  obtain ⟨g', c', hg', _, _, hc⟩ := h.cell hi
  rw [hv] at hg'
  injection hg' with ea'
  rw [ea] at ea'
  simp at ea'
  subst ea'
  obtain ⟨a', c'', he, hs⟩ := RowI.set (h.row i hi) (by have := hr _ (getD_mem (d := []) hi); omega)
  exact ⟨a', c'', by rw [Nat.zero_add, hc, he], hs⟩
theorem LstI.zero (B : Nat) (w : World) : LstI B w (.slice none 0 0) [] [] := ⟨rfl, World.ownsRow_nil _ _ _ _, fun i hi => by simp at hi, fun i j _ hj => by simp at hj⟩
theorem LstI.set2 {B : Nat} {w : World} {v : Value} {ls : List (List Int)} {vs : List Value} (h : LstI B w v ls vs) {b : Nat} (hb : b < B) (i : Nat) (u : Value) : LstI B (w.setCell ⟨b, i, none⟩ u) v ls vs := by
  have key : ∀ {e : TypeId} {x : Value} {n : Nat} {xs : List Value}, w.ownsRow B e 1 x n xs → (w.setCell ⟨b, i, none⟩ u).ownsRow B e 1 x n xs := fun {e x n xs} ho => by
    obtain ⟨h1, h2⟩ := ho
    refine ⟨h1, h2.imp id ?_⟩
    rintro ⟨g, cap, cur, hv, hg, hc, r⟩
    exact ⟨g, cap, cur, hv, hg, (blk_setCell_other _ _ _ _ (by show g ≠ b; omega)).trans hc, r⟩
  exact ⟨h.len, key h.own, fun i hi => key (h.row i hi), h.apart⟩

def cnfCells (vars : Int) (v : Value) : Obj := .cells #[.int .i64 vars, v] 41 (0, 0)
/-- In the midst of a drawing of clauses: their variable at block cb. -/
structure CS (B rb cb rs : Nat) (w0 : World) (m vars : Int) (v : Value) (ls : List (List Int)) (vs : List Value) (x : World) : Prop where
  rd : Rd B x rb m
  wrote : Wrote B isRd w0 x
  cell : x.heap[cb]? = some (cnfCells vars v)
  res : x.heap[rs]? = some (cnfCells 0 (.slice none 0 0))
  rows : LstI (cb + 1) x v ls vs
  short : ∀ r ∈ ls, r.length ≤ 3
section
variable {B rb cb rs : Nat} {w0 x y : World} {m m' vars : Int} {v : Value} {ls : List (List Int)} {vs : List Value}
theorem CS.on (h : CS B rb cb rs w0 m vars v ls vs x) (hb : Below x.heap.size x y) : CS B rb cb rs w0 m vars v ls vs y :=
  ⟨h.rd.below hb, h.wrote.trans (Wrote.of_below hb), (hb.block cb (Array.getElem?_eq_some_iff.1 h.cell).1).trans h.cell, (hb.block rs (Array.getElem?_eq_some_iff.1 h.res).1).trans h.res, h.rows.on hb, h.short⟩
theorem CS.alloc (h : CS B rb cb rs w0 m vars v ls vs x) (o : Obj) : CS B rb cb rs w0 m vars v ls vs (x.alloc o) := h.on ((Below.refl _ _).alloc (Nat.le_refl _) _)
theorem CS.picked (h : CS B rb cb rs w0 m vars v ls vs x) (hr : Rd B y rb m') (hw : Wrote B isRd x y) : CS B rb cb rs w0 m' vars v ls vs y :=
  ⟨hr, h.wrote.trans hw, hw.blk h.cell cnfNoRd, hw.blk h.res cnfNoRd, h.rows.wrote hw, h.short⟩
theorem CS.more (h : CS B rb cb rs w0 m vars v ls vs x) (hm : m ≤ m') : CS B rb cb rs w0 m' vars v ls vs x := ⟨h.rd.more hm, h.wrote, h.cell, h.res, h.rows, h.short⟩
theorem CS.far {s : Nat} (h : CS B rb cb rs w0 m vars v ls vs x) (hb : Below s x y) (h0 : w0.heap.size ≤ s) (h1 : rb < s) (h2 : cb < s) (h3 : rs < s) (h4 : ∀ j, v.ownBlock = some j → j < s) (h5 : ∀ i j, i < ls.length → (vs.getD i undef).ownBlock = some j → j < s) : CS B rb cb rs w0 m vars v ls vs y :=
  ⟨h.rd.on hb.size (fun b hb' => hb.block b (by have := h.rd.past; omega)) (hb.block rb h1), h.wrote.own (hb.mono h0), (hb.block cb h2).trans h.cell, (hb.block rs h3).trans h.res, h.rows.far hb h4 h5, h.short⟩
/-- One row more, stored. -/
theorem CS.snoc {v' u : Value} {r : List Int} {B2 : Nat} (h : CS B rb cb rs w0 m vars v ls vs x) (hr : RowI B2 x u r) (hB : cb + 1 ≤ B2) (hold : ∀ i j, i < ls.length → (vs.getD i undef).ownBlock = some j → j < B2)
    (ho : y.ownsRow (cb + 1) 26 1 v' (ls.length + 1) (vs ++ [u])) (hg : x.grownBy y v.ownBlock) (h3 : r.length ≤ 3) (hcb : w0.heap.size ≤ cb) (hrb : rb < cb) (hrs : rs < cb) : CS B rb cb rs w0 m vars v' (ls ++ [r]) (vs ++ [u]) (y.setCell ⟨cb, 1, none⟩ v') ∧ y.heap[cb]? = some (cnfCells vars v) := by
  have hn := LstI.snoc h.rows hr hB hold ho hg
  have hblk : ∀ j, v.ownBlock = some j → cb < j := fun j hj => (World.ownsRow.lt h.rows.own j hj).1
  have hpB := h.rd.past
  have hcl : cb < x.heap.size := (Array.getElem?_eq_some_iff.1 h.cell).1
  have c1 : y.heap[cb]? = some (cnfCells vars v) := (hg.block cb hcl (fun e => by have := hblk cb e.symm; omega)).trans h.cell
  have hW : Wrote B isRd w0 y := h.wrote.grown hg (fun j hj => by have := hblk j hj; omega)
  refine ⟨⟨(h.rd.grown hg (fun j hj => by have := hblk j hj; omega)).set (by omega) (by omega) _ _, hW.own (Below.setCell (Below.refl _ _) (by exact hcb) _), ?_, ?_, hn.set2 (by omega) _ _, ?_⟩, c1⟩
  · rw [blk_set c1]; rfl
  · refine (blk_setCell_other _ _ _ _ (by show rs ≠ cb; omega)).trans ((hg.block rs (by omega) (fun e => by have := hblk rs e.symm; omega)).trans h.res)
  · intro q hq
    rcases List.mem_append.1 hq with hq | hq
    · exact h.short q hq
    · simp at hq; subst hq; exact h3
theorem CS.setv (h : CS B rb cb rs w0 m vars v ls vs x) (z : Int) (hcb : w0.heap.size ≤ cb) (hrb : rb < cb) (hrs : rs < cb) : CS B rb cb rs w0 m z v ls vs (x.setCell ⟨cb, 0, none⟩ (.int .i64 z)) := by
  have hpB := h.rd.past
  refine ⟨h.rd.set (by omega) (by omega) _ _, h.wrote.own (Below.setCell (Below.refl _ _) (by exact hcb) _), ?_, (blk_setCell_other _ _ _ _ (by show rs ≠ cb; omega)).trans h.res, h.rows.set2 (by omega) _ _, h.short⟩
  rw [blk_set h.cell]; rfl
end
/-- What l71Cnf answers. -/
def DrawnCnf (B : Nat) (w' : World) (e : Ending) : Prop := ∃ (vars : Int) (v : Value) (ls : List (List Int)) (vs : List Value), e = .returned (.agg #[.int .i64 vars, v]) ∧ LstI B w' v ls vs ∧ ls.length ≤ 26 ∧ (∀ r ∈ ls, r.length ≤ 3)
theorem CS.fin {B rb cb rs : Nat} {w0 x : World} {m vars : Int} {v : Value} {ls : List (List Int)} {vs : List Value} (h : CS B rb cb rs w0 m vars v ls vs x) (hl : ls.length ≤ 26) (hrs : w0.heap.size ≤ rs) (hrb : rb < rs) (hcb : rs < cb) (hp : B ≤ rb) :
    let y := (x.setCell ⟨rs, 0, none⟩ (.int .i64 vars)).setCell ⟨rs, 1, none⟩ v
    DrawnCnf w0.heap.size y (.returned (.agg #[.int .i64 vars, v])) ∧ Rd B y rb m ∧ Wrote B isRd w0 y ∧ y.cell? ⟨rs, 0, none⟩ = some (.int .i64 vars) ∧ y.cell? ⟨rs, 1, none⟩ = some v := by
  intro y
  have h1 := blk_set h.res 0 (.int .i64 vars)
  have hy : y.heap[rs]? = some (cnfCells vars v) := by
    show ((x.setCell ⟨rs, 0, none⟩ (.int .i64 vars)).setCell ⟨rs, 1, none⟩ v).heap[rs]? = _
    rw [blk_set h1 1 _]; rfl
  obtain ⟨c0, c1, _⟩ := two hy
  have hL := (h.rows.set2 (b := rs) (by omega) 0 (.int .i64 vars)).set2 (b := rs) (by omega) 1 v
  refine ⟨⟨vars, v, ls, vs, rfl, ⟨hL.len, row_base hL.own (by omega), fun i hi => row_base (hL.row i hi) (by omega), hL.apart⟩, hl, h.short⟩, ?_, ?_, c0, c1⟩
  · exact (h.rd.set (by omega) (by omega) _ _).set (by omega) (by omega) _ _
  · exact h.wrote.own (Below.setCell (Below.setCell (Below.refl _ _) (by exact hrs) _) (by exact hrs) _)
/-- What the operations leave where a spoilt literal is put behind. -/
def TC (cb rb s0 : Nat) (vars : Int) (V : Value) (ls : List (List Int)) (vs : List Value) (i : Nat) (v : Value) (x : World) : Prop := match i with
  | 0 => v = .pointer (some ⟨cb, 1, none⟩)
  | 1 => v = V
  | 2 => v = .pointer (some ⟨cb, 0, none⟩)
  | 3 => v = .int .i64 vars
  | 4 => ∃ z : Int, v = .int .i64 z
  | 5 => v = .pointer (some ⟨cb, 0, none⟩)
  | 6 => v = .int .i64 vars
  | 7 => ∃ z : Int, v = .int .i64 z
  | 8 => ∃ z : Int, v = .int .i64 z
  | 9 => ∃ (g : Nat) (z1 z2 : Int), v = .slice (some ⟨g, 0, none⟩) 3 3 ∧ s0 ≤ g ∧ x.heap[g]? = some (.cells #[.int .i64 0, .int .i64 z1, .int .i64 z2] 3 (0, 0))
  | 10 => v = .pointer (some ⟨rb, 0, none⟩)
  | 11 => ∃ r : Nat, v = .int .i64 r ∧ r < 3
  | 12 => ∃ (g r : Nat) (z1 z2 : Int), v = .pointer (some ⟨g, r, none⟩) ∧ r < 3 ∧ s0 ≤ g ∧ x.heap[g]? = some (.cells #[.int .i64 0, .int .i64 z1, .int .i64 z2] 3 (0, 0))
  | 13 => ∃ z : Int, v = .int .i64 z
  | 14 => ∃ (g : Nat) (z : Int), v = .slice (some ⟨g, 0, none⟩) 1 1 ∧ s0 ≤ g ∧ x.heap[g]? = some (.cells #[.int .i64 z] 3 (0, 0))
  | 15 => ∃ (g g2 : Nat) (z : Int), v = .slice (some ⟨g, 0, none⟩) 1 1 ∧ s0 ≤ g ∧ s0 ≤ g2 ∧ x.heap[g]? = some (.cells #[.slice (some ⟨g2, 0, none⟩) 1 1] 26 (0, 0)) ∧ x.heap[g2]? = some (.cells #[.int .i64 z] 3 (0, 0))
  | 16 => ∃ (a : Option Addr) (c : Nat) (u : Value) (z : Int), v = .slice a (ls.length + 1) c ∧ LstI (cb + 1) x v (ls ++ [[z]]) (vs ++ [u])
  | 17 => v = .pointer (some ⟨cb, 1, none⟩)
  | _ => True
theorem TC_keep {cb rb s0 : Nat} {vars : Int} {V : Value} {ls : List (List Int)} {vs : List Value} {i : Nat} {v : Value} {x y : World} (h : TC cb rb s0 vars V ls vs i v x)
    (hk : ∀ (g : Nat) (C : Array Value) (t : TypeId), s0 ≤ g → x.heap[g]? = some (.cells C t (0, 0)) → t ≠ 103 → y.heap[g]? = x.heap[g]?) (h16 : i = 16 → ∀ v ls vs, LstI (cb + 1) x v ls vs → LstI (cb + 1) y v ls vs) : TC cb rb s0 vars V ls vs i v y := by
  unfold TC at h ⊢
  split at h
  case h_10 => obtain ⟨g, z1, z2, h1, h2, h3⟩ := h; exact ⟨g, z1, z2, h1, h2, (hk g _ _ h2 h3 numNoRd).trans h3⟩
  case h_13 => obtain ⟨g, r, z1, z2, h1, hr, h2, h3⟩ := h; exact ⟨g, r, z1, z2, h1, hr, h2, (hk g _ _ h2 h3 numNoRd).trans h3⟩
  case h_15 => obtain ⟨g, z, h1, h2, h3⟩ := h; exact ⟨g, z, h1, h2, (hk g _ _ h2 h3 numNoRd).trans h3⟩
  case h_16 => obtain ⟨g, g2, z, h1, h2, h3, h4, h5⟩ := h; exact ⟨g, g2, z, h1, h2, h3, (hk g _ _ h2 h4 rowNoRd).trans h4, (hk g2 _ _ h3 h5 numNoRd).trans h5⟩
  case h_17 => obtain ⟨a, c, u, z, h1, h2⟩ := h; exact ⟨a, c, u, z, h1, h16 rfl _ _ _ h2⟩
  all_goals exact h
theorem TC_wrote {B cb rb s0 : Nat} {vars : Int} {V : Value} {ls : List (List Int)} {vs : List Value} {i : Nat} {v : Value} {x y : World} (h : TC cb rb s0 vars V ls vs i v x) (hw : Wrote B isRd x y) : TC cb rb s0 vars V ls vs i v y :=
  TC_keep h (fun g C t _ hg ht => hw.other ⟨C, hg⟩ ht) (fun _ _ _ _ hL => hL.wrote hw)
theorem TC_alloc {cb rb s0 : Nat} {vars : Int} {V : Value} {ls : List (List Int)} {vs : List Value} {i : Nat} {v : Value} {x : World} (h : TC cb rb s0 vars V ls vs i v x) (o : Obj) : TC cb rb s0 vars V ls vs i v (x.alloc o) :=
  TC_keep h (fun g C t _ hg ht => blk_alloc_lt _ _ _ (Array.getElem?_eq_some_iff.1 hg).1) (fun _ _ _ _ hL => hL.on ((Below.refl _ _).alloc (Nat.le_refl _) _))
/-- The worlds within that region. -/
structure CL (B rb cb rs s0 : Nat) (w0 : World) (m vars : Int) (V : Value) (ls : List (List Int)) (vs : List Value) (L : Nat → Bool) (x : World) : Prop where
  rd : Rd B x rb (if L 11 then m + 1 else m)
  wrote : Wrote B isRd w0 x
  cell : x.heap[cb]? = some (cnfCells vars V)
  res : x.heap[rs]? = some (cnfCells 0 (.slice none 0 0))
  rows : L 16 = false → LstI (cb + 1) x V ls vs
  size : s0 ≤ x.heap.size
section
variable {B rb cb rs s0 : Nat} {w0 x y : World} {m vars : Int} {V : Value} {ls : List (List Int)} {vs : List Value} {L : Nat → Bool}
theorem CL.next (h : CL B rb cb rs s0 w0 m vars V ls vs L x) (i : Nat) (h11 : i ≠ 11) : CL B rb cb rs s0 w0 m vars V ls vs (doneOne L i) x := by
  refine ⟨?_, h.wrote, h.cell, h.res, fun hl => h.rows (by simp [doneOne] at hl; exact hl.2), h.size⟩
  have : doneOne L i 11 = L 11 := by simp [doneOne, Ne.symm h11]
  rw [this]; exact h.rd
theorem CL.on (h : CL B rb cb rs s0 w0 m vars V ls vs L x) (o : Obj) : CL B rb cb rs s0 w0 m vars V ls vs L (x.alloc o) := by
  have hb := (Below.refl x.heap.size x).alloc (Nat.le_refl _) o
  exact ⟨h.rd.below hb, h.wrote.trans (Wrote.of_below hb), (hb.block cb (Array.getElem?_eq_some_iff.1 h.cell).1).trans h.cell, (hb.block rs (Array.getElem?_eq_some_iff.1 h.res).1).trans h.res, fun hl => (h.rows hl).on hb, by have := h.size; simp; omega⟩
theorem CL.picked (h : CL B rb cb rs s0 w0 m vars V ls vs L x) (hl : L 11 = false) {m' : Int} (hm : m' = m) (hr : Rd B y rb (m' + 1)) (hw : Wrote B isRd x y) : CL B rb cb rs s0 w0 m vars V ls vs (doneOne L 11) y := by
  subst hm
  refine ⟨by simpa [doneOne] using hr, h.wrote.trans hw, hw.blk h.cell cnfNoRd, hw.blk h.res cnfNoRd, fun hl => (h.rows (by simpa [doneOne] using hl)).wrote hw, ?_⟩
  have := hw.size; have := h.size; omega
end

set_option maxRecDepth 100000 in
set_option maxHeartbeats 8000000 in
theorem l71Cnf_V (B rb : Nat) (m : Int) (w : World) (h : Rd B w rb m) (hm : m ≤ 500000) :
    Calls Try.prog 35 #[.pointer (some ⟨rb, 0, none⟩)] w fun e w' => DrawnCnf w.heap.size w' e ∧ Rd B w' rb (m + 400) ∧ Wrote B isRd w w' := by
  have hrl := h.lt
  have hpB := h.past
  obtain ⟨i0, hi, hz0, hz1, hz2⟩ := info_parts Try.infoJ
  obtain ⟨j0', hj', hy0, hy1, hy2⟩ := info_parts Try.infoJJ
  have b0 := (Below.refl w.heap.size w).alloc (Nat.le_refl _) (.cells #[.int .i64 0, .slice none 0 0] 41)
  have HR0 := hide (h.below b0)
  have HW0 := hide (Wrote.of_below (B := B) (ts := isRd) b0)
  have HF0 := hide (show (w.alloc (.cells #[.int .i64 0, .slice none 0 0] 41)).heap[w.heap.size]? = some (cnfCells 0 (.slice none 0 0)) from blk_alloc_new _ _)
  clear b0
  go_enter Try.func35, Try.ntmps35
  go_wp2_with fail
  refine (pick_any B rb _ 7 _ (unhide HR0) (by omega) (by omega) (by omega)).mono ?_
  rintro e w1 ⟨⟨r, rfl, hr0, hr1⟩, R1, W1⟩
  have hw1r : IntKind.i64.wrap (1 + r) = 1 + r := by rw [IntKind.wrap_i64]; omega
  have hz1' := W1.size
  simp at hz1'
  have hf1 := W1.blk (unhide HF0) cnfNoRd
  have b1 := (Below.refl w1.heap.size w1).alloc (Nat.le_refl _) (.cells #[.int .i64 (1 + r), .slice none 0 0] 41)
  have HS1 : Hid (CS B rb w1.heap.size w.heap.size w (m + 1) (1 + r) (.slice none 0 0) [] [] (w1.alloc (.cells #[.int .i64 (1 + r), .slice none 0 0] 41))) := ⟨R1.below b1, ((unhide HW0).trans W1).trans (Wrote.of_below b1), blk_alloc_new _ _, (b1.block _ (by omega)).trans hf1, LstI.zero _ _, by simp⟩
  have hwz : w1.heap.size < (w1.alloc (.cells #[.int .i64 (1 + r), .slice none 0 0] 41)).heap.size := by simp
  have hvb : 1 ≤ 1 + r ∧ 1 + r ≤ 7 := by omega
  clear HR0 HW0 HF0 R1 W1 hf1 b1
  go_upto_region 2 with fail
  clear hw1r hr0 hr1
  generalize 1 + r = vars at HS1 hwz hvb ⊢
  generalize w1.alloc (.cells #[.int .i64 vars, .slice none 0 0] 41) = w2 at HS1 hwz ⊢
  generalize hcbq : w1.heap.size = cb at HS1 hwz hz1' ⊢
  clear hcbq
  obtain ⟨hvb0, hvb1⟩ := hvb
  have hwcb : w.heap.size < cb := by omega
  have hrcb : rb < cb := by omega
  go_wp2_with fail
  refine (pick_any B rb _ 26 _ (unhide HS1).rd (by omega) (by omega) (by omega)).mono ?_
  rintro e w3 ⟨⟨k0, rfl, hk00, hk01⟩, R3, W3⟩
  have HS3 := hide ((unhide HS1).picked R3 W3)
  obtain ⟨k0, rfl⟩ : ∃ n : Nat, k0 = n := ⟨k0.toNat, by omega⟩
  clear HS1 R3 W3 hwz
  go_wp2_with fail
  go_loopw [4] (fun i wr => ∃ (k : Nat) (v : Value) (ls : List (List Int)) (vs : List Value), k + ls.length ≤ 25 ∧ i = .int .i64 k ∧ Hid (CS B rb cb w.heap.size w (m + 2 + 10 * ls.length) vars v ls vs wr)) (fun i _ => (intOf i).toNat)
  case atStart => exact ⟨k0, _, [], [], by simp; omega, rfl, (unhide HS3).more (by simp; omega)⟩
  case round =>
    rename World => wo
    obtain ⟨k, v, ls, vs, hk, rfl, HS⟩ := hrel
    clear HS3
    obtain ⟨va, vc, hv⟩ := (unhide HS).rows.slice
    subst hv
    obtain ⟨x0, x1, xf⟩ := two (unhide HS).cell
    have xf0 := xf 0
    have xf1 := xf 1
    have hcl : cb < wo.heap.size := (Array.getElem?_eq_some_iff.1 (unhide HS).cell).1
    clear xf
    by_cases hk0 : 0 < k
    · have hk1 : (0 : Int) < (k : Int) := by omega
      have HSA := hide ((unhide HS).alloc (.cells #[] 3))
      have HOA := hide (RowI.nil wo)
      have HV := hide (show ∀ j, (Value.slice va ls.length vc).ownBlock = some j → j < wo.heap.size from fun j hj => (World.ownsRow.lt (unhide HS).rows.own j hj).2)
      have HL := hide (unhide HS).rows.lt
      clear HS x0 x1 xf0 xf1
      go_wp2_with fail
      refine (pick_any B rb _ 3 _ (unhide HSA).rd (by omega) (by omega) (by omega)).mono ?_
      rintro e w4 ⟨⟨j0, rfl, hj00, hj01⟩, R4, W4⟩
      have HS4 := hide ((unhide HSA).picked R4 W4)
      have HO4 := hide (RowI.wrote2 (unhide HOA) W4)
      have hz4 := W4.size
      simp at hz4
      have hwj : IntKind.i64.wrap (1 + j0) = 1 + j0 := by rw [IntKind.wrap_i64]; omega
      obtain ⟨j1, hj1⟩ : ∃ n : Nat, 1 + j0 = n := ⟨(1 + j0).toNat, by omega⟩
      have hj13 : j1 ≤ 3 := by omega
      rw [hj1] at hwj
      clear HSA HOA R4 W4
      go_wp2_with fail
      go_loopw [5, 6] (fun v5 i wr => ∃ (j : Nat) (set : List Int), j + set.length ≤ 3 ∧ i = .int .i64 j ∧ Hid (RowI wo.heap.size wr v5 set) ∧ wo.heap.size ≤ wr.heap.size ∧ Hid (CS B rb cb w.heap.size w (m + 3 + 10 * ls.length + 2 * set.length) vars (.slice va ls.length vc) ls vs wr)) (fun _ i _ => (intOf i).toNat)
      case atStart => exact ⟨j1, [], by simp; omega, rfl, HO4, by omega, (unhide HS4).more (by simp; omega)⟩
      case round =>
        rename World => wi
        obtain ⟨j, set, hjs, rfl, HO, hwi, HS⟩ := hrel
        clear HS4 HO4
        obtain ⟨ua, uc, hu, _⟩ := RowI.set (unhide HO) (by omega)
        subst hu
        obtain ⟨x0, x1, xf⟩ := two (unhide HS).cell
        have xf0 := xf 0
        have xf1 := xf 1
        clear xf
        by_cases hj0 : 0 < j
        · have hj2 : (0 : Int) < (j : Int) := by omega
          go_wp2_with fail
          refine (pick_any B rb _ vars _ (unhide HS).rd (by omega) (by omega) (by omega)).mono ?_
          rintro e w5 ⟨⟨q, rfl, hq0, hq1⟩, R5, W5⟩
          have HS5 := hide ((unhide HS).picked R5 W5)
          have HO5 := hide (RowI.wrote2 (unhide HO) W5)
          have hz5 := W5.size
          have hwq : IntKind.i64.wrap (1 + q) = 1 + q := by rw [IntKind.wrap_i64]; omega
          clear HS HO R5 W5 x0 x1 xf0 xf1
          go_wp2_with fail
          refine (pick_any B rb _ 2 _ (unhide HS5).rd (by omega) (by omega) (by omega)).mono ?_
          rintro e w6 ⟨⟨g, rfl, hg0, hg1⟩, R6, W6⟩
          have HS6 := hide ((unhide HS5).picked R6 W6)
          have HO6 := hide (RowI.wrote2 (unhide HO5) W6)
          have hz6 := W6.size
          clear HS5 HO5 R6 W6
          by_cases hg : g = 0
          · subst hg
            have hwn : IntKind.i64.wrap (-(1 + q)) = -(1 + q) := by rw [IntKind.wrap_i64]; omega
            have hown := unhide HO6
            have hblk : ∀ j, (Value.slice ua set.length uc).ownBlock = some j → wo.heap.size ≤ j := fun j hj => (World.ownsRow.lt hown j hj).1
            go_wp2_with (first
              | (at_builtin; refine wpList_append_own _ rfl _ _ 26 rfl wo.heap.size 3 i0 (.int .i64 0) 1 8 Try.underlying26 hi hz0 hz1 hz2 rfl (by decide) _ _ _ rfl (hown.alloc _) ⟨w6.heap.size, 0, none⟩ 1 1 [.int .i64 (-(1 + q))] rfl rfl ?ca1 ?ca2 ?ca3 ?ca4 ?ca5 ?_))
            case ca1 =>
              intro j u hj
              match j, hj with
              | 0, hj => simp at hj; subst hj; simp [Addr.add]
            case ca2 => intro u hu; simp at hu; subst hu; rfl
            case ca3 => unfold maxLen; omega
            case ca4 => omega
            case ca5 => simp; omega
            intro v' w7 hown' hgrow _
            have HO7 : Hid (RowI wo.heap.size w7 v' (set ++ [(-(1 + q))])) := by
              show RowI _ _ _ _
              unfold RowI
              simpa using hown'
            have hzg := hgrow.size
            simp at hzg
            have HS7 := hide (((unhide HS6).alloc (.cells #[.int .i64 (-(1 + q))] 3)).far (s := wo.heap.size) (y := w7) ⟨hgrow.os, hgrow.tape, hgrow.output, hgrow.size, fun b hb => hgrow.block b (by simp; omega) (fun e => by have := hblk b e.symm; omega)⟩ (by omega) (by omega) (by omega) (by omega) (unhide HV) (unhide HL))
            clear hown hown' hgrow HS6 HO6
            go_wp2_with fail
            go_roundw
            case rel => exact ⟨j - 1, set ++ [(-(1 + q))], by simp; omega, by go_num, HO7, by omega, (unhide HS7).more (by simp; omega)⟩
            case measure => simp [intOf]; omega
          · have hgb : (g == 0) = false := by simp [hg]
            have hown := unhide HO6
            have hblk : ∀ j, (Value.slice ua set.length uc).ownBlock = some j → wo.heap.size ≤ j := fun j hj => (World.ownsRow.lt hown j hj).1
            go_wp2_with (first
              | (at_builtin; refine wpList_append_own _ rfl _ _ 26 rfl wo.heap.size 3 i0 (.int .i64 0) 1 8 Try.underlying26 hi hz0 hz1 hz2 rfl (by decide) _ _ _ rfl (hown.alloc _) ⟨w6.heap.size, 0, none⟩ 1 1 [.int .i64 (1 + q)] rfl rfl ?cb1 ?cb2 ?cb3 ?cb4 ?cb5 ?_))
            case cb1 =>
              intro j u hj
              match j, hj with
              | 0, hj => simp at hj; subst hj; simp [Addr.add]
            case cb2 => intro u hu; simp at hu; subst hu; rfl
            case cb3 => unfold maxLen; omega
            case cb4 => omega
            case cb5 => simp; omega
            intro v' w7 hown' hgrow _
            have HO7 : Hid (RowI wo.heap.size w7 v' (set ++ [(1 + q)])) := by
              show RowI _ _ _ _
              unfold RowI
              simpa using hown'
            have hzg := hgrow.size
            simp at hzg
            have HS7 := hide (((unhide HS6).alloc (.cells #[.int .i64 (1 + q)] 3)).far (s := wo.heap.size) (y := w7) ⟨hgrow.os, hgrow.tape, hgrow.output, hgrow.size, fun b hb => hgrow.block b (by simp; omega) (fun e => by have := hblk b e.symm; omega)⟩ (by omega) (by omega) (by omega) (by omega) (unhide HV) (unhide HL))
            clear hown hown' hgrow HS6 HO6
            go_wp2_with fail
            go_roundw
            case rel => exact ⟨j - 1, set ++ [(1 + q)], by simp; omega, by go_num, HO7, by omega, (unhide HS7).more (by simp; omega)⟩
            case measure => simp [intOf]; omega
        · have hj2 : ¬ (0 : Int) < (j : Int) := by omega
          go_wp2_with fail
          refine (pick_any B rb _ 60 _ (unhide HS).rd (by omega) (by omega) (by omega)).mono ?_
          rintro e w5 ⟨⟨q, rfl, hq0, hq1⟩, R5, W5⟩
          have HS5 := hide ((unhide HS).picked R5 W5)
          have HO5 := hide (RowI.wrote2 (unhide HO) W5)
          have hz5 := W5.size
          clear HS HO R5 W5 x0 x1 xf0 xf1
          obtain ⟨x0, x1, xf⟩ := two (unhide HS5).cell
          have xf0 := xf 0
          have xf1 := xf 1
          clear xf
          by_cases hq : q = 0
          · subst hq
            have HU : Hid (RowI wo.heap.size w5 (.slice none 0 0) []) := World.ownsRow_nil _ _ _ _
            have hown := (unhide HS5).rows.own
            have hblk : ∀ j, (Value.slice va ls.length vc).ownBlock = some j → cb < j := fun j hj => (World.ownsRow.lt hown j hj).1
            go_wp2_with (first
              | (at_builtin; refine wpList_append_own _ rfl _ _ 39 rfl (cb + 1) 26 j0' (.slice none 0 0) 1 24 Try.underlying39 hj' hy0 hy1 hy2 rfl (by decide) _ _ _ rfl (hown.alloc _) ⟨w5.heap.size, 0, none⟩ 1 1 [.slice none 0 0] rfl rfl ?da1 ?da2 ?da3 ?da4 ?da5 ?_))
            case da1 =>
              intro j u hj
              match j, hj with
              | 0, hj => simp at hj; subst hj; simp [Addr.add]
            case da2 => intro u hu; simp at hu; subst hu; rfl
            case da3 => unfold maxLen; omega
            case da4 => omega
            case da5 => simp; omega
            intro v' w6 hown' hgrow _
            obtain ⟨HS6, hcc⟩ := ((unhide HS5).alloc (.cells #[.slice none 0 0] 26)).snoc (v' := v') (y := w6) (ownsRow_on (unhide HU) ((Below.refl _ _).alloc (Nat.le_refl _) _)) (by omega) (unhide HL) (by simpa using hown') hgrow (by first | omega | (simp; done) | (simp; omega)) (by omega) (by omega) (by omega)
            have HS7 := hide HS6
            obtain ⟨va', vc', hv'⟩ := HS6.rows.slice
            rw [show (ls ++ [([] : List Int)]).length = ls.length + 1 by simp] at hv'
            subst hv'
            obtain ⟨x0, x1, xf⟩ := two hcc
            have xf0 := xf 0
            have xf1 := xf 1
            clear hown hown' hgrow HS5 HO5 HU HS6 xf hcc
            go_wp2_with fail
            go_roundw
            case rel => exact ⟨k - 1, _, ls ++ [[]], _, by simp; omega, by go_num, (unhide HS7).more (by simp; omega)⟩
            case measure => simp [intOf]; omega
          · have hqb : (q == 0) = false := by simp [hq]
            have HU := HO5
            have hown := (unhide HS5).rows.own
            have hblk : ∀ j, (Value.slice va ls.length vc).ownBlock = some j → cb < j := fun j hj => (World.ownsRow.lt hown j hj).1
            go_wp2_with (first
              | (at_builtin; refine wpList_append_own _ rfl _ _ 39 rfl (cb + 1) 26 j0' (.slice none 0 0) 1 24 Try.underlying39 hj' hy0 hy1 hy2 rfl (by decide) _ _ _ rfl (hown.alloc _) ⟨w5.heap.size, 0, none⟩ 1 1 [.slice ua set.length uc] rfl rfl ?db1 ?db2 ?db3 ?db4 ?db5 ?_))
            case db1 =>
              intro j u hj
              match j, hj with
              | 0, hj => simp at hj; subst hj; simp [Addr.add]
            case db2 => intro u hu; simp at hu; subst hu; rfl
            case db3 => unfold maxLen; omega
            case db4 => omega
            case db5 => simp; omega
            intro v' w6 hown' hgrow _
            obtain ⟨HS6, hcc⟩ := ((unhide HS5).alloc (.cells #[.slice ua set.length uc] 26)).snoc (v' := v') (y := w6) (ownsRow_on (unhide HU) ((Below.refl _ _).alloc (Nat.le_refl _) _)) (by omega) (unhide HL) (by simpa using hown') hgrow (by first | omega | (simp; done) | (simp; omega)) (by omega) (by omega) (by omega)
            have HS7 := hide HS6
            obtain ⟨va', vc', hv'⟩ := HS6.rows.slice
            rw [show (ls ++ [(set : List Int)]).length = ls.length + 1 by simp] at hv'
            subst hv'
            obtain ⟨x0, x1, xf⟩ := two hcc
            have xf0 := xf 0
            have xf1 := xf 1
            clear hown hown' hgrow HS5 HO5 HU HS6 xf hcc
            go_wp2_with fail
            go_roundw
            case rel => exact ⟨k - 1, _, ls ++ [set], _, by simp; omega, by go_num, (unhide HS7).more (by simp; omega)⟩
            case measure => simp [intOf]; omega
    · have hk1 : ¬ (0 : Int) < (k : Int) := by omega
      go_wp2_with fail
      refine (pick_any B rb _ 24 _ (unhide HS).rd (by omega) (by omega) (by omega)).mono ?_
      rintro e w4 ⟨⟨q, rfl, hq0, hq1⟩, R4, W4⟩
      have HS4 := hide ((unhide HS).picked R4 W4)
      clear HS x0 x1 xf0 xf1 R4 W4
      by_cases hq : q = 0
      · subst hq
        have HSB := hide ((unhide HS4).alloc (.cells #[.int .i64 (-1), .int .i64 0, .int .i64 400, .int .i64 401] 3))
        have HX := hide (blk_alloc_new w4 (.cells #[.int .i64 (-1), .int .i64 0, .int .i64 400, .int .i64 401] 3))
        clear HS4
        go_wp2_with fail
        refine (pick_any B rb _ 4 _ (unhide HSB).rd (by omega) (by omega) (by omega)).mono ?_
        rintro e w5 ⟨⟨s, rfl, hs0, hs1⟩, R5, W5⟩
        have HS5 := hide ((unhide HSB).picked R5 W5)
        have hx5 := W5.blk (unhide HX) numNoRd
        clear HSB HX R5 W5
        obtain ⟨s, rfl⟩ : ∃ n : Nat, s = n := ⟨s.toNat, by omega⟩
        obtain ⟨z, hz⟩ : ∃ z : Int, w5.cell? ⟨w4.heap.size, s, none⟩ = some (.int .i64 z) := by
          simp only [World.cell?, hx5]
          match s, hs1 with
          | 0, _ => exact ⟨_, rfl⟩
          | 1, _ => exact ⟨_, rfl⟩
          | 2, _ => exact ⟨_, rfl⟩
          | 3, _ => exact ⟨_, rfl⟩
          | s + 4, h => omega
        clear hx5
        obtain ⟨x0, x1, xf⟩ := two (unhide HS5).cell
        have xf0 := xf 0
        have HS6 := hide ((unhide HS5).setv z (by omega) (by omega) (by omega))
        clear xf HS5
        go_upto_region 21 with fail
        generalize w5.setCell ⟨cb, 0, none⟩ (.int .i64 z) = w6 at HS6 ⊢
        clear x0 x1 xf0 hz
        obtain ⟨x0, x1, xf⟩ := two (unhide HS6).cell
        obtain ⟨r0, r1, rf⟩ := two (unhide HS6).res
        have rf0 := rf 0
        have rf1 := rf 1
        have xf0 := xf 0
        have HF := hide ((unhide HS6).fin (by first | omega | (simp; omega)) (Nat.le_refl _) (by omega) (by omega) hpB)
        clear HS6 xf rf
        go_wp2_with fail
        obtain ⟨f1, f2, f3, R0, R1⟩ := unhide HF
        exact bodyPost_ret (v := .agg #[.int .i64 z, .slice va ls.length vc]) (by simp [results, Try.results35, go_sem, R0, R1]) rfl ⟨f1, f2.more (by omega), f3⟩
      · have hqb : (q == 0) = false := by simp [hq]
        by_cases hqq : q = 1
        · subst hqq
          have hrows := (unhide HS4).rows
          have hvlt := hide (fun j hj => (World.ownsRow.lt hrows.own j hj).2)
          have hllt := hide hrows.lt
          have hvcb := hide (fun j hj => (World.ownsRow.lt hrows.own j hj).1)
          have hsh := hide (unhide HS4).short
          have hcl4 : cb < w4.heap.size := (Array.getElem?_eq_some_iff.1 (unhide HS4).cell).1
          have HC0 : Hid (CL B rb cb w.heap.size w4.heap.size w (m + 2 + 10 * ls.length + 1) vars (.slice va ls.length vc) ls vs (fun _ => false) w4.drew) := ⟨by simpa using (unhide HS4).rd.drew, (unhide HS4).wrote.drew, (unhide HS4).cell, (unhide HS4).res, fun _ => hrows.on (Below.refl _ _).drew, Nat.le_refl _⟩
          clear HS4 hrows
          go_upto_region 20 with fail
          refine wp_region_headF 18 (by kernel_rfl) (by kernel_rfl) (by kernel_rfl) (by kernel_rfl) (by kernel_rfl) (TC cb rb w4.heap.size vars (.slice va ls.length vc) ls vs) (CL B rb cb w.heap.size w4.heap.size w (m + 2 + 10 * ls.length + 1) vars (.slice va ls.length vc) ls vs) (unhide HC0) ?_ ?_
          · intro i o him hi a x L hL ha hc hd
            match i with
            | 0 =>
              simp at hi
              subst hi
              have e3 : a.tmps[3]? = some (.pointer (some ⟨cb, 0, none⟩)) := (ha.slot 3 (slots_no (by kernel_rfl))).trans rfl
              go_simp
              exact ⟨_, rfl, rfl, hc.next 0 (by omega)⟩
            | 1 =>
              simp at hi
              subst hi
              have d0 := hd ⟨0, .data⟩ (by simp) rfl
              rw [valOf_at (d := 61) rfl] at d0
              simp only [TC] at d0
              obtain ⟨x0, x1, xf⟩ := two hc.cell
              go_simp
              exact ⟨_, rfl, rfl, hc.next 1 (by omega)⟩
            | 2 =>
              simp at hi
              subst hi
              have e3 : a.tmps[3]? = some (.pointer (some ⟨cb, 0, none⟩)) := (ha.slot 3 (slots_no (by kernel_rfl))).trans rfl
              go_simp
              exact ⟨_, rfl, rfl, hc.next 2 (by omega)⟩
            | 3 =>
              simp at hi
              subst hi
              have d2 := hd ⟨2, .data⟩ (by simp) rfl
              rw [valOf_at (d := 63) rfl] at d2
              simp only [TC] at d2
              obtain ⟨x0, x1, xf⟩ := two hc.cell
              go_simp
              exact ⟨_, rfl, rfl, hc.next 3 (by omega)⟩
            | 4 =>
              simp at hi
              subst hi
              have d3 := hd ⟨3, .data⟩ (by simp) rfl
              rw [valOf_at (d := 64) rfl] at d3
              simp only [TC] at d3
              go_simp
              exact ⟨_, rfl, ⟨_, rfl⟩, hc.next 4 (by omega)⟩
            | 5 =>
              simp at hi
              subst hi
              have e3 : a.tmps[3]? = some (.pointer (some ⟨cb, 0, none⟩)) := (ha.slot 3 (slots_no (by kernel_rfl))).trans rfl
              go_simp
              exact ⟨_, rfl, rfl, hc.next 5 (by omega)⟩
            | 6 =>
              simp at hi
              subst hi
              have d5 := hd ⟨5, .data⟩ (by simp) rfl
              rw [valOf_at (d := 66) rfl] at d5
              simp only [TC] at d5
              obtain ⟨x0, x1, xf⟩ := two hc.cell
              go_simp
              exact ⟨_, rfl, rfl, hc.next 6 (by omega)⟩
            | 7 =>
              simp at hi
              subst hi
              have d6 := hd ⟨6, .data⟩ (by simp) rfl
              rw [valOf_at (d := 67) rfl] at d6
              simp only [TC] at d6
              go_simp
              exact ⟨_, rfl, ⟨_, rfl⟩, hc.next 7 (by omega)⟩
            | 8 =>
              simp at hi
              subst hi
              have d7 := hd ⟨7, .data⟩ (by simp) rfl
              rw [valOf_at (d := 68) rfl] at d7
              obtain ⟨z7, h7⟩ := d7
              go_simp
              exact ⟨_, rfl, ⟨_, rfl⟩, hc.next 8 (by omega)⟩
            | 9 =>
              simp at hi
              subst hi
              have d4 := hd ⟨4, .data⟩ (by simp) rfl
              rw [valOf_at (d := 65) rfl] at d4
              obtain ⟨z4, h4⟩ := d4
              have d8 := hd ⟨8, .data⟩ (by simp) rfl
              rw [valOf_at (d := 69) rfl] at d8
              obtain ⟨z8, h8⟩ := d8
              go_simp
              exact ⟨_, rfl, ⟨x.heap.size, z4, z8, rfl, hc.size, blk_alloc_new _ _⟩, (hc.on _).next 9 (by omega), fun _ _ _ _ h => TC_alloc h _⟩
            | 10 =>
              simp at hi
              subst hi
              have e0 : a.tmps[0]? = some (.pointer (some ⟨rb, 0, none⟩)) := (ha.slot 0 (slots_no (by kernel_rfl))).trans rfl
              go_simp
              exact ⟨_, rfl, rfl, hc.next 10 (by omega)⟩
            | 11 =>
              simp at hi
              subst hi
              have d10 := hd ⟨10, .data⟩ (by simp) rfl
              rw [valOf_at (d := 71) rfl] at d10
              simp only [TC] at d10
              have hrd := hc.rd
              rw [hL] at hrd
              go_simp
              refine (pick_any B rb _ 3 _ hrd (by simp; omega) (by omega) (by omega)).mono ?_
              rintro e y ⟨⟨r, rfl, hr0, hr1⟩, hR, hW⟩
              exact ⟨_, rfl, ⟨r.toNat, by show Value.int _ _ = _; rw [Int.toNat_of_nonneg hr0], by omega⟩, hc.picked hL (by simp) hR hW, fun _ _ _ _ h => TC_wrote h hW⟩
            | 12 =>
              simp at hi
              subst hi
              have d9 := hd ⟨9, .data⟩ (by simp) rfl
              rw [valOf_at (d := 70) rfl] at d9
              obtain ⟨g, z1, z2, h9, hg, hx⟩ := d9
              have d11 := hd ⟨11, .data⟩ (by simp) rfl
              rw [valOf_at (d := 72) rfl] at d11
              obtain ⟨r, h11, hr⟩ := d11
              have hr' : (r : Int) < 3 := by omega
              go_simp
              exact ⟨_, rfl, ⟨g, r, z1, z2, rfl, hr, hg, hx⟩, hc.next 12 (by omega)⟩
            | 13 =>
              simp at hi
              subst hi
              have d12 := hd ⟨12, .data⟩ (by simp) rfl
              rw [valOf_at (d := 73) rfl] at d12
              obtain ⟨g, r, z1, z2, h12, hr, hg, hx⟩ := d12
              obtain ⟨z, hz⟩ : ∃ z : Int, x.cell? ⟨g, r, none⟩ = some (.int .i64 z) := by
                simp only [World.cell?, hx]
                match r, hr with
                | 0, _ => exact ⟨_, rfl⟩
                | 1, _ => exact ⟨_, rfl⟩
                | 2, _ => exact ⟨_, rfl⟩
                | r + 3, h => omega
              clear hx
              go_simp
              exact ⟨_, rfl, ⟨z, rfl⟩, hc.next 13 (by omega)⟩
            | 14 =>
              simp at hi
              subst hi
              have d13 := hd ⟨13, .data⟩ (by simp) rfl
              rw [valOf_at (d := 74) rfl] at d13
              obtain ⟨z, h13⟩ := d13
              go_simp
              exact ⟨_, rfl, ⟨x.heap.size, z, rfl, hc.size, blk_alloc_new _ _⟩, (hc.on _).next 14 (by omega), fun _ _ _ _ h => TC_alloc h _⟩
            | 15 =>
              simp at hi
              subst hi
              have d14 := hd ⟨14, .data⟩ (by simp) rfl
              rw [valOf_at (d := 75) rfl] at d14
              obtain ⟨g, z, h14, hg, hx⟩ := d14
              go_simp
              exact ⟨_, rfl, ⟨x.heap.size, g, z, rfl, hc.size, hg, blk_alloc_new _ _, (blk_alloc_lt _ _ _ (Array.getElem?_eq_some_iff.1 hx).1).trans hx⟩, (hc.on _).next 15 (by omega), fun _ _ _ _ h => TC_alloc h _⟩
            | 16 =>
              simp at hi
              subst hi
              have d1 := hd ⟨1, .data⟩ (by simp) rfl
              rw [valOf_at (d := 62) rfl] at d1
              simp only [TC] at d1
              have d15 := hd ⟨15, .data⟩ (by simp) rfl
              rw [valOf_at (d := 76) rfl] at d15
              obtain ⟨g, g2, z, h15, hg, hg2, hx, hx2⟩ := d15
              have hrows := hc.rows hL
              have hs1 : a.eval (.tmp 62) = .slice va ls.length vc := by simp only [Act.eval, Array.getD_eq_getD_getElem?]; exact d1
              have hs2 : a.eval (.tmp 76) = .slice (some ⟨g, 0, none⟩) 1 1 := by simp only [Act.eval, Array.getD_eq_getD_getElem?]; exact h15
              refine wp_append_own x (.tmp 62) (.tmp 76) 39 rfl (cb + 1) 26 j0' (.slice none 0 0) 1 24 Try.underlying39 hj' hy0 hy1 hy2 rfl (by decide) _ ls.length vs hs1 hrows.own ⟨g, 0, none⟩ 1 1 [.slice (some ⟨g2, 0, none⟩) 1 1] hs2 rfl ?_ ?_ ?_ ?_ ?_ ?_
              · intro j u hj
                match j, hj with
                | 0, hj => simp at hj; subst hj; simp [Addr.add, World.cell?, hx]
              · intro u hu; simp at hu; subst hu; rfl
              · unfold maxLen; omega
              · omega
              · have := hc.size; omega
              intro v' y hown' hgrow _
              have hB1 := unhide hvcb
              have hB2 := unhide hvlt
              have hR : RowI w4.heap.size x (.slice (some ⟨g2, 0, none⟩) 1 1) [z] := ⟨rfl, Or.inr ⟨g2, 1, #[.int .i64 z], rfl, hg2, hx2, Nat.le_refl _, by unfold maxLen; omega, rfl, rfl⟩⟩
              have hn := LstI.snoc hrows hR (by omega) (unhide hllt) hown' hgrow
              obtain ⟨a', c', hv'⟩ := hn.slice
              rw [show (ls ++ [[z]]).length = ls.length + 1 by simp] at hv'
              have hcl := (Array.getElem?_eq_some_iff.1 hc.cell).1
              have hrl' := (Array.getElem?_eq_some_iff.1 hc.res).1
              refine ⟨v', rfl, ⟨a', c', _, z, hv', hn⟩, ⟨?_, hc.wrote.grown hgrow (fun j hj => by have := hB1 j hj; omega), (hgrow.block cb hcl (fun e => by have := hB1 cb e.symm; omega)).trans hc.cell, (hgrow.block _ hrl' (fun e => by have := hB1 _ e.symm; omega)).trans hc.res, fun hf => by simp [doneOne] at hf, by have := hgrow.size; have := hc.size; omega⟩, ?_⟩
              · have := hc.rd.grown hgrow (fun j hj => by have := hB1 j hj; omega)
                simpa [doneOne] using this
              · intro j v hj hLj hT
                refine TC_keep hT (fun g' C t hg' hx' ht => hgrow.block g' (Array.getElem?_eq_some_iff.1 hx').1 (fun e => by have := hB2 g' e.symm; omega)) (fun e => ?_)
                subst e
                rw [hL] at hLj
                cases hLj
            | 17 =>
              simp at hi
              subst hi
              have e3 : a.tmps[3]? = some (.pointer (some ⟨cb, 0, none⟩)) := (ha.slot 3 (slots_no (by kernel_rfl))).trans rfl
              go_simp
              exact ⟨_, rfl, rfl, hc.next 17 (by omega)⟩
            | i + 18 => omega
          · intro a x ha ht hcL
            obtain ⟨L, hL, hc⟩ := hcL
            have h17 : a.tmps[78]?.getD undef = .pointer (some ⟨cb, 1, none⟩) := by have := ht 17 (by omega); rwa [valOf_at (d := 78) rfl] at this
            obtain ⟨a', c', u, z, h16, hLL⟩ := ht 16 (by omega)
            rw [valOf_at (d := 77) rfl] at h16 hLL
            have hl := ha.list
            simp [slotOf, List.range_succ] at hl
            rw [hl]
            clear hl ha ht
            rw [h16] at hLL
            obtain ⟨x0, x1, xf⟩ := two hc.cell
            have xf0 := xf 0
            have xf1 := xf 1
            have HS6 : Hid (CS B rb cb w.heap.size w (m + 2 + 10 * ls.length + 2) vars (.slice a' (ls ++ [[z]]).length c') (ls ++ [[z]]) (vs ++ [u]) (x.setCell ⟨cb, 1, none⟩ (.slice a' (ls.length + 1) c'))) := by
              refine ⟨(hc.rd.more (by split <;> omega)).set (by omega) (by omega) _ _, hc.wrote.own (Below.setCell (Below.refl _ _) (by show w.heap.size ≤ cb; omega) _), ?_, (blk_setCell_other _ _ _ _ (by show w.heap.size ≠ cb; omega)).trans hc.res, ?_, ?_⟩
              · rw [blk_set hc.cell]; simp [cnfCells]
              · have := hLL.set2 (b := cb) (by omega) 1 (.slice a' (ls.length + 1) c')
                simpa using this
              · intro q hq
                rcases List.mem_append.1 hq with hq | hq
                · exact unhide hsh q hq
                · simp at hq; subst hq; simp
            clear hc hLL xf
            rw [h17, h16]
            go_upto_region 21 with fail
            generalize x.setCell ⟨cb, 1, none⟩ (.slice a' (ls.length + 1) c') = w6 at HS6 ⊢
            generalize hls : ls ++ [[z]] = ls' at HS6
            have hll : ls'.length ≤ 26 := by rw [← hls]; simp; omega
            clear hls x0 x1 xf0 xf1
            obtain ⟨x0, x1, xf⟩ := two (unhide HS6).cell
            obtain ⟨r0, r1, rf⟩ := two (unhide HS6).res
            have rf0 := rf 0
            have rf1 := rf 1
            have xf0 := xf 0
            have HF := hide ((unhide HS6).fin (by first | omega | (simp; omega)) (Nat.le_refl _) (by omega) (by omega) hpB)
            clear HS6 xf rf
            go_wp2_with fail
            obtain ⟨f1, f2, f3, R0, R1⟩ := unhide HF
            exact bodyPost_ret (v := .agg #[.int .i64 vars, .slice a' ls'.length c']) (by simp [results, Try.results35, go_sem, R0, R1]) rfl ⟨f1, f2.more (by omega), f3⟩
        · have hqb1 : (q == 1) = false := by simp [hqq]
          obtain ⟨x0, x1, xf⟩ := two (unhide HS4).cell
          obtain ⟨r0, r1, rf⟩ := two (unhide HS4).res
          have rf0 := rf 0
          have rf1 := rf 1
          have xf0 := xf 0
          have HF := hide ((unhide HS4).fin (by first | omega | (simp; omega)) (Nat.le_refl _) (by omega) (by omega) hpB)
          clear HS4 xf rf
          go_wp2_with fail
          obtain ⟨f1, f2, f3, R0, R1⟩ := unhide HF
          exact bodyPost_ret (v := .agg #[.int .i64 vars, .slice va ls.length vc]) (by simp [results, Try.results35, go_sem, R0, R1]) rfl ⟨f1, f2.more (by omega), f3⟩

end Go.Proofs.Ythkhaemlcmkkjar

namespace Go.Proofs.Ythkhaemlcmkkjar
set_option linter.unusedVariables false
set_option linter.unusedSimpArgs false
open Go.RowKit Go.Deep


end Go.Proofs.Ythkhaemlcmkkjar

namespace Go.Proofs.Ythkhaemlcmkkjar
set_option linter.unusedVariables false
set_option linter.unusedSimpArgs false
open Go.RowKit Go.Deep

end Go.Proofs.Ythkhaemlcmkkjar
