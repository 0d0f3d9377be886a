/- What was learned since a mark is undone: the closure that the program's mark makes. The program's mark, forces: what is learned to ask is undone. Levels of a search in memory; the program's no, firstOpen, model. -/
import Derived.Test.YthkhaemlcmkkjafGFo
import Derived.Defers
import Derived.Test.YthkhaemlcmkkjafGUp
import Derived.Laws.EntriesVeiled
namespace Go.Proofs.Ythkhaemlcmkkjaf
set_option linter.unusedVariables false
set_option linter.unusedSimpArgs false
open Go.RowKit Go.Deep Go.Sort

theorem both_of_wp {P : Program} {f : FuncId} {fn : Func} {c : Code} {args : Array Value} {w : World} {R : Ending → World → Prop}
    (hf : P.funcs[f]? = some fn) (hb : fn.body = some c)
    (h : c.wp P (bodyPost P fn R) { tmps := args ++ Array.replicate (fn.ntmps - args.size) undef, defers := [] } w) :
    Calls P f args w R ∧ ∀ u, CallsD P f args u w fun e u' w' => u' = u ∧ R e w' := ⟨calls_of_wp hf hb h, fun u => callsD_of_wp hf hb h⟩
theorem run_slice_tail (W : World) (a : Option Addr) (n c m : Nat) (hm : m ≤ n) (h63 : (m : Int) < 9223372036854775808) :
    Sem.run Try.prog (Instr.slice 26 (.slice a n c) (some (.int .i64 (m : Int))) none none) W = .ok (.slice (if c = m then a else a.map (·.add m)) (n - m) (c - m)) W := by
  have h1 : (0 : Int) ≤ (m : Int) ∧ (m : Int) ≤ (n : Int) := by omega
  have hs : (sizeOf 3).run Try.prog W = .ok 1 W := by
    have := Try.infoI
    unfold sizeOf typeInfo
    cases hq : Try.prog.info? 3 with
    | none => rw [hq] at this; simp at this
    | some i => rw [hq] at this; simp at this; simp [Sem.run_bind, hq, this.2.1]
  unfold Instr.slice Instr.sliceBounds Instr.sliceBound
  simp [Sem.run_bind, run_underlying Try.underlying26 W, asIntOf, hs]
  intro hlt
  omega
theorem undoK_succ (K : Nat → Int) (xs : List Int) {k : Nat} (hk : k < xs.length) : undoK K (xs.take (k + 1)) = fun u => if u = (xs.getD k 0).natAbs then 0 else undoK K (xs.take k) u := by
  funext u
  unfold undoK
  rw [List.take_succ_eq_append_getElem hk, List.any_append]
  have e : xs[k] = xs.getD k 0 := by simp [List.getD, hk]
  rw [e]
  by_cases h1 : u = (xs.getD k 0).natAbs
  · rw [if_pos h1, if_pos]
    simp [h1]
  · rw [if_neg h1]
    have : ([xs.getD k 0].any fun x => x.natAbs == u) = false := by
      simp
      exact fun h => h1 h.symm
    rw [this, Bool.or_false]
theorem own_cut {w : World} {B : Nat} {e : TypeId} {a : Option Addr} {n c m : Nat} {xs : List Value} (h : w.ownsRow B e 1 (.slice a n c) n xs) (hm : m ≤ n) : w.ownsRow B e 1 (.slice a m c) m (xs.take m) := by
  obtain ⟨h1, h2⟩ := h
  refine ⟨by simp; omega, ?_⟩
  rcases h2 with ⟨hv, h0⟩ | ⟨g, cap, cur, hv, hB, hb, hnc, hcm, hsz, htk⟩
  · simp only [Value.slice.injEq] at hv
    left
    obtain ⟨rfl, rfl, rfl⟩ := hv
    have : m = 0 := by omega
    subst this
    exact ⟨rfl, rfl⟩
  · simp only [Value.slice.injEq] at hv
    obtain ⟨rfl, _, rfl⟩ := hv
    refine .inr ⟨g, c, cur, rfl, hB, hb, by omega, hcm, hsz, ?_⟩
    rw [← htk, List.take_take]
    congr 1
    omega
theorem FAt.cutTr {w : World} {B F : Nat} {rl : Rl} {x : Option Role} {S : FSt} {V : FV} (h : FAt w B F rl x S V) (hx : x ≠ some .trail) {a : Option Addr} {c m : Nat} (hv : V.tv = .slice a S.tr.length c) (hm : m ≤ S.tr.length) :
    FAt (w.setCell ⟨F, 401, none⟩ (.slice a m c)) B F rl x ⟨S.K, S.tr.take m, S.ask, S.cl, S.wt⟩ ⟨.slice a m c, V.cv, V.wv, V.dv⟩ := by
  refine h.setF 401 _ (h.cells.set (by omega) rfl rfl (by omega) rfl rfl (fun l _ _ => by rw [if_neg (by unfold wPlace; omega)])) (fun r xs hn hxx => ?_)
  cases r with
  | trail =>
    have h0 := h.rows .trail _ hx rfl
    simp only [rowX, Option.some.injEq] at hxx
    subst hxx
    have hl : (iV (S.tr.take m)).length = m := by rw [iV_len]; simp; omega
    refine ⟨?_, fun g hg => h0.2 g ?_⟩
    rotate_left
    · show V.tv.ownBlock = some g
      rw [hv]
      have hg' : (Value.slice a m c).ownBlock = some g := hg
      cases a with
      | none => simp [Value.ownBlock] at hg'
      | some ad => simpa [Value.ownBlock] using hg'
    rw [hl]
    have h1 := h0.1
    rw [show rowV V .trail = V.tv from rfl, hv, iV_len] at h1
    have := own_cut h1 hm
    rwa [show iV (S.tr.take m) = (iV S.tr).take m by simp [iV]]
  | self => simp [rowX] at hxx
  | outer => exact h.rows .outer xs hn hxx
  | clause i => exact h.rows (.clause i) xs hn hxx
  | watch l => exact h.rows (.watch l) xs hn hxx
  | free => simp [rowX] at hxx
/-- What undo leaves. -/
def UndoP (w : World) (B F : Nat) (rl : Rl) (S : FSt) (m : Nat) (e : Ending) (w' : World) : Prop :=
  e = .returned (.tuple #[]) ∧ ∃ V', FAt w' B F rl none ⟨undoK S.K (S.tr.drop m), S.tr.take m, m, S.cl, S.wt⟩ V' ∧ Kp B w rl w' rl ∧ ∀ b, b ≠ F → w'.heap[b]? = w.heap[b]?
def UndS (w : World) (B F : Nat) (rl : Rl) (S : FSt) (V : FV) (m k : Nat) (wr : World) : Prop :=
  FAt wr B F rl none ⟨undoK S.K ((S.tr.drop m).take k), S.tr, S.ask, S.cl, S.wt⟩ V ∧ Kp B w rl wr rl ∧ (∀ b, b ≠ F → wr.heap[b]? = w.heap[b]?) ∧ wr.heap.size = w.heap.size
theorem drew_blk (w : World) (n b : Nat) : (w.drewN n).heap[b]? = w.heap[b]? := by
  exact ((Drawn.refl w).more n).below (b + 1) |>.block b (by omega)

end Go.Proofs.Ythkhaemlcmkkjaf

namespace Go.Proofs.Ythkhaemlcmkkjaf
set_option linter.unusedVariables false
set_option linter.unusedSimpArgs false
open Go.RowKit Go.Deep Go.Sort

/-- The two variables that the closure of mark holds. -/
structure MkAt (w : World) (F fb nb m : Nat) : Prop where
  fk : w.heap[fb]? = some (.cells #[.pointer (some ⟨F, 0, none⟩)] 125 (0, 0))
  nk : w.heap[nb]? = some (.cells #[.int .i64 (m : Int)] 3 (0, 0))
theorem MkAt.fc {w : World} {F fb nb m : Nat} (h : MkAt w F fb nb m) : w.cell? ⟨fb, 0, none⟩ = some (.pointer (some ⟨F, 0, none⟩)) := by rw [cell_of_row w fb 0 _ _ _ h.fk]; rfl
theorem MkAt.nc {w : World} {F fb nb m : Nat} (h : MkAt w F fb nb m) : w.cell? ⟨nb, 0, none⟩ = some (.int .i64 (m : Int)) := by rw [cell_of_row w nb 0 _ _ _ h.nk]; rfl
theorem MkAt.lt {w : World} {F fb nb m : Nat} (h : MkAt w F fb nb m) : fb < w.heap.size ∧ nb < w.heap.size := ⟨World.block_lt_of_cell? _ _ h.fc, World.block_lt_of_cell? _ _ h.nc⟩
theorem MkAt.kept {w w' : World} {F fb nb m : Nat} (h : MkAt w F fb nb m) (h1 : w'.heap[fb]? = w.heap[fb]?) (h2 : w'.heap[nb]? = w.heap[nb]?) : MkAt w' F fb nb m :=
  ⟨h1.trans h.fk, h2.trans h.nk⟩
end Go.Proofs.Ythkhaemlcmkkjaf

namespace Go.Proofs.Ythkhaemlcmkkjaf
set_option linter.unusedVariables false
set_option linter.unusedSimpArgs false
open Go.RowKit Go.Deep

/-- A choice: its literal, how many were known, and the two variables of its closure. -/
structure LvD where
  lit : Int
  m : Nat
  fb : Nat
  nb : Nat
/-- The literals that were chosen, the first one first. -/
def litsOf (lv : List LvD) : List Int := lv.map LvD.lit
theorem no_take (l : List Int) {k : Nat} (hk : k < l.length) : (noL l).take (k + 1) = (noL l).take k ++ [-l.getD k 0] := by
  rw [List.take_succ_eq_append_getElem (by unfold noL; simpa using hk)]
  simp [noL, List.getD, hk]

def bV (l : List Bool) : List Value := l.map .bool
theorem bV_len (l : List Bool) : (bV l).length = l.length := by simp [bV]
theorem Try.infoBool : (Try.prog.info? 4).map (fun i => (i.zero, i.size, i.bytes)) = some (some (.bool false), 1, 1) := by kernel_rfl
theorem modelK_len (K : Nat → Int) (n : Nat) : (modelK K n).length = n := by simp [modelK]
theorem modelK_at (K : Nat → Int) (n : Nat) {k : Nat} (hk : k < n) : (modelK K n)[k]? = some (decide (0 < K (k + 1))) := by simp [modelK, hk]
/-- The first k of a model, and nothing behind. -/
def modelTo (K : Nat → Int) (n k : Nat) : List Bool := (modelK K n).take k ++ List.replicate (n - k) false
theorem modelTo_len (K : Nat → Int) {n k : Nat} (hk : k ≤ n) : (modelTo K n k).length = n := by simp [modelTo, modelK_len]; omega
theorem modelTo_set (K : Nat → Int) {n k : Nat} (hk : k < n) : (modelTo K n k).set k (decide (0 < K (k + 1))) = modelTo K n (k + 1) := by
  apply List.ext_getElem?
  intro i
  unfold modelTo
  have hl : ((modelK K n).take k).length = k := by simp [modelK_len]; omega
  have hl1 : ((modelK K n).take (k + 1)).length = k + 1 := by simp [modelK_len]; omega
  rw [List.getElem?_set]
  by_cases e : k = i
  · subst e
    rw [if_pos rfl, if_pos (by simp [modelK_len]; omega), List.getElem?_append_left (by omega), List.getElem?_take, if_pos (by omega), modelK_at K n hk]
  · rw [if_neg e]
    by_cases h : i < k
    · rw [List.getElem?_append_left (by omega), List.getElem?_append_left (by omega), List.getElem?_take, List.getElem?_take, if_pos h, if_pos (by omega)]
    · rw [List.getElem?_append_right (by omega), List.getElem?_append_right (by omega), hl, hl1, List.getElem?_replicate, List.getElem?_replicate]
      by_cases h2 : i < n
      · rw [if_pos (by omega), if_pos (by omega)]
      · rw [if_neg (by omega), if_neg (by omega)]

end Go.Proofs.Ythkhaemlcmkkjaf
