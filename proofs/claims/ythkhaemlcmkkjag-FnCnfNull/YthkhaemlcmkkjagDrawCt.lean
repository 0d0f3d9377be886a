/- DrawCnfTrue: drawn clauses, and what may be a model of them. -/
import Derived.Test.YthkhaemlcmkkjagSpA
import Derived.Test.YthkhaemlcmkkjagMdB
import Derived.Test.YthkhaemlcmkkjagGReg
import Derived.Deep.QuietTactic
import Derived.BigQuiet
namespace Go.Proofs.Ythkhaemlcmkkjag
set_option linter.unusedVariables false
set_option linter.unusedSimpArgs false
open Go.RowKit Go.Deep

/-- What is so, from a block on. -/
def BoolsB (P : Nat) (w : World) (a : Option Addr) (m : List Bool) : Prop := m.length ≤ 1048576 ∧ (m = [] ∨ ∃ b o, a = some ⟨b, o, none⟩ ∧ P ≤ b ∧ b < w.heap.size ∧ ∀ i, i < m.length → w.cell? ⟨b, o + i, none⟩ = some (.bool (m.getD i false)))
theorem BoolsB.bools {P : Nat} {w : World} {a : Option Addr} {m : List Bool} (h : BoolsB P w a m) : BoolsAt w a m :=
  ⟨h.1, h.2.imp id fun ⟨b, o, e, _, h1, h2⟩ => ⟨b, o, e, h1, h2⟩⟩
theorem BoolsB.kept {P : Nat} {w w' : World} {a : Option Addr} {m : List Bool} (h : BoolsB P w a m) (hs : w.heap.size ≤ w'.heap.size) (hb : ∀ g, P ≤ g → g < w.heap.size → w'.heap[g]? = w.heap[g]?) : BoolsB P w' a m :=
  ⟨h.1, h.2.imp id fun ⟨b, o, e, hP, h1, h2⟩ => ⟨b, o, e, hP, Nat.lt_of_lt_of_le h1 hs, fun i hi => (World.cell?_of_block (w := w) (a := ⟨b, o + i, none⟩) (hb b hP h1)).trans (h2 i hi)⟩⟩
theorem own_boolsB {P : Nat} {w : World} {v : Value} {m : List Bool} (h : w.ownsRow P 4 1 v m.length (m.map fun i => .bool i)) (hl : m.length ≤ 1048576) : ∃ a c, v = .slice a m.length c ∧ BoolsB P w a m := by
  obtain ⟨a, c, hv, hb⟩ := RowM.at (show RowM P w v m from h) hl
  refine ⟨a, c, hv, hl, ?_⟩
  rcases hb.2 with h0 | ⟨b, o, e, h1, h2⟩
  · exact .inl h0
  rcases h.2 with ⟨hv2, h0⟩ | ⟨g, cap2, cur, hv2, hB, hc, _⟩
  · exact .inl (List.length_eq_zero_iff.1 h0)
  · rw [hv, e] at hv2
    simp only [Value.slice.injEq, Option.some.injEq, Addr.mk.injEq] at hv2
    exact .inr ⟨b, o, e, by omega, h1, h2⟩
/-- What DrawCnfTrue answers. -/
def DrawnTrue (w' : World) (e : Ending) : Prop := ∃ (vars : Int) (va : Option Addr) (vc : Nat) (ls : List (List Int)) (ma : Option Addr) (m : List Bool) (mc : Nat), e = .returned (.tuple #[.agg #[.int .i64 vars, .slice va ls.length vc], .slice ma m.length mc]) ∧
  (ClsAt w' va ls ∧ (ls = [] ∨ ∃ g, va = some ⟨g, 0, none⟩ ∧ ls.length ≤ vc ∧ vc ≤ maxLen) ∧ (va = none → vc = 0) ∧ ls.length ≤ 26) ∧ BoolsAt w' ma m ∧ m.length ≤ 400
theorem DR.finB {B rb cb rs P P' : Nat} {w0 x : World} {m vars : Int} {V : Value} {ls : List (List Int)} {vs : List Value} (h : DR B rb cb rs P w0 m vars V ls vs x) (hP : rs < P) (hl : ls.length ≤ 26) (hsh : ∀ r ∈ ls, r.length ≤ 3) {ma : Option Addr} {ml : List Bool} {mc : Nat}
    (hP' : rs < P') (hc : BoolsB P' x ma ml) (h4 : ml.length ≤ 400) :
    let y := (x.setCell ⟨rs, 0, none⟩ (.int .i64 vars)).setCell ⟨rs, 1, none⟩ V
    (DrawnTrue y (.returned (.tuple #[.agg #[.int .i64 vars, V], .slice ma ml.length mc])) ∧ Below rs w0 y) ∧ y.cell? ⟨rs, 0, none⟩ = some (.int .i64 vars) ∧ y.cell? ⟨rs, 1, none⟩ = some V := by
  intro y
  have e1 := blk_set h.res 0 (.int .i64 vars)
  have hy : y.heap[rs]? = some (cnfCells vars V) := by
    show ((x.setCell ⟨rs, 0, none⟩ (.int .i64 vars)).setCell ⟨rs, 1, none⟩ V).heap[rs]? = _
    rw [blk_set e1 1 _]; rfl
  obtain ⟨c0, c1, _⟩ := two hy
  have ho : ∀ g, g ≠ rs → y.heap[g]? = x.heap[g]? := fun g hg => (blk_setCell_other _ _ _ _ hg).trans (blk_setCell_other _ _ _ _ hg)
  have hz : x.heap.size = y.heap.size := by show _ = ((x.setCell ⟨rs, 0, none⟩ (.int .i64 vars)).setCell ⟨rs, 1, none⟩ V).heap.size; rw [nblk_setCell, nblk_setCell]
  have hg : OldB x P rs y := ⟨rfl, rfl, rfl, by omega, fun k hk hne => ho k hne⟩
  have hL := h.rows.but hg (Nat.lt_succ_self _) h.l1 h.l2
  obtain ⟨va, vc, hv, q1, q2, q3, hcv⟩ := hL.clsB (by omega) (fun c hc => by have := hsh c hc; omega)
  have hcap : ls = [] ∨ ∃ g, va = some ⟨g, 0, none⟩ ∧ ls.length ≤ vc ∧ vc ≤ maxLen := by
    rcases hL.own.2 with ⟨h, h0⟩ | ⟨g, cap, cur, h, _, _, h1, h2, _⟩
    · exact .inl (List.length_eq_zero_iff.1 h0)
    · rw [hv] at h
      simp only [Value.slice.injEq, true_and] at h
      exact .inr ⟨g, h.1, by rw [h.2]; exact h1, by rw [h.2]; exact h2⟩
  subst hv
  exact ⟨⟨⟨vars, va, vc, ls, ma, ml, mc, rfl, ⟨hcv.cls, hcap, q3, hl⟩, (hc.kept (by omega) (fun g hgP _ => ho g (by omega))).bools, h4⟩, h.low.trans ⟨rfl, rfl, rfl, by omega, fun g hgl => ho g (by omega)⟩⟩, c0, c1⟩
/-- Other clauses are stored. -/
theorem DR.again {B rb cb rs P : Nat} {w0 x y : World} {m m' vars vars' : Int} {V : Value} {ls ls' : List (List Int)} {vs vs' : List Value} {va' : Option Addr} {vn' vc' : Nat} (h : DR B rb cb rs P w0 m vars V ls vs x) (hr : Rd B y rb m') (hw : Wrote B isRd x y) (hL : LstI x.heap.size y (.slice va' vn' vc') ls' vs') (hB : rs ≤ B) (hrb : rb < cb) (hcb : rs < cb) :
    let z := (y.setCell ⟨cb, 0, none⟩ (.int .i64 vars')).setCell ⟨cb, 1, none⟩ (.slice va' vn' vc')
    DR B rb cb rs z.heap.size w0 m' vars' (.slice va' vn' vc') ls' vs' z := by
  intro z
  have hp := h.picked hr hw hB
  have hc := (Array.getElem?_eq_some_iff.1 h.cell).1
  have e1 := blk_set hp.cell 0 (.int .i64 vars')
  have hz : z.heap.size = y.heap.size := by show ((y.setCell ⟨cb, 0, none⟩ (.int .i64 vars')).setCell ⟨cb, 1, none⟩ _).heap.size = _; rw [nblk_setCell, nblk_setCell]
  have hpast := hr.past
  have hL2 := (hL.set2 (b := cb) hc 0 (.int .i64 vars')).set2 (b := cb) hc 1 (.slice va' vn' vc')
  refine ⟨(hr.set (by omega) (by omega) _ _).set (by omega) (by omega) _ _, Below.setCell (Below.setCell hp.low (by show rs ≤ cb; omega) _) (by show rs ≤ cb; omega) _, ?_, ?_, lst_lowD hL2 (by have := (Array.getElem?_eq_some_iff.1 h.res).1; omega), ?_, ?_, Nat.le_refl _⟩
  · show ((y.setCell ⟨cb, 0, none⟩ (.int .i64 vars')).setCell ⟨cb, 1, none⟩ _).heap[cb]? = _
    rw [blk_set e1 1 _]; rfl
  · exact (blk_setCell_other _ _ _ _ (by show rs ≠ cb; omega)).trans ((blk_setCell_other _ _ _ _ (by show rs ≠ cb; omega)).trans hp.res)
  · intro j hj
    have := (World.ownsRow.lt hL.own j hj).2
    omega
  · intro i j hi hj
    have := hL.lt i j hi hj
    omega

theorem boolNoRd : (4 : TypeId) ≠ 76 := by decide
theorem RowM.wrote {B B' : Nat} {w w' : World} {v : Value} {m : List Bool} (h : RowM B w v m) (hw : Wrote B' isRd w w') : RowM B w' v m := owns_wrote h hw boolNoRd
/-- Clauses and a model at once, in the midst of a drawing. -/
def LpC (cb : Nat) (w0 x : World) (v : Value) (md : Int) : Prop := ∃ (vars : Int) (va : Option Addr) (vc : Nat) (ls : List (List Int)) (vs : List Value) (P : Nat) (ma : Option Addr) (m : List Bool) (mc : Nat), v = .slice ma m.length mc ∧ DR (w0.heap.size + 1) (w0.heap.size + 1) cb w0.heap.size P w0 md vars (.slice va ls.length vc) ls vs x ∧ RowM P x v m ∧ ls.length ≤ 26 ∧ (∀ r ∈ ls, r.length ≤ 3) ∧ m.length ≤ 400 ∧ cb < P
/-- How many are drawn at last. -/
def RNum (B rb cb rs P O : Nat) (w0 : World) (md vars : Int) (V : Value) (ls : List (List Int)) (vs : List Value) (o : Value) (us : List Value) (x : World) : Prop :=
  (x.cell? ⟨cb, 0, none⟩ = some (.int .i64 vars) ∧ (us = [] → DR B rb cb rs P w0 md vars V ls vs x) ∧ (us ≠ [] → DR B rb cb rs P w0 (md + 1) vars V ls vs x) ∧ RowM O x o []) ∧
  (∀ y, us = [y] → ∃ q : Nat, y = .int .i64 (q : Int) ∧ q < 9) ∧ (∀ y z, us = [y, z] → ∃ q : Nat, z = .int .i64 (q : Int) ∧ q < 2) ∧ ∀ y z u, us = [y, z, u] → ∃ t : Int, u = .int .i64 t
theorem bools_set {P g cap k : Nat} {x : World} {m : List Bool} {c : Bool} (ho : RowM P x (.slice (some ⟨g, 0, none⟩) m.length cap) m) (hk : k < m.length) (hl : m.length ≤ 1048576) : BoolsB P (x.setCell ⟨g, k, none⟩ (.bool c)) (some ⟨g, 0, none⟩) (m.set k c) := by
  have hlt := World.ownsRow.lt ho g rfl
  refine ⟨by simpa using hl, .inr ⟨g, 0, rfl, hlt.1, by rw [nblk_setCell]; exact hlt.2, fun i hi => ?_⟩⟩
  rw [List.length_set] at hi
  have hcell := World.ownsRow.cellAt ho i (by omega)
  rw [Nat.zero_add]
  by_cases e : i = k
  · subst e
    have hg2 : (m.set i c).getD i false = c := by simp [List.getD, hi]
    rw [hg2]
    have hcs : ∃ v, x.cell? ⟨g, i, none⟩ = some v := ⟨_, by rw [hcell]; exact List.getElem?_eq_getElem (by simpa using hi)⟩
    obtain ⟨v, hv⟩ := hcs
    exact World.cell?_setCell_same _ _ _ hv
  · have hg2 : (m.set k c).getD i false = m.getD i false := by simp [List.getD, List.getElem?_set, Ne.symm e]
    rw [hg2, World.cell?_setCell_other _ _ _ _ (by intro h; apply e; simpa using h.symm), hcell]
    simp [List.getD, hi]

set_option maxRecDepth 100000 in
set_option maxHeartbeats 16000000 in
theorem DrawCnfTrue_V (a : Option Addr) (n c : Nat) (w : World) (h : CodeAt w.heap.size w a n) (hn : n ≤ 1048576) (hc : n ≤ c) (hc2 : c ≤ maxLen) :
    Calls Try.prog 18 #[.slice a n c] w fun e w' => DrawnTrue w' e ∧ Below w.heap.size w w' := by
  obtain ⟨i1, hj1, hy0, hy1, hy2⟩ := info_parts Try.infoMd
  have b0 := (Below.refl w.heap.size w).alloc (Nat.le_refl _) (.cells #[.int .i64 0, .slice none 0 0] 25)
  have hcode := h.below b0 (Nat.le_refl _)
  have HF0 := hide (show (w.alloc (.cells #[.int .i64 0, .slice none 0 0] 25)).heap[w.heap.size]? = some (cnfCells 0 (.slice none 0 0)) from blk_alloc_new _ _)
  go_enter Try.func18, Try.ntmps18
  go_wp2_with fail
  refine (l6Open_any a n c _ hcode hn hc hc2).mono ?_
  rintro e w1 ⟨rfl, R1, b1⟩
  simp only [nblk_alloc] at R1 b1
  have hz1' := b1.size
  simp at hz1'
  have res1 := (b1.block w.heap.size (by omega)).trans (unhide HF0)
  have B1 : Below w.heap.size w w1 := b0.trans (b1.mono (by omega))
  have hrl := R1.lt
  clear b0 b1 hcode HF0 h
  go_wp2_with fail
  refine (l71Cnf_V (w.heap.size + 1) (w.heap.size + 1) 0 _ R1 (by omega)).mono ?_
  rintro e w2 ⟨⟨vars, v, ls, vs, rfl, hL, hll, hsh⟩, R2, W2⟩
  obtain ⟨va, vc, hv⟩ := hL.slice
  subst hv
  have hz2' := W2.size
  have res2 := W2.blk res1 cnfNoRd
  have B2 := B1.trans (W2.bel (B' := w.heap.size) (by omega) (by omega))
  have bp := (Below.refl w2.heap.size w2).alloc (Nat.le_refl _) (.cells #[.int .i64 vars, .slice va ls.length vc] 25)
  have hcl : (w2.alloc (.cells #[.int .i64 vars, .slice va ls.length vc] 25)).heap[w2.heap.size]? = some (cnfCells vars (.slice va ls.length vc)) := blk_alloc_new _ _
  have hsz3 : (w2.alloc (.cells #[.int .i64 vars, .slice va ls.length vc] 25)).heap.size = w2.heap.size + 1 := by simp
  have hLlt : (∀ j, (Value.slice va ls.length vc).ownBlock = some j → j < w2.heap.size) ∧ ∀ i j, i < ls.length → (vs.getD i undef).ownBlock = some j → j < w2.heap.size := ⟨fun j hj => (World.ownsRow.lt hL.own j hj).2, hL.lt⟩
  have hD3 : DR (w.heap.size + 1) (w.heap.size + 1) w2.heap.size w.heap.size (w2.heap.size + 1) w (0 + 400) vars (.slice va ls.length vc) ls vs (w2.alloc (.cells #[.int .i64 vars, .slice va ls.length vc] 25)) :=
    ⟨R2.below bp, B2.trans (bp.mono (by omega)), hcl, (bp.block _ (by omega)).trans res2, lst_lowD (hL.on bp) (by omega), fun j hj => by have := hLlt.1 j hj; omega, fun i j hi hj => by have := hLlt.2 i j hi hj; omega, by omega⟩
  have HD3 := hide hD3
  have HSH := hide hsh
  obtain ⟨va', vc', hv', hcls⟩ := (unhide HD3).rows.cls (by omega) hsh
  simp only [Value.slice.injEq, true_and] at hv'
  obtain ⟨rfl, rfl⟩ := hv'
  have HC3 := hide hcls
  obtain ⟨kz, mz, p, hr⟩ : ∃ kz mz p, satZ vars ls 100 = (kz, mz, p) := ⟨_, _, _, rfl⟩
  obtain ⟨sm1, _⟩ := sat_small hr
  have HSF := hide (specSatFind_any vars va ls vc 100 _ (unhide HC3))
  rw [hr] at HSF
  obtain ⟨x0, x1, xf⟩ := two hcl
  have hcbl : w.heap.size + 1 < w2.heap.size := by omega
  clear R1 W2 res1 B1 hL R2 res2 B2 bp hsh hcls hD3 hLlt hr HC3 xf hcl
  go_upto_region 3 with fail
  generalize w2.alloc (.cells #[.int .i64 vars, .slice va ls.length vc] 25) = w3 at HD3 HSF hsz3 x0 x1 ⊢
  generalize w2.heap.size = cb at HD3 hcbl hsz3 x0 x1 ⊢
  go_wp2_with fail
  refine (unhide HSF).mono ?_
  rintro e w4 ⟨⟨mv, pv, qs, rfl, hm4, hp4⟩, b4⟩
  rw [hsz3] at b4 hp4 hm4
  obtain ⟨ma, mc, hmv, hmb⟩ := own_boolsB (m := mz) hm4 (by omega)
  subst hmv
  have HD4 := hide ((unhide HD3).far b4 (by omega) (by omega) (by omega))
  have HM4 : Hid (RowM (cb + 1) w4 (.slice ma mz.length mc) mz) := hm4
  clear HSF HD3 hm4 hp4 hmb b4 x0 x1 hsz3 hrl hz1' hz2'
  have hP0 : w.heap.size < cb + 1 := by omega
  by_cases hm0 : mz.length = 0
  · have hmn : mz = [] := List.length_eq_zero_iff.1 hm0
    subst hmn
    have HL4 : Hid (LpC cb w w4 (.slice ma ([] : List Bool).length mc) (402 + 401 * 0)) := ⟨vars, va, vc, ls, vs, cb + 1, ma, [], mc, rfl, (unhide HD4).more (by omega), unhide HM4, hll, unhide HSH, sm1, by omega⟩
    clear HD4 HM4 HSH hll sm1
    go_wp2_with fail
    go_loopw [7, 10] (fun v i wr => ∃ n : Nat, n ≤ 8 ∧ i = .int .i64 (n : Int) ∧ Hid (LpC cb w wr v (402 + 401 * n))) (fun _ i _ => 8 - (intOf i).toNat)
    case atStart => exact ⟨0, by omega, rfl, HL4⟩
    case round =>
      rename World => wo
      obtain ⟨n, hn, rfl, HL⟩ := hrel
      clear HL4
      obtain ⟨vars, va, vc, ls, vs, P, ma, m, mc, hmv, hD, hM, hll, hsh, hml, hcP⟩ := unhide HL
      subst hmv
      have HD5 := hide hD
      have HM5 := hide hM
      have HSH := hide hsh
      have hcbP : w.heap.size < P := by omega
      clear HL hD hM hsh
      obtain ⟨x0, x1, xf⟩ := two (unhide HD5).cell
      by_cases hn8 : n < 8
      · have k1 : (n : Int) < 8 := by omega
        by_cases hm0 : m.length = 0
        · have k2 : ((m.length : Int) == 0) = true := by rw [beq_iff_eq]; omega
          clear xf
          go_wp2_with fail
          refine (l71Cnf_V (w.heap.size + 1) (w.heap.size + 1) _ _ (unhide HD5).rd (by omega)).mono ?_
          rintro e w6 ⟨⟨vars', v', ls', vs', rfl, hL', hll', hsh'⟩, R6, W6⟩
          obtain ⟨va', vc', hv'⟩ := hL'.slice
          subst hv'
          have hag := (unhide HD5).again (vars' := vars') R6 W6 hL' (by omega) (by omega) (by omega)
          have hc6 := ((unhide HD5).picked R6 W6 (by omega)).cell
          obtain ⟨y0, y1, yf⟩ := two hc6
          have yf0 := yf 0
          have yf1 := yf 1
          have HAG := hide hag
          have HSH' := hide hsh'
          clear HD5 HM5 HSH hL' R6 W6 hc6 hag hsh' x0 x1 yf
          go_upto_region 13 with fail
          obtain ⟨w7, hw7⟩ : ∃ w7, w7 = (w6.setCell ⟨cb, 0, none⟩ (.int .i64 vars')).setCell ⟨cb, 1, none⟩ (.slice va' ls'.length vc') := ⟨_, rfl⟩
          have HAG7 : Hid (DR (w.heap.size + 1) (w.heap.size + 1) cb w.heap.size w7.heap.size w (402 + 401 * n + 400) vars' (.slice va' ls'.length vc') ls' vs' w7) := by rw [hw7]; exact HAG
          rw [← hw7]
          clear hw7 HAG y0 y1 yf0 yf1
          obtain ⟨x0, x1, xf⟩ := two (unhide HAG7).cell
          have hcb7 := (Array.getElem?_eq_some_iff.1 (unhide HAG7).cell).1
          obtain ⟨va2, vc2, hv2, hcls⟩ := (unhide HAG7).rows.cls (by omega) (unhide HSH')
          simp only [Value.slice.injEq, true_and] at hv2
          obtain ⟨rfl, rfl⟩ := hv2
          obtain ⟨kz, mz, p, hr⟩ : ∃ kz mz p, satZ vars' ls' 100 = (kz, mz, p) := ⟨_, _, _, rfl⟩
          obtain ⟨sm1, _⟩ := sat_small hr
          have HSF := hide (specSatFind_any vars' va' ls' vc' 100 w7 hcls)
          rw [hr] at HSF
          clear hcls hr xf
          go_wp2_with fail
          refine (unhide HSF).mono ?_
          rintro e w8 ⟨⟨mv, pv, qs, rfl, hm8, hp8⟩, b8⟩
          obtain ⟨ma8, mc8, hmv8, _⟩ := own_boolsB (m := mz) hm8 (by omega)
          subst hmv8
          have HL8 : Hid (LpC cb w w8 (.slice ma8 mz.length mc8) (402 + 401 * ((n + 1 : Nat) : Int))) := ⟨vars', va', vc', ls', vs', w7.heap.size, ma8, mz, mc8, rfl, ((unhide HAG7).far b8 (by omega) hcb7 (by omega)).more (by omega), hm8, hll', unhide HSH', sm1, hcb7⟩
          clear HSF HAG7 hm8 hp8 b8 x0 x1 HSH'
          go_wp2_with fail
          go_roundw
          case rel => exact ⟨n + 1, by omega, by go_num, HL8⟩
          case measure => simp [intOf]; omega
        · have k2 : ((m.length : Int) == 0) = false := by rw [beq_eq_false_iff_ne]; omega
          have k3 : (0 : Int) < (m.length : Int) := by omega
          clear xf x0 x1
          go_wp2_with fail
          refine (pick_any (w.heap.size + 1) (w.heap.size + 1) _ 2 _ (unhide HD5).rd (by omega) (by omega) (by omega)).mono ?_
          rintro e w6 ⟨⟨q, rfl, q0, q1⟩, R6, W6⟩
          have HD6 := hide ((unhide HD5).picked R6 W6 (by omega))
          have HM6 := hide ((unhide HM5).wrote W6)
          clear HD5 HM5 R6 W6
          by_cases hq : q = 0
          · subst hq
            obtain ⟨ma', mc', e1, hbb⟩ := own_boolsB (unhide HM6) (by omega)
            simp only [Value.slice.injEq, true_and] at e1
            obtain ⟨rfl, rfl⟩ := e1
            have hfin := (unhide HD6).finB hcbP hll (unhide HSH) (mc := mc) hcbP hbb (by omega)
            obtain ⟨x0, x1, xf⟩ := two (unhide HD6).cell
            obtain ⟨r0, r1, rf⟩ := two (unhide HD6).res
            have rf0 := rf 0
            have rf1 := rf 1
            have HF := hide hfin
            clear hfin xf rf HD6
            go_wp2_with fail
            obtain ⟨⟨f1, f2⟩, R0, R1⟩ := unhide HF
            exact bodyPost_ret (v := .tuple #[.agg #[.int .i64 vars, .slice va ls.length vc], .slice (ma) m.length mc]) (by simp [results, Try.results18, go_sem, R0, R1]) rfl ⟨f1, f2⟩
          · have hqb : (q == 0) = false := by rw [beq_eq_false_iff_ne]; exact hq
            obtain ⟨wk, hwk⟩ : ∃ wk, wk = w6 := ⟨_, rfl⟩
            obtain ⟨md, hmd, HDK⟩ : ∃ md : Int, md ≤ 10000 ∧ Hid (DR (w.heap.size + 1) (w.heap.size + 1) cb w.heap.size P w md vars (.slice va ls.length vc) ls vs wk) := by rw [hwk]; exact ⟨_, by omega, HD6⟩
            rw [← hwk]
            clear HD6 HM6 hwk
            have hcbk : cb < wk.heap.size := (Array.getElem?_eq_some_iff.1 (unhide HDK).cell).1
            have hpk := (unhide HDK).past
            have bn := (Below.refl wk.heap.size wk).alloc (Nat.le_refl _) (.cells #[] 4)
            have HDA := hide ((unhide HDK).far (bn.mono hpk) (by omega) hcP hcbP)
            have HRA := hide (RowM.nil wk)
            obtain ⟨x0, x1, xf⟩ := two (unhide HDA).cell
            clear bn xf
            go_upto_region 17 with fail
            have HC6 : Hid (RNum (w.heap.size + 1) (w.heap.size + 1) cb w.heap.size P wk.heap.size w md vars (.slice va ls.length vc) ls vs (.slice (some ⟨wk.heap.size, 0, none⟩) 0 0) [] (wk.alloc (.cells #[] 4)).drew) := ⟨⟨x0, fun _ => (unhide HDA).far (Below.refl _ _).drew (by omega) hcP hcbP, (fun h => absurd rfl h), unhide HRA⟩, (fun _ h => by cases h), (fun _ _ h => by cases h), (fun _ _ _ h => by cases h)⟩
            clear HDA HRA x0 x1 HDK
            refine wp_region_mix (k := 100) 6 [3, 4, 5] [.pointer (some ⟨cb, 0, none⟩), .int .i64 vars, .pointer (some ⟨w.heap.size + 1, 0, none⟩), undef, undef, undef] (fun _ us x => RNum (w.heap.size + 1) (w.heap.size + 1) cb w.heap.size P wk.heap.size w md vars (.slice va ls.length vc) ls vs (.slice (some ⟨wk.heap.size, 0, none⟩) 0 0) us x) (by kernel_rfl) (by kernel_rfl) (by kernel_rfl) (by kernel_rfl) (by kernel_rfl) (by kernel_rfl) (unhide HC6) ?_ ?_ ?_
            · intro full hfull i oo hi' hns ho x fl us hC hb
              simp [putAll, slotOf, Act.put] at hfull
              subst hfull
              have hC0 : RNum (w.heap.size + 1) (w.heap.size + 1) cb w.heap.size P wk.heap.size w md vars (.slice va ls.length vc) ls vs (.slice (some ⟨wk.heap.size, 0, none⟩) 0 0) us x := hC
              have y0 := hC0.1.1
              match i with
              | 0 => simp at ho; subst ho; simp [gwp, Region.wanted, yielded]; go_simp; first | done | exact hC0 | exact ⟨rfl, hC0⟩ | (simp; exact hC0) | (refine ⟨by simp <;> omega, hC0⟩)
              | 1 => simp at ho; subst ho; simp [gwp, Region.wanted, yielded]; go_simp; first | done | exact hC0 | exact ⟨rfl, hC0⟩ | (simp; exact hC0) | (refine ⟨by simp <;> omega, hC0⟩)
              | 2 => simp at ho; subst ho; simp [gwp, Region.wanted, yielded]; go_simp; first | done | exact hC0 | exact ⟨rfl, hC0⟩ | (simp; exact hC0) | (refine ⟨by simp <;> omega, hC0⟩)
              | 3 => simp at hns
              | 4 => simp at hns
              | 5 => simp at hns
              | i + 6 => omega
            · intro full hfull us j hj' oo ho x fl hC
              simp [putAll, slotOf, Act.put] at hfull
              subst hfull
              match us with
              | [] =>
                simp at hj'
                subst hj'
                simp at ho
                subst ho
                have hD := hC.1.2.1 rfl
                have hM := hC.1.2.2.2
                have HDX := hide hD
                have HMX := hide hM
                clear hC hM
                simp [gwp, Region.wanted, yielded, putP]
                go_simp
                refine (pick_any (w.heap.size + 1) (w.heap.size + 1) _ 9 _ hD.rd (by omega) (by omega) (by omega)).mono ?_
                rintro e y ⟨⟨q, rfl, q0, q1⟩, hR, hW⟩
                have hDy := (unhide HDX).picked hR hW (by omega)
                have hC1 : RNum (w.heap.size + 1) (w.heap.size + 1) cb w.heap.size P wk.heap.size w md vars (.slice va ls.length vc) ls vs (.slice (some ⟨wk.heap.size, 0, none⟩) 0 0) [.int .i64 q] y := ⟨⟨(two hDy.cell).1, (fun h => by cases h), fun _ => hDy, (unhide HMX).wrote hW⟩, fun a h => ⟨q.toNat, by cases h; rw [show ((q.toNat : Nat) : Int) = q by omega], by omega⟩, (fun _ _ h => by cases h), (fun _ _ _ h => by cases h)⟩
                clear hD hDy
                go_simp
                first | done | exact hC1 | exact ⟨_, rfl, hC1⟩ | (simp; exact hC1)
              | [y] =>
                simp at hj'
                subst hj'
                simp at ho
                subst ho
                obtain ⟨q, rfl, hq⟩ := hC.2.1 y rfl
                have hq8 : (q : Int).tdiv 8 = ((q / 8 : Nat) : Int) := by rw [Int.tdiv_eq_ediv_of_nonneg (by omega)]; norm_cast
                have hw8 : IntKind.i64.wrap ((q / 8 : Nat) : Int) = ((q / 8 : Nat) : Int) := by rw [IntKind.wrap_i64]; omega
                have hC1 : RNum (w.heap.size + 1) (w.heap.size + 1) cb w.heap.size P wk.heap.size w md vars (.slice va ls.length vc) ls vs (.slice (some ⟨wk.heap.size, 0, none⟩) 0 0) [.int .i64 (q : Int), .int .i64 ((q / 8 : Nat) : Int)] x := ⟨⟨hC.1.1, (fun h => by cases h), fun _ => hC.1.2.2.1 (by simp), hC.1.2.2.2⟩, (fun _ h => by cases h), (fun a b h => by cases h; exact ⟨q / 8, rfl, by omega⟩), (fun _ _ _ h => by cases h)⟩
                have HC1 := hide hC1
                clear hC hC1
                obtain ⟨z, hz⟩ : ∃ z, z = q / 8 := ⟨_, rfl⟩
                rw [← hz] at hq8 hw8 HC1
                clear hz
                simp [gwp, Region.wanted, yielded, putP, slotOf, Act.put]
                go_simp
                first | done | exact unhide HC1 | exact ⟨_, rfl, unhide HC1⟩ | (simp; exact unhide HC1)
              | [y, z] =>
                simp at hj'
                subst hj'
                simp at ho
                subst ho
                obtain ⟨q, rfl, hq⟩ := hC.2.2.1 y z rfl
                obtain ⟨tv, htv⟩ : ∃ tv, IntKind.i64.wrap (vars + (q : Int)) = tv := ⟨_, rfl⟩
                have hC1 : RNum (w.heap.size + 1) (w.heap.size + 1) cb w.heap.size P wk.heap.size w md vars (.slice va ls.length vc) ls vs (.slice (some ⟨wk.heap.size, 0, none⟩) 0 0) [y, .int .i64 (q : Int), .int .i64 tv] x := ⟨⟨hC.1.1, (fun h => by cases h), fun _ => hC.1.2.2.1 (by simp), hC.1.2.2.2⟩, (fun _ h => by cases h), (fun _ _ h => by cases h), (fun a b c h => by cases h; exact ⟨_, rfl⟩)⟩
                have HC1 := hide hC1
                clear hC hC1
                simp [gwp, Region.wanted, yielded, putP, slotOf, Act.put]
                go_simp
                first | done | exact unhide HC1 | exact ⟨_, rfl, unhide HC1⟩ | (simp; exact unhide HC1)
              | _ :: _ :: _ :: _ => simp at hj'
            intro full hfull us x hus hC
            simp [putAll, slotOf, Act.put] at hfull
            subst hfull
            match us, hus with
            | [y, z, u], _ =>
            obtain ⟨t0, rfl⟩ := hC.2.2.2 y z u rfl
            have HDX := hide (hC.1.2.2.1 (by simp))
            have HMX := hide hC.1.2.2.2
            have hxk : wk.heap.size ≤ x.heap.size := by
              rcases (unhide HMX).2 with ⟨hv, _⟩ | ⟨g, _, _, hv, hg, hc, _⟩
              · cases hv
              · have := (Array.getElem?_eq_some_iff.1 hc).1; omega
            clear hC HC6
            simp [putP, slotOf, Act.put]
            go_wp2_with fail
            go_loopw [11, 12] (fun o i wr => ∃ (l : List Bool) (t : Int), i = .int .i64 t ∧ wk.heap.size ≤ wr.heap.size ∧ l.length ≤ 49 ∧ (l = [] ∨ (l.length : Int) + t ≤ 49) ∧ Hid (RowM wk.heap.size wr o l) ∧ Hid (DR (w.heap.size + 1) (w.heap.size + 1) cb w.heap.size P w (md + 1 + l.length) vars (.slice va ls.length vc) ls vs wr)) (fun _ i _ => (intOf i).toNat)
            case atStart => exact ⟨[], t0, rfl, hxk, by simp, .inl rfl, HMX, (unhide HDX).more (by simp)⟩
            case round =>
              rename World => wr
              obtain ⟨l, t, rfl, hzr, hl49, hlt49, HM9, HD9⟩ := hrel
              clear HMX HDX
              obtain ⟨oa, oc, hov, _⟩ := own_boolsB (unhide HM9) (by omega)
              subst hov
              by_cases ht0 : 0 < t
              · by_cases ht1 : t < 50
                · have hwt : IntKind.i64.wrap (t - 1) = t - 1 := by rw [IntKind.wrap_i64]; omega
                  have hl48 : l.length ≤ 48 := by
                    rcases hlt49 with h | h
                    · rw [h]; simp
                    · omega
                  go_wp2_with fail
                  refine (pick_any (w.heap.size + 1) (w.heap.size + 1) _ 2 _ (unhide HD9).rd (by omega) (by omega) (by omega)).mono ?_
                  rintro e w10 ⟨⟨q, rfl, q0, q1⟩, R10, W10⟩
                  have HD10 := hide ((unhide HD9).picked R10 W10 (by omega))
                  have HM10 := hide ((unhide HM9).wrote W10)
                  have hz10 : wk.heap.size ≤ w10.heap.size := Nat.le_trans hzr W10.size
                  clear HD9 HM9 R10 W10
                  have hnew : (((l ++ [true]).length : Nat) : Int) + (t - 1) ≤ 49 := by
                    rcases hlt49 with h | h
                    · rw [h]; simp; omega
                    · simp; omega
                  have hnew2 : (l ++ [true]).length ≤ 49 := by simp; omega
                  have hnl : ∀ b : Bool, (l ++ [b]).length = (l ++ [true]).length := fun b => by simp
                  obtain ⟨bq, hbq⟩ : ∃ bq, (q == 0) = bq := ⟨_, rfl⟩
                  have hbq2 : decide (q = 0) = bq := by rw [← hbq]; rfl
                  have hown : w10.ownsRow wk.heap.size 4 1 (.slice oa l.length oc) l.length (l.map fun i => .bool i) := unhide HM10
                  have hblk : ∀ b, (Value.slice oa l.length oc).ownBlock = some b → wk.heap.size ≤ b := fun b hb => (World.ownsRow.lt hown b hb).1
                  have hpk2 := (unhide HD10).past
                  go_wp2_with (first
                    | (at_builtin; refine wpList_append_own _ rfl _ _ 34 rfl wk.heap.size 4 i1 (.bool false) 1 1 Try.underlying34 hj1 hy0 hy1 hy2 rfl (by decide) _ _ _ rfl (hown.alloc _) ⟨w10.heap.size, 0, none⟩ 1 1 [.bool bq] rfl rfl ?c1 ?c2 ?c3 ?c4 ?c5 ?_))
                  case c1 =>
                    intro j u hj
                    match j, hj with
                    | 0, hj => simp at hj; subst hj; simp [Addr.add]
                  case c2 => intro u hu; simp at hu; subst hu; rfl
                  case c3 => unfold maxLen; omega
                  case c4 => omega
                  case c5 => simp; omega
                  intro v' wj hown' hgrow _
                  have HM11 : Hid (RowM wk.heap.size wj v' (l ++ [bq])) := by
                    show RowM _ _ _ _
                    unfold RowM
                    simpa using hown'
                  have hzj := hgrow.size
                  simp at hzj
                  have HD11 := hide ((unhide HD10).far (y := wj) ⟨hgrow.os, hgrow.tape, hgrow.output, by omega, fun b hb => (hgrow.block b (by simp; omega) (fun e => by have := hblk b e.symm; omega)).trans (blk_alloc_lt _ _ _ (by omega))⟩ (by omega) hcP hcbP)
                  clear hown hown' hgrow HD10 HM10
                  go_wp2_with fail
                  go_roundw
                  case rel => exact ⟨l ++ [bq], t - 1, by simp [hwt], by omega, by rw [hnl]; exact hnew2, .inr (by rw [hnl]; exact hnew), HM11, (unhide HD11).more (by simp; omega)⟩
                  case measure => simp [intOf]; omega
                · have ht2 : (50 : Int) ≤ t := by omega
                  obtain ⟨oa', oc', e1, hbb⟩ := own_boolsB (unhide HM9) (by omega)
                  simp only [Value.slice.injEq, true_and] at e1
                  obtain ⟨rfl, rfl⟩ := e1
                  have hfin := (unhide HD9).finB hcbP hll (unhide HSH) (mc := oc) (by omega) hbb (by omega)
                  obtain ⟨x0, x1, xf⟩ := two (unhide HD9).cell
                  obtain ⟨r0, r1, rf⟩ := two (unhide HD9).res
                  have rf0 := rf 0
                  have rf1 := rf 1
                  have HF := hide hfin
                  clear hfin xf rf HD9
                  go_wp2_with fail
                  obtain ⟨⟨f1, f2⟩, R0, R1⟩ := unhide HF
                  exact bodyPost_ret (v := .tuple #[.agg #[.int .i64 vars, .slice va ls.length vc], .slice (oa) l.length oc]) (by simp [results, Try.results18, go_sem, R0, R1]) rfl ⟨f1, f2⟩
              · obtain ⟨oa', oc', e1, hbb⟩ := own_boolsB (unhide HM9) (by omega)
                simp only [Value.slice.injEq, true_and] at e1
                obtain ⟨rfl, rfl⟩ := e1
                have hfin := (unhide HD9).finB hcbP hll (unhide HSH) (mc := oc) (by omega) hbb (by omega)
                obtain ⟨x0, x1, xf⟩ := two (unhide HD9).cell
                obtain ⟨r0, r1, rf⟩ := two (unhide HD9).res
                have rf0 := rf 0
                have rf1 := rf 1
                have HF := hide hfin
                clear hfin xf rf HD9
                go_wp2_with fail
                obtain ⟨⟨f1, f2⟩, R0, R1⟩ := unhide HF
                exact bodyPost_ret (v := .tuple #[.agg #[.int .i64 vars, .slice va ls.length vc], .slice (oa) l.length oc]) (by simp [results, Try.results18, go_sem, R0, R1]) rfl ⟨f1, f2⟩
      · have k1 : ¬ (n : Int) < 8 := by omega
        by_cases hm0 : m.length = 0
        · have k3 : ¬ (0 : Int) < (m.length : Int) := by omega
          clear xf x0 x1
          obtain ⟨wk, hwk⟩ : ∃ wk, wk = wo := ⟨_, rfl⟩
          obtain ⟨md, hmd, HDK⟩ : ∃ md : Int, md ≤ 10000 ∧ Hid (DR (w.heap.size + 1) (w.heap.size + 1) cb w.heap.size P w md vars (.slice va ls.length vc) ls vs wk) := by rw [hwk]; exact ⟨_, by omega, HD5⟩
          rw [← hwk]
          clear HD5 HM5 hwk
          have hcbk : cb < wk.heap.size := (Array.getElem?_eq_some_iff.1 (unhide HDK).cell).1
          have hpk := (unhide HDK).past
          have bn := (Below.refl wk.heap.size wk).alloc (Nat.le_refl _) (.cells #[] 4)
          have HDA := hide ((unhide HDK).far (bn.mono hpk) (by omega) hcP hcbP)
          have HRA := hide (RowM.nil wk)
          obtain ⟨x0, x1, xf⟩ := two (unhide HDA).cell
          clear bn xf
          go_upto_region 17 with fail
          have HC6 : Hid (RNum (w.heap.size + 1) (w.heap.size + 1) cb w.heap.size P wk.heap.size w md vars (.slice va ls.length vc) ls vs (.slice (some ⟨wk.heap.size, 0, none⟩) 0 0) [] (wk.alloc (.cells #[] 4)).drew) := ⟨⟨x0, fun _ => (unhide HDA).far (Below.refl _ _).drew (by omega) hcP hcbP, (fun h => absurd rfl h), unhide HRA⟩, (fun _ h => by cases h), (fun _ _ h => by cases h), (fun _ _ _ h => by cases h)⟩
          clear HDA HRA x0 x1 HDK
          refine wp_region_mix (k := 100) 6 [3, 4, 5] [.pointer (some ⟨cb, 0, none⟩), .int .i64 vars, .pointer (some ⟨w.heap.size + 1, 0, none⟩), undef, undef, undef] (fun _ us x => RNum (w.heap.size + 1) (w.heap.size + 1) cb w.heap.size P wk.heap.size w md vars (.slice va ls.length vc) ls vs (.slice (some ⟨wk.heap.size, 0, none⟩) 0 0) us x) (by kernel_rfl) (by kernel_rfl) (by kernel_rfl) (by kernel_rfl) (by kernel_rfl) (by kernel_rfl) (unhide HC6) ?_ ?_ ?_
          · intro full hfull i oo hi' hns ho x fl us hC hb
            simp [putAll, slotOf, Act.put] at hfull
            subst hfull
            have hC0 : RNum (w.heap.size + 1) (w.heap.size + 1) cb w.heap.size P wk.heap.size w md vars (.slice va ls.length vc) ls vs (.slice (some ⟨wk.heap.size, 0, none⟩) 0 0) us x := hC
            have y0 := hC0.1.1
            match i with
            | 0 => simp at ho; subst ho; simp [gwp, Region.wanted, yielded]; go_simp; first | done | exact hC0 | exact ⟨rfl, hC0⟩ | (simp; exact hC0) | (refine ⟨by simp <;> omega, hC0⟩)
            | 1 => simp at ho; subst ho; simp [gwp, Region.wanted, yielded]; go_simp; first | done | exact hC0 | exact ⟨rfl, hC0⟩ | (simp; exact hC0) | (refine ⟨by simp <;> omega, hC0⟩)
            | 2 => simp at ho; subst ho; simp [gwp, Region.wanted, yielded]; go_simp; first | done | exact hC0 | exact ⟨rfl, hC0⟩ | (simp; exact hC0) | (refine ⟨by simp <;> omega, hC0⟩)
            | 3 => simp at hns
            | 4 => simp at hns
            | 5 => simp at hns
            | i + 6 => omega
          · intro full hfull us j hj' oo ho x fl hC
            simp [putAll, slotOf, Act.put] at hfull
            subst hfull
            match us with
            | [] =>
              simp at hj'
              subst hj'
              simp at ho
              subst ho
              have hD := hC.1.2.1 rfl
              have hM := hC.1.2.2.2
              have HDX := hide hD
              have HMX := hide hM
              clear hC hM
              simp [gwp, Region.wanted, yielded, putP]
              go_simp
              refine (pick_any (w.heap.size + 1) (w.heap.size + 1) _ 9 _ hD.rd (by omega) (by omega) (by omega)).mono ?_
              rintro e y ⟨⟨q, rfl, q0, q1⟩, hR, hW⟩
              have hDy := (unhide HDX).picked hR hW (by omega)
              have hC1 : RNum (w.heap.size + 1) (w.heap.size + 1) cb w.heap.size P wk.heap.size w md vars (.slice va ls.length vc) ls vs (.slice (some ⟨wk.heap.size, 0, none⟩) 0 0) [.int .i64 q] y := ⟨⟨(two hDy.cell).1, (fun h => by cases h), fun _ => hDy, (unhide HMX).wrote hW⟩, fun a h => ⟨q.toNat, by cases h; rw [show ((q.toNat : Nat) : Int) = q by omega], by omega⟩, (fun _ _ h => by cases h), (fun _ _ _ h => by cases h)⟩
              clear hD hDy
              go_simp
              first | done | exact hC1 | exact ⟨_, rfl, hC1⟩ | (simp; exact hC1)
            | [y] =>
              simp at hj'
              subst hj'
              simp at ho
              subst ho
              obtain ⟨q, rfl, hq⟩ := hC.2.1 y rfl
              have hq8 : (q : Int).tdiv 8 = ((q / 8 : Nat) : Int) := by rw [Int.tdiv_eq_ediv_of_nonneg (by omega)]; norm_cast
              have hw8 : IntKind.i64.wrap ((q / 8 : Nat) : Int) = ((q / 8 : Nat) : Int) := by rw [IntKind.wrap_i64]; omega
              have hC1 : RNum (w.heap.size + 1) (w.heap.size + 1) cb w.heap.size P wk.heap.size w md vars (.slice va ls.length vc) ls vs (.slice (some ⟨wk.heap.size, 0, none⟩) 0 0) [.int .i64 (q : Int), .int .i64 ((q / 8 : Nat) : Int)] x := ⟨⟨hC.1.1, (fun h => by cases h), fun _ => hC.1.2.2.1 (by simp), hC.1.2.2.2⟩, (fun _ h => by cases h), (fun a b h => by cases h; exact ⟨q / 8, rfl, by omega⟩), (fun _ _ _ h => by cases h)⟩
              have HC1 := hide hC1
              clear hC hC1
              obtain ⟨z, hz⟩ : ∃ z, z = q / 8 := ⟨_, rfl⟩
              rw [← hz] at hq8 hw8 HC1
              clear hz
              simp [gwp, Region.wanted, yielded, putP, slotOf, Act.put]
              go_simp
              first | done | exact unhide HC1 | exact ⟨_, rfl, unhide HC1⟩ | (simp; exact unhide HC1)
            | [y, z] =>
              simp at hj'
              subst hj'
              simp at ho
              subst ho
              obtain ⟨q, rfl, hq⟩ := hC.2.2.1 y z rfl
              obtain ⟨tv, htv⟩ : ∃ tv, IntKind.i64.wrap (vars + (q : Int)) = tv := ⟨_, rfl⟩
              have hC1 : RNum (w.heap.size + 1) (w.heap.size + 1) cb w.heap.size P wk.heap.size w md vars (.slice va ls.length vc) ls vs (.slice (some ⟨wk.heap.size, 0, none⟩) 0 0) [y, .int .i64 (q : Int), .int .i64 tv] x := ⟨⟨hC.1.1, (fun h => by cases h), fun _ => hC.1.2.2.1 (by simp), hC.1.2.2.2⟩, (fun _ h => by cases h), (fun _ _ h => by cases h), (fun a b c h => by cases h; exact ⟨_, rfl⟩)⟩
              have HC1 := hide hC1
              clear hC hC1
              simp [gwp, Region.wanted, yielded, putP, slotOf, Act.put]
              go_simp
              first | done | exact unhide HC1 | exact ⟨_, rfl, unhide HC1⟩ | (simp; exact unhide HC1)
            | _ :: _ :: _ :: _ => simp at hj'
          intro full hfull us x hus hC
          simp [putAll, slotOf, Act.put] at hfull
          subst hfull
          match us, hus with
          | [y, z, u], _ =>
          obtain ⟨t0, rfl⟩ := hC.2.2.2 y z u rfl
          have HDX := hide (hC.1.2.2.1 (by simp))
          have HMX := hide hC.1.2.2.2
          have hxk : wk.heap.size ≤ x.heap.size := by
            rcases (unhide HMX).2 with ⟨hv, _⟩ | ⟨g, _, _, hv, hg, hc, _⟩
            · cases hv
            · have := (Array.getElem?_eq_some_iff.1 hc).1; omega
          clear hC HC6
          simp [putP, slotOf, Act.put]
          go_wp2_with fail
          go_loopw [11, 12] (fun o i wr => ∃ (l : List Bool) (t : Int), i = .int .i64 t ∧ wk.heap.size ≤ wr.heap.size ∧ l.length ≤ 49 ∧ (l = [] ∨ (l.length : Int) + t ≤ 49) ∧ Hid (RowM wk.heap.size wr o l) ∧ Hid (DR (w.heap.size + 1) (w.heap.size + 1) cb w.heap.size P w (md + 1 + l.length) vars (.slice va ls.length vc) ls vs wr)) (fun _ i _ => (intOf i).toNat)
          case atStart => exact ⟨[], t0, rfl, hxk, by simp, .inl rfl, HMX, (unhide HDX).more (by simp)⟩
          case round =>
            rename World => wr
            obtain ⟨l, t, rfl, hzr, hl49, hlt49, HM9, HD9⟩ := hrel
            clear HMX HDX
            obtain ⟨oa, oc, hov, _⟩ := own_boolsB (unhide HM9) (by omega)
            subst hov
            by_cases ht0 : 0 < t
            · by_cases ht1 : t < 50
              · have hwt : IntKind.i64.wrap (t - 1) = t - 1 := by rw [IntKind.wrap_i64]; omega
                have hl48 : l.length ≤ 48 := by
                  rcases hlt49 with h | h
                  · rw [h]; simp
                  · omega
                go_wp2_with fail
                refine (pick_any (w.heap.size + 1) (w.heap.size + 1) _ 2 _ (unhide HD9).rd (by omega) (by omega) (by omega)).mono ?_
                rintro e w10 ⟨⟨q, rfl, q0, q1⟩, R10, W10⟩
                have HD10 := hide ((unhide HD9).picked R10 W10 (by omega))
                have HM10 := hide ((unhide HM9).wrote W10)
                have hz10 : wk.heap.size ≤ w10.heap.size := Nat.le_trans hzr W10.size
                clear HD9 HM9 R10 W10
                have hnew : (((l ++ [true]).length : Nat) : Int) + (t - 1) ≤ 49 := by
                  rcases hlt49 with h | h
                  · rw [h]; simp; omega
                  · simp; omega
                have hnew2 : (l ++ [true]).length ≤ 49 := by simp; omega
                have hnl : ∀ b : Bool, (l ++ [b]).length = (l ++ [true]).length := fun b => by simp
                obtain ⟨bq, hbq⟩ : ∃ bq, (q == 0) = bq := ⟨_, rfl⟩
                have hbq2 : decide (q = 0) = bq := by rw [← hbq]; rfl
                have hown : w10.ownsRow wk.heap.size 4 1 (.slice oa l.length oc) l.length (l.map fun i => .bool i) := unhide HM10
                have hblk : ∀ b, (Value.slice oa l.length oc).ownBlock = some b → wk.heap.size ≤ b := fun b hb => (World.ownsRow.lt hown b hb).1
                have hpk2 := (unhide HD10).past
                go_wp2_with (first
                  | (at_builtin; refine wpList_append_own _ rfl _ _ 34 rfl wk.heap.size 4 i1 (.bool false) 1 1 Try.underlying34 hj1 hy0 hy1 hy2 rfl (by decide) _ _ _ rfl (hown.alloc _) ⟨w10.heap.size, 0, none⟩ 1 1 [.bool bq] rfl rfl ?c1 ?c2 ?c3 ?c4 ?c5 ?_))
                case c1 =>
                  intro j u hj
                  match j, hj with
                  | 0, hj => simp at hj; subst hj; simp [Addr.add]
                case c2 => intro u hu; simp at hu; subst hu; rfl
                case c3 => unfold maxLen; omega
                case c4 => omega
                case c5 => simp; omega
                intro v' wj hown' hgrow _
                have HM11 : Hid (RowM wk.heap.size wj v' (l ++ [bq])) := by
                  show RowM _ _ _ _
                  unfold RowM
                  simpa using hown'
                have hzj := hgrow.size
                simp at hzj
                have HD11 := hide ((unhide HD10).far (y := wj) ⟨hgrow.os, hgrow.tape, hgrow.output, by omega, fun b hb => (hgrow.block b (by simp; omega) (fun e => by have := hblk b e.symm; omega)).trans (blk_alloc_lt _ _ _ (by omega))⟩ (by omega) hcP hcbP)
                clear hown hown' hgrow HD10 HM10
                go_wp2_with fail
                go_roundw
                case rel => exact ⟨l ++ [bq], t - 1, by simp [hwt], by omega, by rw [hnl]; exact hnew2, .inr (by rw [hnl]; exact hnew), HM11, (unhide HD11).more (by simp; omega)⟩
                case measure => simp [intOf]; omega
              · have ht2 : (50 : Int) ≤ t := by omega
                obtain ⟨oa', oc', e1, hbb⟩ := own_boolsB (unhide HM9) (by omega)
                simp only [Value.slice.injEq, true_and] at e1
                obtain ⟨rfl, rfl⟩ := e1
                have hfin := (unhide HD9).finB hcbP hll (unhide HSH) (mc := oc) (by omega) hbb (by omega)
                obtain ⟨x0, x1, xf⟩ := two (unhide HD9).cell
                obtain ⟨r0, r1, rf⟩ := two (unhide HD9).res
                have rf0 := rf 0
                have rf1 := rf 1
                have HF := hide hfin
                clear hfin xf rf HD9
                go_wp2_with fail
                obtain ⟨⟨f1, f2⟩, R0, R1⟩ := unhide HF
                exact bodyPost_ret (v := .tuple #[.agg #[.int .i64 vars, .slice va ls.length vc], .slice (oa) l.length oc]) (by simp [results, Try.results18, go_sem, R0, R1]) rfl ⟨f1, f2⟩
            · obtain ⟨oa', oc', e1, hbb⟩ := own_boolsB (unhide HM9) (by omega)
              simp only [Value.slice.injEq, true_and] at e1
              obtain ⟨rfl, rfl⟩ := e1
              have hfin := (unhide HD9).finB hcbP hll (unhide HSH) (mc := oc) (by omega) hbb (by omega)
              obtain ⟨x0, x1, xf⟩ := two (unhide HD9).cell
              obtain ⟨r0, r1, rf⟩ := two (unhide HD9).res
              have rf0 := rf 0
              have rf1 := rf 1
              have HF := hide hfin
              clear hfin xf rf HD9
              go_wp2_with fail
              obtain ⟨⟨f1, f2⟩, R0, R1⟩ := unhide HF
              exact bodyPost_ret (v := .tuple #[.agg #[.int .i64 vars, .slice va ls.length vc], .slice (oa) l.length oc]) (by simp [results, Try.results18, go_sem, R0, R1]) rfl ⟨f1, f2⟩
        · have k3 : (0 : Int) < (m.length : Int) := by omega
          clear xf x0 x1
          go_wp2_with fail
          refine (pick_any (w.heap.size + 1) (w.heap.size + 1) _ 2 _ (unhide HD5).rd (by omega) (by omega) (by omega)).mono ?_
          rintro e w6 ⟨⟨q, rfl, q0, q1⟩, R6, W6⟩
          have HD6 := hide ((unhide HD5).picked R6 W6 (by omega))
          have HM6 := hide ((unhide HM5).wrote W6)
          clear HD5 HM5 R6 W6
          by_cases hq : q = 0
          · subst hq
            obtain ⟨ma', mc', e1, hbb⟩ := own_boolsB (unhide HM6) (by omega)
            simp only [Value.slice.injEq, true_and] at e1
            obtain ⟨rfl, rfl⟩ := e1
            have hfin := (unhide HD6).finB hcbP hll (unhide HSH) (mc := mc) hcbP hbb (by omega)
            obtain ⟨x0, x1, xf⟩ := two (unhide HD6).cell
            obtain ⟨r0, r1, rf⟩ := two (unhide HD6).res
            have rf0 := rf 0
            have rf1 := rf 1
            have HF := hide hfin
            clear hfin xf rf HD6
            go_wp2_with fail
            obtain ⟨⟨f1, f2⟩, R0, R1⟩ := unhide HF
            exact bodyPost_ret (v := .tuple #[.agg #[.int .i64 vars, .slice va ls.length vc], .slice (ma) m.length mc]) (by simp [results, Try.results18, go_sem, R0, R1]) rfl ⟨f1, f2⟩
          · have hqb : (q == 0) = false := by rw [beq_eq_false_iff_ne]; exact hq
            obtain ⟨wk, hwk⟩ : ∃ wk, wk = w6 := ⟨_, rfl⟩
            obtain ⟨md, hmd, HDK⟩ : ∃ md : Int, md ≤ 10000 ∧ Hid (DR (w.heap.size + 1) (w.heap.size + 1) cb w.heap.size P w md vars (.slice va ls.length vc) ls vs wk) := by rw [hwk]; exact ⟨_, by omega, HD6⟩
            rw [← hwk]
            clear HD6 HM6 hwk
            have hcbk : cb < wk.heap.size := (Array.getElem?_eq_some_iff.1 (unhide HDK).cell).1
            have hpk := (unhide HDK).past
            have bn := (Below.refl wk.heap.size wk).alloc (Nat.le_refl _) (.cells #[] 4)
            have HDA := hide ((unhide HDK).far (bn.mono hpk) (by omega) hcP hcbP)
            have HRA := hide (RowM.nil wk)
            obtain ⟨x0, x1, xf⟩ := two (unhide HDA).cell
            clear bn xf
            go_upto_region 17 with fail
            have HC6 : Hid (RNum (w.heap.size + 1) (w.heap.size + 1) cb w.heap.size P wk.heap.size w md vars (.slice va ls.length vc) ls vs (.slice (some ⟨wk.heap.size, 0, none⟩) 0 0) [] (wk.alloc (.cells #[] 4)).drew) := ⟨⟨x0, fun _ => (unhide HDA).far (Below.refl _ _).drew (by omega) hcP hcbP, (fun h => absurd rfl h), unhide HRA⟩, (fun _ h => by cases h), (fun _ _ h => by cases h), (fun _ _ _ h => by cases h)⟩
            clear HDA HRA x0 x1 HDK
            refine wp_region_mix (k := 100) 6 [3, 4, 5] [.pointer (some ⟨cb, 0, none⟩), .int .i64 vars, .pointer (some ⟨w.heap.size + 1, 0, none⟩), undef, undef, undef] (fun _ us x => RNum (w.heap.size + 1) (w.heap.size + 1) cb w.heap.size P wk.heap.size w md vars (.slice va ls.length vc) ls vs (.slice (some ⟨wk.heap.size, 0, none⟩) 0 0) us x) (by kernel_rfl) (by kernel_rfl) (by kernel_rfl) (by kernel_rfl) (by kernel_rfl) (by kernel_rfl) (unhide HC6) ?_ ?_ ?_
            · intro full hfull i oo hi' hns ho x fl us hC hb
              simp [putAll, slotOf, Act.put] at hfull
              subst hfull
              have hC0 : RNum (w.heap.size + 1) (w.heap.size + 1) cb w.heap.size P wk.heap.size w md vars (.slice va ls.length vc) ls vs (.slice (some ⟨wk.heap.size, 0, none⟩) 0 0) us x := hC
              have y0 := hC0.1.1
              match i with
              | 0 => simp at ho; subst ho; simp [gwp, Region.wanted, yielded]; go_simp; first | done | exact hC0 | exact ⟨rfl, hC0⟩ | (simp; exact hC0) | (refine ⟨by simp <;> omega, hC0⟩)
              | 1 => simp at ho; subst ho; simp [gwp, Region.wanted, yielded]; go_simp; first | done | exact hC0 | exact ⟨rfl, hC0⟩ | (simp; exact hC0) | (refine ⟨by simp <;> omega, hC0⟩)
              | 2 => simp at ho; subst ho; simp [gwp, Region.wanted, yielded]; go_simp; first | done | exact hC0 | exact ⟨rfl, hC0⟩ | (simp; exact hC0) | (refine ⟨by simp <;> omega, hC0⟩)
              | 3 => simp at hns
              | 4 => simp at hns
              | 5 => simp at hns
              | i + 6 => omega
            · intro full hfull us j hj' oo ho x fl hC
              simp [putAll, slotOf, Act.put] at hfull
              subst hfull
              match us with
              | [] =>
                simp at hj'
                subst hj'
                simp at ho
                subst ho
                have hD := hC.1.2.1 rfl
                have hM := hC.1.2.2.2
                have HDX := hide hD
                have HMX := hide hM
                clear hC hM
                simp [gwp, Region.wanted, yielded, putP]
                go_simp
                refine (pick_any (w.heap.size + 1) (w.heap.size + 1) _ 9 _ hD.rd (by omega) (by omega) (by omega)).mono ?_
                rintro e y ⟨⟨q, rfl, q0, q1⟩, hR, hW⟩
                have hDy := (unhide HDX).picked hR hW (by omega)
                have hC1 : RNum (w.heap.size + 1) (w.heap.size + 1) cb w.heap.size P wk.heap.size w md vars (.slice va ls.length vc) ls vs (.slice (some ⟨wk.heap.size, 0, none⟩) 0 0) [.int .i64 q] y := ⟨⟨(two hDy.cell).1, (fun h => by cases h), fun _ => hDy, (unhide HMX).wrote hW⟩, fun a h => ⟨q.toNat, by cases h; rw [show ((q.toNat : Nat) : Int) = q by omega], by omega⟩, (fun _ _ h => by cases h), (fun _ _ _ h => by cases h)⟩
                clear hD hDy
                go_simp
                first | done | exact hC1 | exact ⟨_, rfl, hC1⟩ | (simp; exact hC1)
              | [y] =>
                simp at hj'
                subst hj'
                simp at ho
                subst ho
                obtain ⟨q, rfl, hq⟩ := hC.2.1 y rfl
                have hq8 : (q : Int).tdiv 8 = ((q / 8 : Nat) : Int) := by rw [Int.tdiv_eq_ediv_of_nonneg (by omega)]; norm_cast
                have hw8 : IntKind.i64.wrap ((q / 8 : Nat) : Int) = ((q / 8 : Nat) : Int) := by rw [IntKind.wrap_i64]; omega
                have hC1 : RNum (w.heap.size + 1) (w.heap.size + 1) cb w.heap.size P wk.heap.size w md vars (.slice va ls.length vc) ls vs (.slice (some ⟨wk.heap.size, 0, none⟩) 0 0) [.int .i64 (q : Int), .int .i64 ((q / 8 : Nat) : Int)] x := ⟨⟨hC.1.1, (fun h => by cases h), fun _ => hC.1.2.2.1 (by simp), hC.1.2.2.2⟩, (fun _ h => by cases h), (fun a b h => by cases h; exact ⟨q / 8, rfl, by omega⟩), (fun _ _ _ h => by cases h)⟩
                have HC1 := hide hC1
                clear hC hC1
                obtain ⟨z, hz⟩ : ∃ z, z = q / 8 := ⟨_, rfl⟩
                rw [← hz] at hq8 hw8 HC1
                clear hz
                simp [gwp, Region.wanted, yielded, putP, slotOf, Act.put]
                go_simp
                first | done | exact unhide HC1 | exact ⟨_, rfl, unhide HC1⟩ | (simp; exact unhide HC1)
              | [y, z] =>
                simp at hj'
                subst hj'
                simp at ho
                subst ho
                obtain ⟨q, rfl, hq⟩ := hC.2.2.1 y z rfl
                obtain ⟨tv, htv⟩ : ∃ tv, IntKind.i64.wrap (vars + (q : Int)) = tv := ⟨_, rfl⟩
                have hC1 : RNum (w.heap.size + 1) (w.heap.size + 1) cb w.heap.size P wk.heap.size w md vars (.slice va ls.length vc) ls vs (.slice (some ⟨wk.heap.size, 0, none⟩) 0 0) [y, .int .i64 (q : Int), .int .i64 tv] x := ⟨⟨hC.1.1, (fun h => by cases h), fun _ => hC.1.2.2.1 (by simp), hC.1.2.2.2⟩, (fun _ h => by cases h), (fun _ _ h => by cases h), (fun a b c h => by cases h; exact ⟨_, rfl⟩)⟩
                have HC1 := hide hC1
                clear hC hC1
                simp [gwp, Region.wanted, yielded, putP, slotOf, Act.put]
                go_simp
                first | done | exact unhide HC1 | exact ⟨_, rfl, unhide HC1⟩ | (simp; exact unhide HC1)
              | _ :: _ :: _ :: _ => simp at hj'
            intro full hfull us x hus hC
            simp [putAll, slotOf, Act.put] at hfull
            subst hfull
            match us, hus with
            | [y, z, u], _ =>
            obtain ⟨t0, rfl⟩ := hC.2.2.2 y z u rfl
            have HDX := hide (hC.1.2.2.1 (by simp))
            have HMX := hide hC.1.2.2.2
            have hxk : wk.heap.size ≤ x.heap.size := by
              rcases (unhide HMX).2 with ⟨hv, _⟩ | ⟨g, _, _, hv, hg, hc, _⟩
              · cases hv
              · have := (Array.getElem?_eq_some_iff.1 hc).1; omega
            clear hC HC6
            simp [putP, slotOf, Act.put]
            go_wp2_with fail
            go_loopw [11, 12] (fun o i wr => ∃ (l : List Bool) (t : Int), i = .int .i64 t ∧ wk.heap.size ≤ wr.heap.size ∧ l.length ≤ 49 ∧ (l = [] ∨ (l.length : Int) + t ≤ 49) ∧ Hid (RowM wk.heap.size wr o l) ∧ Hid (DR (w.heap.size + 1) (w.heap.size + 1) cb w.heap.size P w (md + 1 + l.length) vars (.slice va ls.length vc) ls vs wr)) (fun _ i _ => (intOf i).toNat)
            case atStart => exact ⟨[], t0, rfl, hxk, by simp, .inl rfl, HMX, (unhide HDX).more (by simp)⟩
            case round =>
              rename World => wr
              obtain ⟨l, t, rfl, hzr, hl49, hlt49, HM9, HD9⟩ := hrel
              clear HMX HDX
              obtain ⟨oa, oc, hov, _⟩ := own_boolsB (unhide HM9) (by omega)
              subst hov
              by_cases ht0 : 0 < t
              · by_cases ht1 : t < 50
                · have hwt : IntKind.i64.wrap (t - 1) = t - 1 := by rw [IntKind.wrap_i64]; omega
                  have hl48 : l.length ≤ 48 := by
                    rcases hlt49 with h | h
                    · rw [h]; simp
                    · omega
                  go_wp2_with fail
                  refine (pick_any (w.heap.size + 1) (w.heap.size + 1) _ 2 _ (unhide HD9).rd (by omega) (by omega) (by omega)).mono ?_
                  rintro e w10 ⟨⟨q, rfl, q0, q1⟩, R10, W10⟩
                  have HD10 := hide ((unhide HD9).picked R10 W10 (by omega))
                  have HM10 := hide ((unhide HM9).wrote W10)
                  have hz10 : wk.heap.size ≤ w10.heap.size := Nat.le_trans hzr W10.size
                  clear HD9 HM9 R10 W10
                  have hnew : (((l ++ [true]).length : Nat) : Int) + (t - 1) ≤ 49 := by
                    rcases hlt49 with h | h
                    · rw [h]; simp; omega
                    · simp; omega
                  have hnew2 : (l ++ [true]).length ≤ 49 := by simp; omega
                  have hnl : ∀ b : Bool, (l ++ [b]).length = (l ++ [true]).length := fun b => by simp
                  obtain ⟨bq, hbq⟩ : ∃ bq, (q == 0) = bq := ⟨_, rfl⟩
                  have hbq2 : decide (q = 0) = bq := by rw [← hbq]; rfl
                  have hown : w10.ownsRow wk.heap.size 4 1 (.slice oa l.length oc) l.length (l.map fun i => .bool i) := unhide HM10
                  have hblk : ∀ b, (Value.slice oa l.length oc).ownBlock = some b → wk.heap.size ≤ b := fun b hb => (World.ownsRow.lt hown b hb).1
                  have hpk2 := (unhide HD10).past
                  go_wp2_with (first
                    | (at_builtin; refine wpList_append_own _ rfl _ _ 34 rfl wk.heap.size 4 i1 (.bool false) 1 1 Try.underlying34 hj1 hy0 hy1 hy2 rfl (by decide) _ _ _ rfl (hown.alloc _) ⟨w10.heap.size, 0, none⟩ 1 1 [.bool bq] rfl rfl ?c1 ?c2 ?c3 ?c4 ?c5 ?_))
                  case c1 =>
                    intro j u hj
                    match j, hj with
                    | 0, hj => simp at hj; subst hj; simp [Addr.add]
                  case c2 => intro u hu; simp at hu; subst hu; rfl
                  case c3 => unfold maxLen; omega
                  case c4 => omega
                  case c5 => simp; omega
                  intro v' wj hown' hgrow _
                  have HM11 : Hid (RowM wk.heap.size wj v' (l ++ [bq])) := by
                    show RowM _ _ _ _
                    unfold RowM
                    simpa using hown'
                  have hzj := hgrow.size
                  simp at hzj
                  have HD11 := hide ((unhide HD10).far (y := wj) ⟨hgrow.os, hgrow.tape, hgrow.output, by omega, fun b hb => (hgrow.block b (by simp; omega) (fun e => by have := hblk b e.symm; omega)).trans (blk_alloc_lt _ _ _ (by omega))⟩ (by omega) hcP hcbP)
                  clear hown hown' hgrow HD10 HM10
                  go_wp2_with fail
                  go_roundw
                  case rel => exact ⟨l ++ [bq], t - 1, by simp [hwt], by omega, by rw [hnl]; exact hnew2, .inr (by rw [hnl]; exact hnew), HM11, (unhide HD11).more (by simp; omega)⟩
                  case measure => simp [intOf]; omega
                · have ht2 : (50 : Int) ≤ t := by omega
                  obtain ⟨oa', oc', e1, hbb⟩ := own_boolsB (unhide HM9) (by omega)
                  simp only [Value.slice.injEq, true_and] at e1
                  obtain ⟨rfl, rfl⟩ := e1
                  have hfin := (unhide HD9).finB hcbP hll (unhide HSH) (mc := oc) (by omega) hbb (by omega)
                  obtain ⟨x0, x1, xf⟩ := two (unhide HD9).cell
                  obtain ⟨r0, r1, rf⟩ := two (unhide HD9).res
                  have rf0 := rf 0
                  have rf1 := rf 1
                  have HF := hide hfin
                  clear hfin xf rf HD9
                  go_wp2_with fail
                  obtain ⟨⟨f1, f2⟩, R0, R1⟩ := unhide HF
                  exact bodyPost_ret (v := .tuple #[.agg #[.int .i64 vars, .slice va ls.length vc], .slice (oa) l.length oc]) (by simp [results, Try.results18, go_sem, R0, R1]) rfl ⟨f1, f2⟩
              · obtain ⟨oa', oc', e1, hbb⟩ := own_boolsB (unhide HM9) (by omega)
                simp only [Value.slice.injEq, true_and] at e1
                obtain ⟨rfl, rfl⟩ := e1
                have hfin := (unhide HD9).finB hcbP hll (unhide HSH) (mc := oc) (by omega) hbb (by omega)
                obtain ⟨x0, x1, xf⟩ := two (unhide HD9).cell
                obtain ⟨r0, r1, rf⟩ := two (unhide HD9).res
                have rf0 := rf 0
                have rf1 := rf 1
                have HF := hide hfin
                clear hfin xf rf HD9
                go_wp2_with fail
                obtain ⟨⟨f1, f2⟩, R0, R1⟩ := unhide HF
                exact bodyPost_ret (v := .tuple #[.agg #[.int .i64 vars, .slice va ls.length vc], .slice (oa) l.length oc]) (by simp [results, Try.results18, go_sem, R0, R1]) rfl ⟨f1, f2⟩
  · have k3 : (0 : Int) < (mz.length : Int) := by omega
    have hcbP : w.heap.size < cb + 1 := hP0
    go_wp2_with fail
    refine (pick_any (w.heap.size + 1) (w.heap.size + 1) _ 2 _ (unhide HD4).rd (by omega) (by omega) (by omega)).mono ?_
    rintro e w5 ⟨⟨q, rfl, q0, q1⟩, R5, W5⟩
    have HD5 := hide ((unhide HD4).picked R5 W5 (by omega))
    have HM5 := hide ((unhide HM4).wrote W5)
    clear HD4 HM4 R5 W5
    by_cases hq : q = 0
    · subst hq
      go_wp2_with fail
      refine (pick_any (w.heap.size + 1) (w.heap.size + 1) _ 2 _ (unhide HD5).rd (by omega) (by omega) (by omega)).mono ?_
      rintro e w6 ⟨⟨s, rfl, s0, s1⟩, R6, W6⟩
      have HD6 := hide ((unhide HD5).picked R6 W6 (by omega))
      have HM6 := hide ((unhide HM5).wrote W6)
      clear HD5 HM5 R6 W6
      by_cases hs : s = 0
      · subst hs
        go_wp2_with fail
        refine (pick_any (w.heap.size + 1) (w.heap.size + 1) _ (mz.length : Int) _ (unhide HD6).rd (by omega) (by omega) (by omega)).mono ?_
        rintro e w7 ⟨⟨k, rfl, k0, k1⟩, R7, W7⟩
        have HD7 := hide ((unhide HD6).picked R7 W7 (by omega))
        have HM7 := hide ((unhide HM6).wrote W7)
        clear HD6 HM6 R7 W7
        obtain ⟨k, rfl⟩ : ∃ n : Nat, k = n := ⟨k.toNat, by omega⟩
        have hkm : k < mz.length := by omega
        obtain ⟨mg, hma, hmg0⟩ : ∃ mg, ma = some ⟨mg, 0, none⟩ ∧ cb + 1 ≤ mg := by
          rcases (unhide HM7).2 with ⟨_, h0⟩ | ⟨g, cap, cur, hv, hg, _⟩
          · omega
          · simp only [Value.slice.injEq, true_and] at hv
            exact ⟨g, hv.1, hg⟩
        subst hma
        obtain ⟨b, hb, c0⟩ : ∃ b, b = mz.getD k false ∧ w7.cell? ⟨mg, k, none⟩ = some (.bool b) := ⟨_, rfl, by
          rw [World.ownsRow.cellAt (unhide HM7) k (by omega)]
          simp [List.getD, hkm]⟩
        have hfz : w7.frozen? ⟨mg, k, none⟩ = false := by
          rcases (unhide HM7).2 with ⟨_, h0⟩ | ⟨g, cap, cur, hv, hg, hc, _⟩
          · omega
          · simp only [Value.slice.injEq, Option.some.injEq, Addr.mk.injEq, true_and, and_true] at hv
            unfold World.frozen?
            rw [hv.1, hc]
            simp
        have j1 : (k : Int) < (mz.length : Int) := by omega
        have j0 : (0 : Int) ≤ (k : Int) := by omega
        have HBS := hide (bools_set (c := !b) (unhide HM7) hkm (by omega))
        clear hb
        go_upto_region 8 with fail
        obtain ⟨w8, hw8⟩ : ∃ w8, w8 = w7.setCell ⟨mg, k, none⟩ (.bool (!b)) := ⟨_, rfl⟩
        have HBS8 : Hid (BoolsB (cb + 1) w8 (some ⟨mg, 0, none⟩) (mz.set k (!b))) := by rw [hw8]; exact HBS
        rw [← hw8]
        have HD8 := hide ((unhide HD7).far (y := w8) (by rw [hw8]; exact Below.setCell (Below.refl _ _) (by exact hmg0) _) (by omega) (by omega) (by omega))
        have hl8 : (mz.set k (!b)).length = mz.length := by simp
        clear hw8 HBS c0 hfz HM7 HD7
        have hfin := (unhide HD8).finB hcbP hll (unhide HSH) (mc := mc) hcbP (unhide HBS8) (by rw [hl8]; omega)
        rw [hl8] at hfin
        obtain ⟨x0, x1, xf⟩ := two (unhide HD8).cell
        obtain ⟨r0, r1, rf⟩ := two (unhide HD8).res
        have rf0 := rf 0
        have rf1 := rf 1
        have HF := hide hfin
        clear hfin xf rf HD8
        go_wp2_with fail
        obtain ⟨⟨f1, f2⟩, R0, R1⟩ := unhide HF
        exact bodyPost_ret (v := .tuple #[.agg #[.int .i64 vars, .slice va ls.length vc], .slice (some ⟨mg, 0, none⟩) mz.length mc]) (by simp [results, Try.results18, go_sem, R0, R1]) rfl ⟨f1, f2⟩
      · have hsb : (s == 0) = false := by rw [beq_eq_false_iff_ne]; exact hs
        obtain ⟨ma', mc', e1, hbb⟩ := own_boolsB (unhide HM6) (by omega)
        simp only [Value.slice.injEq, true_and] at e1
        obtain ⟨rfl, rfl⟩ := e1
        have hfin := (unhide HD6).finB hcbP hll (unhide HSH) (mc := mc) hcbP hbb (by omega)
        obtain ⟨x0, x1, xf⟩ := two (unhide HD6).cell
        obtain ⟨r0, r1, rf⟩ := two (unhide HD6).res
        have rf0 := rf 0
        have rf1 := rf 1
        have HF := hide hfin
        clear hfin xf rf HD6
        go_wp2_with fail
        obtain ⟨⟨f1, f2⟩, R0, R1⟩ := unhide HF
        exact bodyPost_ret (v := .tuple #[.agg #[.int .i64 vars, .slice va ls.length vc], .slice (ma) mz.length mc]) (by simp [results, Try.results18, go_sem, R0, R1]) rfl ⟨f1, f2⟩
    · have hqb : (q == 0) = false := by rw [beq_eq_false_iff_ne]; exact hq
      have HL5 : Hid (LpC cb w w5 (.slice ma mz.length mc) (402 + 401 * 0)) := ⟨vars, va, vc, ls, vs, cb + 1, ma, mz, mc, rfl, (unhide HD5).more (by omega), unhide HM5, hll, unhide HSH, sm1, by omega⟩
      clear HD5 HM5 HSH hll sm1
      go_wp2_with fail
      go_loopw [7, 10] (fun v i wr => ∃ n : Nat, n ≤ 8 ∧ i = .int .i64 (n : Int) ∧ Hid (LpC cb w wr v (402 + 401 * n))) (fun _ i _ => 8 - (intOf i).toNat)
      case atStart => exact ⟨0, by omega, rfl, HL5⟩
      case round =>
        rename World => wo
        obtain ⟨n, hn, rfl, HL⟩ := hrel
        clear HL5
        obtain ⟨vars, va, vc, ls, vs, P, ma, m, mc, hmv, hD, hM, hll, hsh, hml, hcP⟩ := unhide HL
        subst hmv
        have HD5 := hide hD
        have HM5 := hide hM
        have HSH := hide hsh
        have hcbP : w.heap.size < P := by omega
        clear HL hD hM hsh
        obtain ⟨x0, x1, xf⟩ := two (unhide HD5).cell
        by_cases hn8 : n < 8
        · have k1 : (n : Int) < 8 := by omega
          by_cases hm0 : m.length = 0
          · have k2 : ((m.length : Int) == 0) = true := by rw [beq_iff_eq]; omega
            clear xf
            go_wp2_with fail
            refine (l71Cnf_V (w.heap.size + 1) (w.heap.size + 1) _ _ (unhide HD5).rd (by omega)).mono ?_
            rintro e w6 ⟨⟨vars', v', ls', vs', rfl, hL', hll', hsh'⟩, R6, W6⟩
            obtain ⟨va', vc', hv'⟩ := hL'.slice
            subst hv'
            have hag := (unhide HD5).again (vars' := vars') R6 W6 hL' (by omega) (by omega) (by omega)
            have hc6 := ((unhide HD5).picked R6 W6 (by omega)).cell
            obtain ⟨y0, y1, yf⟩ := two hc6
            have yf0 := yf 0
            have yf1 := yf 1
            have HAG := hide hag
            have HSH' := hide hsh'
            clear HD5 HM5 HSH hL' R6 W6 hc6 hag hsh' x0 x1 yf
            go_upto_region 13 with fail
            obtain ⟨w7, hw7⟩ : ∃ w7, w7 = (w6.setCell ⟨cb, 0, none⟩ (.int .i64 vars')).setCell ⟨cb, 1, none⟩ (.slice va' ls'.length vc') := ⟨_, rfl⟩
            have HAG7 : Hid (DR (w.heap.size + 1) (w.heap.size + 1) cb w.heap.size w7.heap.size w (402 + 401 * n + 400) vars' (.slice va' ls'.length vc') ls' vs' w7) := by rw [hw7]; exact HAG
            rw [← hw7]
            clear hw7 HAG y0 y1 yf0 yf1
            obtain ⟨x0, x1, xf⟩ := two (unhide HAG7).cell
            have hcb7 := (Array.getElem?_eq_some_iff.1 (unhide HAG7).cell).1
            obtain ⟨va2, vc2, hv2, hcls⟩ := (unhide HAG7).rows.cls (by omega) (unhide HSH')
            simp only [Value.slice.injEq, true_and] at hv2
            obtain ⟨rfl, rfl⟩ := hv2
            obtain ⟨kz, mz, p, hr⟩ : ∃ kz mz p, satZ vars' ls' 100 = (kz, mz, p) := ⟨_, _, _, rfl⟩
            obtain ⟨sm1, _⟩ := sat_small hr
            have HSF := hide (specSatFind_any vars' va' ls' vc' 100 w7 hcls)
            rw [hr] at HSF
            clear hcls hr xf
            go_wp2_with fail
            refine (unhide HSF).mono ?_
            rintro e w8 ⟨⟨mv, pv, qs, rfl, hm8, hp8⟩, b8⟩
            obtain ⟨ma8, mc8, hmv8, _⟩ := own_boolsB (m := mz) hm8 (by omega)
            subst hmv8
            have HL8 : Hid (LpC cb w w8 (.slice ma8 mz.length mc8) (402 + 401 * ((n + 1 : Nat) : Int))) := ⟨vars', va', vc', ls', vs', w7.heap.size, ma8, mz, mc8, rfl, ((unhide HAG7).far b8 (by omega) hcb7 (by omega)).more (by omega), hm8, hll', unhide HSH', sm1, hcb7⟩
            clear HSF HAG7 hm8 hp8 b8 x0 x1 HSH'
            go_wp2_with fail
            go_roundw
            case rel => exact ⟨n + 1, by omega, by go_num, HL8⟩
            case measure => simp [intOf]; omega
          · have k2 : ((m.length : Int) == 0) = false := by rw [beq_eq_false_iff_ne]; omega
            have k3 : (0 : Int) < (m.length : Int) := by omega
            clear xf x0 x1
            go_wp2_with fail
            refine (pick_any (w.heap.size + 1) (w.heap.size + 1) _ 2 _ (unhide HD5).rd (by omega) (by omega) (by omega)).mono ?_
            rintro e w6 ⟨⟨q, rfl, q0, q1⟩, R6, W6⟩
            have HD6 := hide ((unhide HD5).picked R6 W6 (by omega))
            have HM6 := hide ((unhide HM5).wrote W6)
            clear HD5 HM5 R6 W6
            by_cases hq : q = 0
            · subst hq
              obtain ⟨ma', mc', e1, hbb⟩ := own_boolsB (unhide HM6) (by omega)
              simp only [Value.slice.injEq, true_and] at e1
              obtain ⟨rfl, rfl⟩ := e1
              have hfin := (unhide HD6).finB hcbP hll (unhide HSH) (mc := mc) hcbP hbb (by omega)
              obtain ⟨x0, x1, xf⟩ := two (unhide HD6).cell
              obtain ⟨r0, r1, rf⟩ := two (unhide HD6).res
              have rf0 := rf 0
              have rf1 := rf 1
              have HF := hide hfin
              clear hfin xf rf HD6
              go_wp2_with fail
              obtain ⟨⟨f1, f2⟩, R0, R1⟩ := unhide HF
              exact bodyPost_ret (v := .tuple #[.agg #[.int .i64 vars, .slice va ls.length vc], .slice (ma) m.length mc]) (by simp [results, Try.results18, go_sem, R0, R1]) rfl ⟨f1, f2⟩
            · have hqb : (q == 0) = false := by rw [beq_eq_false_iff_ne]; exact hq
              obtain ⟨wk, hwk⟩ : ∃ wk, wk = w6 := ⟨_, rfl⟩
              obtain ⟨md, hmd, HDK⟩ : ∃ md : Int, md ≤ 10000 ∧ Hid (DR (w.heap.size + 1) (w.heap.size + 1) cb w.heap.size P w md vars (.slice va ls.length vc) ls vs wk) := by rw [hwk]; exact ⟨_, by omega, HD6⟩
              rw [← hwk]
              clear HD6 HM6 hwk
              have hcbk : cb < wk.heap.size := (Array.getElem?_eq_some_iff.1 (unhide HDK).cell).1
              have hpk := (unhide HDK).past
              have bn := (Below.refl wk.heap.size wk).alloc (Nat.le_refl _) (.cells #[] 4)
              have HDA := hide ((unhide HDK).far (bn.mono hpk) (by omega) hcP hcbP)
              have HRA := hide (RowM.nil wk)
              obtain ⟨x0, x1, xf⟩ := two (unhide HDA).cell
              clear bn xf
              go_upto_region 17 with fail
              have HC6 : Hid (RNum (w.heap.size + 1) (w.heap.size + 1) cb w.heap.size P wk.heap.size w md vars (.slice va ls.length vc) ls vs (.slice (some ⟨wk.heap.size, 0, none⟩) 0 0) [] (wk.alloc (.cells #[] 4)).drew) := ⟨⟨x0, fun _ => (unhide HDA).far (Below.refl _ _).drew (by omega) hcP hcbP, (fun h => absurd rfl h), unhide HRA⟩, (fun _ h => by cases h), (fun _ _ h => by cases h), (fun _ _ _ h => by cases h)⟩
              clear HDA HRA x0 x1 HDK
              refine wp_region_mix (k := 100) 6 [3, 4, 5] [.pointer (some ⟨cb, 0, none⟩), .int .i64 vars, .pointer (some ⟨w.heap.size + 1, 0, none⟩), undef, undef, undef] (fun _ us x => RNum (w.heap.size + 1) (w.heap.size + 1) cb w.heap.size P wk.heap.size w md vars (.slice va ls.length vc) ls vs (.slice (some ⟨wk.heap.size, 0, none⟩) 0 0) us x) (by kernel_rfl) (by kernel_rfl) (by kernel_rfl) (by kernel_rfl) (by kernel_rfl) (by kernel_rfl) (unhide HC6) ?_ ?_ ?_
              · intro full hfull i oo hi' hns ho x fl us hC hb
                simp [putAll, slotOf, Act.put] at hfull
                subst hfull
                have hC0 : RNum (w.heap.size + 1) (w.heap.size + 1) cb w.heap.size P wk.heap.size w md vars (.slice va ls.length vc) ls vs (.slice (some ⟨wk.heap.size, 0, none⟩) 0 0) us x := hC
                have y0 := hC0.1.1
                match i with
                | 0 => simp at ho; subst ho; simp [gwp, Region.wanted, yielded]; go_simp; first | done | exact hC0 | exact ⟨rfl, hC0⟩ | (simp; exact hC0) | (refine ⟨by simp <;> omega, hC0⟩)
                | 1 => simp at ho; subst ho; simp [gwp, Region.wanted, yielded]; go_simp; first | done | exact hC0 | exact ⟨rfl, hC0⟩ | (simp; exact hC0) | (refine ⟨by simp <;> omega, hC0⟩)
                | 2 => simp at ho; subst ho; simp [gwp, Region.wanted, yielded]; go_simp; first | done | exact hC0 | exact ⟨rfl, hC0⟩ | (simp; exact hC0) | (refine ⟨by simp <;> omega, hC0⟩)
                | 3 => simp at hns
                | 4 => simp at hns
                | 5 => simp at hns
                | i + 6 => omega
              · intro full hfull us j hj' oo ho x fl hC
                simp [putAll, slotOf, Act.put] at hfull
                subst hfull
                match us with
                | [] =>
                  simp at hj'
                  subst hj'
                  simp at ho
                  subst ho
                  have hD := hC.1.2.1 rfl
                  have hM := hC.1.2.2.2
                  have HDX := hide hD
                  have HMX := hide hM
                  clear hC hM
                  simp [gwp, Region.wanted, yielded, putP]
                  go_simp
                  refine (pick_any (w.heap.size + 1) (w.heap.size + 1) _ 9 _ hD.rd (by omega) (by omega) (by omega)).mono ?_
                  rintro e y ⟨⟨q, rfl, q0, q1⟩, hR, hW⟩
                  have hDy := (unhide HDX).picked hR hW (by omega)
                  have hC1 : RNum (w.heap.size + 1) (w.heap.size + 1) cb w.heap.size P wk.heap.size w md vars (.slice va ls.length vc) ls vs (.slice (some ⟨wk.heap.size, 0, none⟩) 0 0) [.int .i64 q] y := ⟨⟨(two hDy.cell).1, (fun h => by cases h), fun _ => hDy, (unhide HMX).wrote hW⟩, fun a h => ⟨q.toNat, by cases h; rw [show ((q.toNat : Nat) : Int) = q by omega], by omega⟩, (fun _ _ h => by cases h), (fun _ _ _ h => by cases h)⟩
                  clear hD hDy
                  go_simp
                  first | done | exact hC1 | exact ⟨_, rfl, hC1⟩ | (simp; exact hC1)
                | [y] =>
                  simp at hj'
                  subst hj'
                  simp at ho
                  subst ho
                  obtain ⟨q, rfl, hq⟩ := hC.2.1 y rfl
                  have hq8 : (q : Int).tdiv 8 = ((q / 8 : Nat) : Int) := by rw [Int.tdiv_eq_ediv_of_nonneg (by omega)]; norm_cast
                  have hw8 : IntKind.i64.wrap ((q / 8 : Nat) : Int) = ((q / 8 : Nat) : Int) := by rw [IntKind.wrap_i64]; omega
                  have hC1 : RNum (w.heap.size + 1) (w.heap.size + 1) cb w.heap.size P wk.heap.size w md vars (.slice va ls.length vc) ls vs (.slice (some ⟨wk.heap.size, 0, none⟩) 0 0) [.int .i64 (q : Int), .int .i64 ((q / 8 : Nat) : Int)] x := ⟨⟨hC.1.1, (fun h => by cases h), fun _ => hC.1.2.2.1 (by simp), hC.1.2.2.2⟩, (fun _ h => by cases h), (fun a b h => by cases h; exact ⟨q / 8, rfl, by omega⟩), (fun _ _ _ h => by cases h)⟩
                  have HC1 := hide hC1
                  clear hC hC1
                  obtain ⟨z, hz⟩ : ∃ z, z = q / 8 := ⟨_, rfl⟩
                  rw [← hz] at hq8 hw8 HC1
                  clear hz
                  simp [gwp, Region.wanted, yielded, putP, slotOf, Act.put]
                  go_simp
                  first | done | exact unhide HC1 | exact ⟨_, rfl, unhide HC1⟩ | (simp; exact unhide HC1)
                | [y, z] =>
                  simp at hj'
                  subst hj'
                  simp at ho
                  subst ho
                  obtain ⟨q, rfl, hq⟩ := hC.2.2.1 y z rfl
                  obtain ⟨tv, htv⟩ : ∃ tv, IntKind.i64.wrap (vars + (q : Int)) = tv := ⟨_, rfl⟩
                  have hC1 : RNum (w.heap.size + 1) (w.heap.size + 1) cb w.heap.size P wk.heap.size w md vars (.slice va ls.length vc) ls vs (.slice (some ⟨wk.heap.size, 0, none⟩) 0 0) [y, .int .i64 (q : Int), .int .i64 tv] x := ⟨⟨hC.1.1, (fun h => by cases h), fun _ => hC.1.2.2.1 (by simp), hC.1.2.2.2⟩, (fun _ h => by cases h), (fun _ _ h => by cases h), (fun a b c h => by cases h; exact ⟨_, rfl⟩)⟩
                  have HC1 := hide hC1
                  clear hC hC1
                  simp [gwp, Region.wanted, yielded, putP, slotOf, Act.put]
                  go_simp
                  first | done | exact unhide HC1 | exact ⟨_, rfl, unhide HC1⟩ | (simp; exact unhide HC1)
                | _ :: _ :: _ :: _ => simp at hj'
              intro full hfull us x hus hC
              simp [putAll, slotOf, Act.put] at hfull
              subst hfull
              match us, hus with
              | [y, z, u], _ =>
              obtain ⟨t0, rfl⟩ := hC.2.2.2 y z u rfl
              have HDX := hide (hC.1.2.2.1 (by simp))
              have HMX := hide hC.1.2.2.2
              have hxk : wk.heap.size ≤ x.heap.size := by
                rcases (unhide HMX).2 with ⟨hv, _⟩ | ⟨g, _, _, hv, hg, hc, _⟩
                · cases hv
                · have := (Array.getElem?_eq_some_iff.1 hc).1; omega
              clear hC HC6
              simp [putP, slotOf, Act.put]
              go_wp2_with fail
              go_loopw [11, 12] (fun o i wr => ∃ (l : List Bool) (t : Int), i = .int .i64 t ∧ wk.heap.size ≤ wr.heap.size ∧ l.length ≤ 49 ∧ (l = [] ∨ (l.length : Int) + t ≤ 49) ∧ Hid (RowM wk.heap.size wr o l) ∧ Hid (DR (w.heap.size + 1) (w.heap.size + 1) cb w.heap.size P w (md + 1 + l.length) vars (.slice va ls.length vc) ls vs wr)) (fun _ i _ => (intOf i).toNat)
              case atStart => exact ⟨[], t0, rfl, hxk, by simp, .inl rfl, HMX, (unhide HDX).more (by simp)⟩
              case round =>
                rename World => wr
                obtain ⟨l, t, rfl, hzr, hl49, hlt49, HM9, HD9⟩ := hrel
                clear HMX HDX
                obtain ⟨oa, oc, hov, _⟩ := own_boolsB (unhide HM9) (by omega)
                subst hov
                by_cases ht0 : 0 < t
                · by_cases ht1 : t < 50
                  · have hwt : IntKind.i64.wrap (t - 1) = t - 1 := by rw [IntKind.wrap_i64]; omega
                    have hl48 : l.length ≤ 48 := by
                      rcases hlt49 with h | h
                      · rw [h]; simp
                      · omega
                    go_wp2_with fail
                    refine (pick_any (w.heap.size + 1) (w.heap.size + 1) _ 2 _ (unhide HD9).rd (by omega) (by omega) (by omega)).mono ?_
                    rintro e w10 ⟨⟨q, rfl, q0, q1⟩, R10, W10⟩
                    have HD10 := hide ((unhide HD9).picked R10 W10 (by omega))
                    have HM10 := hide ((unhide HM9).wrote W10)
                    have hz10 : wk.heap.size ≤ w10.heap.size := Nat.le_trans hzr W10.size
                    clear HD9 HM9 R10 W10
                    have hnew : (((l ++ [true]).length : Nat) : Int) + (t - 1) ≤ 49 := by
                      rcases hlt49 with h | h
                      · rw [h]; simp; omega
                      · simp; omega
                    have hnew2 : (l ++ [true]).length ≤ 49 := by simp; omega
                    have hnl : ∀ b : Bool, (l ++ [b]).length = (l ++ [true]).length := fun b => by simp
                    obtain ⟨bq, hbq⟩ : ∃ bq, (q == 0) = bq := ⟨_, rfl⟩
                    have hbq2 : decide (q = 0) = bq := by rw [← hbq]; rfl
                    have hown : w10.ownsRow wk.heap.size 4 1 (.slice oa l.length oc) l.length (l.map fun i => .bool i) := unhide HM10
                    have hblk : ∀ b, (Value.slice oa l.length oc).ownBlock = some b → wk.heap.size ≤ b := fun b hb => (World.ownsRow.lt hown b hb).1
                    have hpk2 := (unhide HD10).past
                    go_wp2_with (first
                      | (at_builtin; refine wpList_append_own _ rfl _ _ 34 rfl wk.heap.size 4 i1 (.bool false) 1 1 Try.underlying34 hj1 hy0 hy1 hy2 rfl (by decide) _ _ _ rfl (hown.alloc _) ⟨w10.heap.size, 0, none⟩ 1 1 [.bool bq] rfl rfl ?c1 ?c2 ?c3 ?c4 ?c5 ?_))
                    case c1 =>
                      intro j u hj
                      match j, hj with
                      | 0, hj => simp at hj; subst hj; simp [Addr.add]
                    case c2 => intro u hu; simp at hu; subst hu; rfl
                    case c3 => unfold maxLen; omega
                    case c4 => omega
                    case c5 => simp; omega
                    intro v' wj hown' hgrow _
                    have HM11 : Hid (RowM wk.heap.size wj v' (l ++ [bq])) := by
                      show RowM _ _ _ _
                      unfold RowM
                      simpa using hown'
                    have hzj := hgrow.size
                    simp at hzj
                    have HD11 := hide ((unhide HD10).far (y := wj) ⟨hgrow.os, hgrow.tape, hgrow.output, by omega, fun b hb => (hgrow.block b (by simp; omega) (fun e => by have := hblk b e.symm; omega)).trans (blk_alloc_lt _ _ _ (by omega))⟩ (by omega) hcP hcbP)
                    clear hown hown' hgrow HD10 HM10
                    go_wp2_with fail
                    go_roundw
                    case rel => exact ⟨l ++ [bq], t - 1, by simp [hwt], by omega, by rw [hnl]; exact hnew2, .inr (by rw [hnl]; exact hnew), HM11, (unhide HD11).more (by simp; omega)⟩
                    case measure => simp [intOf]; omega
                  · have ht2 : (50 : Int) ≤ t := by omega
                    obtain ⟨oa', oc', e1, hbb⟩ := own_boolsB (unhide HM9) (by omega)
                    simp only [Value.slice.injEq, true_and] at e1
                    obtain ⟨rfl, rfl⟩ := e1
                    have hfin := (unhide HD9).finB hcbP hll (unhide HSH) (mc := oc) (by omega) hbb (by omega)
                    obtain ⟨x0, x1, xf⟩ := two (unhide HD9).cell
                    obtain ⟨r0, r1, rf⟩ := two (unhide HD9).res
                    have rf0 := rf 0
                    have rf1 := rf 1
                    have HF := hide hfin
                    clear hfin xf rf HD9
                    go_wp2_with fail
                    obtain ⟨⟨f1, f2⟩, R0, R1⟩ := unhide HF
                    exact bodyPost_ret (v := .tuple #[.agg #[.int .i64 vars, .slice va ls.length vc], .slice (oa) l.length oc]) (by simp [results, Try.results18, go_sem, R0, R1]) rfl ⟨f1, f2⟩
                · obtain ⟨oa', oc', e1, hbb⟩ := own_boolsB (unhide HM9) (by omega)
                  simp only [Value.slice.injEq, true_and] at e1
                  obtain ⟨rfl, rfl⟩ := e1
                  have hfin := (unhide HD9).finB hcbP hll (unhide HSH) (mc := oc) (by omega) hbb (by omega)
                  obtain ⟨x0, x1, xf⟩ := two (unhide HD9).cell
                  obtain ⟨r0, r1, rf⟩ := two (unhide HD9).res
                  have rf0 := rf 0
                  have rf1 := rf 1
                  have HF := hide hfin
                  clear hfin xf rf HD9
                  go_wp2_with fail
                  obtain ⟨⟨f1, f2⟩, R0, R1⟩ := unhide HF
                  exact bodyPost_ret (v := .tuple #[.agg #[.int .i64 vars, .slice va ls.length vc], .slice (oa) l.length oc]) (by simp [results, Try.results18, go_sem, R0, R1]) rfl ⟨f1, f2⟩
        · have k1 : ¬ (n : Int) < 8 := by omega
          by_cases hm0 : m.length = 0
          · have k3 : ¬ (0 : Int) < (m.length : Int) := by omega
            clear xf x0 x1
            obtain ⟨wk, hwk⟩ : ∃ wk, wk = wo := ⟨_, rfl⟩
            obtain ⟨md, hmd, HDK⟩ : ∃ md : Int, md ≤ 10000 ∧ Hid (DR (w.heap.size + 1) (w.heap.size + 1) cb w.heap.size P w md vars (.slice va ls.length vc) ls vs wk) := by rw [hwk]; exact ⟨_, by omega, HD5⟩
            rw [← hwk]
            clear HD5 HM5 hwk
            have hcbk : cb < wk.heap.size := (Array.getElem?_eq_some_iff.1 (unhide HDK).cell).1
            have hpk := (unhide HDK).past
            have bn := (Below.refl wk.heap.size wk).alloc (Nat.le_refl _) (.cells #[] 4)
            have HDA := hide ((unhide HDK).far (bn.mono hpk) (by omega) hcP hcbP)
            have HRA := hide (RowM.nil wk)
            obtain ⟨x0, x1, xf⟩ := two (unhide HDA).cell
            clear bn xf
            go_upto_region 17 with fail
            have HC6 : Hid (RNum (w.heap.size + 1) (w.heap.size + 1) cb w.heap.size P wk.heap.size w md vars (.slice va ls.length vc) ls vs (.slice (some ⟨wk.heap.size, 0, none⟩) 0 0) [] (wk.alloc (.cells #[] 4)).drew) := ⟨⟨x0, fun _ => (unhide HDA).far (Below.refl _ _).drew (by omega) hcP hcbP, (fun h => absurd rfl h), unhide HRA⟩, (fun _ h => by cases h), (fun _ _ h => by cases h), (fun _ _ _ h => by cases h)⟩
            clear HDA HRA x0 x1 HDK
            refine wp_region_mix (k := 100) 6 [3, 4, 5] [.pointer (some ⟨cb, 0, none⟩), .int .i64 vars, .pointer (some ⟨w.heap.size + 1, 0, none⟩), undef, undef, undef] (fun _ us x => RNum (w.heap.size + 1) (w.heap.size + 1) cb w.heap.size P wk.heap.size w md vars (.slice va ls.length vc) ls vs (.slice (some ⟨wk.heap.size, 0, none⟩) 0 0) us x) (by kernel_rfl) (by kernel_rfl) (by kernel_rfl) (by kernel_rfl) (by kernel_rfl) (by kernel_rfl) (unhide HC6) ?_ ?_ ?_
            · intro full hfull i oo hi' hns ho x fl us hC hb
              simp [putAll, slotOf, Act.put] at hfull
              subst hfull
              have hC0 : RNum (w.heap.size + 1) (w.heap.size + 1) cb w.heap.size P wk.heap.size w md vars (.slice va ls.length vc) ls vs (.slice (some ⟨wk.heap.size, 0, none⟩) 0 0) us x := hC
              have y0 := hC0.1.1
              match i with
              | 0 => simp at ho; subst ho; simp [gwp, Region.wanted, yielded]; go_simp; first | done | exact hC0 | exact ⟨rfl, hC0⟩ | (simp; exact hC0) | (refine ⟨by simp <;> omega, hC0⟩)
              | 1 => simp at ho; subst ho; simp [gwp, Region.wanted, yielded]; go_simp; first | done | exact hC0 | exact ⟨rfl, hC0⟩ | (simp; exact hC0) | (refine ⟨by simp <;> omega, hC0⟩)
              | 2 => simp at ho; subst ho; simp [gwp, Region.wanted, yielded]; go_simp; first | done | exact hC0 | exact ⟨rfl, hC0⟩ | (simp; exact hC0) | (refine ⟨by simp <;> omega, hC0⟩)
              | 3 => simp at hns
              | 4 => simp at hns
              | 5 => simp at hns
              | i + 6 => omega
            · intro full hfull us j hj' oo ho x fl hC
              simp [putAll, slotOf, Act.put] at hfull
              subst hfull
              match us with
              | [] =>
                simp at hj'
                subst hj'
                simp at ho
                subst ho
                have hD := hC.1.2.1 rfl
                have hM := hC.1.2.2.2
                have HDX := hide hD
                have HMX := hide hM
                clear hC hM
                simp [gwp, Region.wanted, yielded, putP]
                go_simp
                refine (pick_any (w.heap.size + 1) (w.heap.size + 1) _ 9 _ hD.rd (by omega) (by omega) (by omega)).mono ?_
                rintro e y ⟨⟨q, rfl, q0, q1⟩, hR, hW⟩
                have hDy := (unhide HDX).picked hR hW (by omega)
                have hC1 : RNum (w.heap.size + 1) (w.heap.size + 1) cb w.heap.size P wk.heap.size w md vars (.slice va ls.length vc) ls vs (.slice (some ⟨wk.heap.size, 0, none⟩) 0 0) [.int .i64 q] y := ⟨⟨(two hDy.cell).1, (fun h => by cases h), fun _ => hDy, (unhide HMX).wrote hW⟩, fun a h => ⟨q.toNat, by cases h; rw [show ((q.toNat : Nat) : Int) = q by omega], by omega⟩, (fun _ _ h => by cases h), (fun _ _ _ h => by cases h)⟩
                clear hD hDy
                go_simp
                first | done | exact hC1 | exact ⟨_, rfl, hC1⟩ | (simp; exact hC1)
              | [y] =>
                simp at hj'
                subst hj'
                simp at ho
                subst ho
                obtain ⟨q, rfl, hq⟩ := hC.2.1 y rfl
                have hq8 : (q : Int).tdiv 8 = ((q / 8 : Nat) : Int) := by rw [Int.tdiv_eq_ediv_of_nonneg (by omega)]; norm_cast
                have hw8 : IntKind.i64.wrap ((q / 8 : Nat) : Int) = ((q / 8 : Nat) : Int) := by rw [IntKind.wrap_i64]; omega
                have hC1 : RNum (w.heap.size + 1) (w.heap.size + 1) cb w.heap.size P wk.heap.size w md vars (.slice va ls.length vc) ls vs (.slice (some ⟨wk.heap.size, 0, none⟩) 0 0) [.int .i64 (q : Int), .int .i64 ((q / 8 : Nat) : Int)] x := ⟨⟨hC.1.1, (fun h => by cases h), fun _ => hC.1.2.2.1 (by simp), hC.1.2.2.2⟩, (fun _ h => by cases h), (fun a b h => by cases h; exact ⟨q / 8, rfl, by omega⟩), (fun _ _ _ h => by cases h)⟩
                have HC1 := hide hC1
                clear hC hC1
                obtain ⟨z, hz⟩ : ∃ z, z = q / 8 := ⟨_, rfl⟩
                rw [← hz] at hq8 hw8 HC1
                clear hz
                simp [gwp, Region.wanted, yielded, putP, slotOf, Act.put]
                go_simp
                first | done | exact unhide HC1 | exact ⟨_, rfl, unhide HC1⟩ | (simp; exact unhide HC1)
              | [y, z] =>
                simp at hj'
                subst hj'
                simp at ho
                subst ho
                obtain ⟨q, rfl, hq⟩ := hC.2.2.1 y z rfl
                obtain ⟨tv, htv⟩ : ∃ tv, IntKind.i64.wrap (vars + (q : Int)) = tv := ⟨_, rfl⟩
                have hC1 : RNum (w.heap.size + 1) (w.heap.size + 1) cb w.heap.size P wk.heap.size w md vars (.slice va ls.length vc) ls vs (.slice (some ⟨wk.heap.size, 0, none⟩) 0 0) [y, .int .i64 (q : Int), .int .i64 tv] x := ⟨⟨hC.1.1, (fun h => by cases h), fun _ => hC.1.2.2.1 (by simp), hC.1.2.2.2⟩, (fun _ h => by cases h), (fun _ _ h => by cases h), (fun a b c h => by cases h; exact ⟨_, rfl⟩)⟩
                have HC1 := hide hC1
                clear hC hC1
                simp [gwp, Region.wanted, yielded, putP, slotOf, Act.put]
                go_simp
                first | done | exact unhide HC1 | exact ⟨_, rfl, unhide HC1⟩ | (simp; exact unhide HC1)
              | _ :: _ :: _ :: _ => simp at hj'
            intro full hfull us x hus hC
            simp [putAll, slotOf, Act.put] at hfull
            subst hfull
            match us, hus with
            | [y, z, u], _ =>
            obtain ⟨t0, rfl⟩ := hC.2.2.2 y z u rfl
            have HDX := hide (hC.1.2.2.1 (by simp))
            have HMX := hide hC.1.2.2.2
            have hxk : wk.heap.size ≤ x.heap.size := by
              rcases (unhide HMX).2 with ⟨hv, _⟩ | ⟨g, _, _, hv, hg, hc, _⟩
              · cases hv
              · have := (Array.getElem?_eq_some_iff.1 hc).1; omega
            clear hC HC6
            simp [putP, slotOf, Act.put]
            go_wp2_with fail
            go_loopw [11, 12] (fun o i wr => ∃ (l : List Bool) (t : Int), i = .int .i64 t ∧ wk.heap.size ≤ wr.heap.size ∧ l.length ≤ 49 ∧ (l = [] ∨ (l.length : Int) + t ≤ 49) ∧ Hid (RowM wk.heap.size wr o l) ∧ Hid (DR (w.heap.size + 1) (w.heap.size + 1) cb w.heap.size P w (md + 1 + l.length) vars (.slice va ls.length vc) ls vs wr)) (fun _ i _ => (intOf i).toNat)
            case atStart => exact ⟨[], t0, rfl, hxk, by simp, .inl rfl, HMX, (unhide HDX).more (by simp)⟩
            case round =>
              rename World => wr
              obtain ⟨l, t, rfl, hzr, hl49, hlt49, HM9, HD9⟩ := hrel
              clear HMX HDX
              obtain ⟨oa, oc, hov, _⟩ := own_boolsB (unhide HM9) (by omega)
              subst hov
              by_cases ht0 : 0 < t
              · by_cases ht1 : t < 50
                · have hwt : IntKind.i64.wrap (t - 1) = t - 1 := by rw [IntKind.wrap_i64]; omega
                  have hl48 : l.length ≤ 48 := by
                    rcases hlt49 with h | h
                    · rw [h]; simp
                    · omega
                  go_wp2_with fail
                  refine (pick_any (w.heap.size + 1) (w.heap.size + 1) _ 2 _ (unhide HD9).rd (by omega) (by omega) (by omega)).mono ?_
                  rintro e w10 ⟨⟨q, rfl, q0, q1⟩, R10, W10⟩
                  have HD10 := hide ((unhide HD9).picked R10 W10 (by omega))
                  have HM10 := hide ((unhide HM9).wrote W10)
                  have hz10 : wk.heap.size ≤ w10.heap.size := Nat.le_trans hzr W10.size
                  clear HD9 HM9 R10 W10
                  have hnew : (((l ++ [true]).length : Nat) : Int) + (t - 1) ≤ 49 := by
                    rcases hlt49 with h | h
                    · rw [h]; simp; omega
                    · simp; omega
                  have hnew2 : (l ++ [true]).length ≤ 49 := by simp; omega
                  have hnl : ∀ b : Bool, (l ++ [b]).length = (l ++ [true]).length := fun b => by simp
                  obtain ⟨bq, hbq⟩ : ∃ bq, (q == 0) = bq := ⟨_, rfl⟩
                  have hbq2 : decide (q = 0) = bq := by rw [← hbq]; rfl
                  have hown : w10.ownsRow wk.heap.size 4 1 (.slice oa l.length oc) l.length (l.map fun i => .bool i) := unhide HM10
                  have hblk : ∀ b, (Value.slice oa l.length oc).ownBlock = some b → wk.heap.size ≤ b := fun b hb => (World.ownsRow.lt hown b hb).1
                  have hpk2 := (unhide HD10).past
                  go_wp2_with (first
                    | (at_builtin; refine wpList_append_own _ rfl _ _ 34 rfl wk.heap.size 4 i1 (.bool false) 1 1 Try.underlying34 hj1 hy0 hy1 hy2 rfl (by decide) _ _ _ rfl (hown.alloc _) ⟨w10.heap.size, 0, none⟩ 1 1 [.bool bq] rfl rfl ?c1 ?c2 ?c3 ?c4 ?c5 ?_))
                  case c1 =>
                    intro j u hj
                    match j, hj with
                    | 0, hj => simp at hj; subst hj; simp [Addr.add]
                  case c2 => intro u hu; simp at hu; subst hu; rfl
                  case c3 => unfold maxLen; omega
                  case c4 => omega
                  case c5 => simp; omega
                  intro v' wj hown' hgrow _
                  have HM11 : Hid (RowM wk.heap.size wj v' (l ++ [bq])) := by
                    show RowM _ _ _ _
                    unfold RowM
                    simpa using hown'
                  have hzj := hgrow.size
                  simp at hzj
                  have HD11 := hide ((unhide HD10).far (y := wj) ⟨hgrow.os, hgrow.tape, hgrow.output, by omega, fun b hb => (hgrow.block b (by simp; omega) (fun e => by have := hblk b e.symm; omega)).trans (blk_alloc_lt _ _ _ (by omega))⟩ (by omega) hcP hcbP)
                  clear hown hown' hgrow HD10 HM10
                  go_wp2_with fail
                  go_roundw
                  case rel => exact ⟨l ++ [bq], t - 1, by simp [hwt], by omega, by rw [hnl]; exact hnew2, .inr (by rw [hnl]; exact hnew), HM11, (unhide HD11).more (by simp; omega)⟩
                  case measure => simp [intOf]; omega
                · have ht2 : (50 : Int) ≤ t := by omega
                  obtain ⟨oa', oc', e1, hbb⟩ := own_boolsB (unhide HM9) (by omega)
                  simp only [Value.slice.injEq, true_and] at e1
                  obtain ⟨rfl, rfl⟩ := e1
                  have hfin := (unhide HD9).finB hcbP hll (unhide HSH) (mc := oc) (by omega) hbb (by omega)
                  obtain ⟨x0, x1, xf⟩ := two (unhide HD9).cell
                  obtain ⟨r0, r1, rf⟩ := two (unhide HD9).res
                  have rf0 := rf 0
                  have rf1 := rf 1
                  have HF := hide hfin
                  clear hfin xf rf HD9
                  go_wp2_with fail
                  obtain ⟨⟨f1, f2⟩, R0, R1⟩ := unhide HF
                  exact bodyPost_ret (v := .tuple #[.agg #[.int .i64 vars, .slice va ls.length vc], .slice (oa) l.length oc]) (by simp [results, Try.results18, go_sem, R0, R1]) rfl ⟨f1, f2⟩
              · obtain ⟨oa', oc', e1, hbb⟩ := own_boolsB (unhide HM9) (by omega)
                simp only [Value.slice.injEq, true_and] at e1
                obtain ⟨rfl, rfl⟩ := e1
                have hfin := (unhide HD9).finB hcbP hll (unhide HSH) (mc := oc) (by omega) hbb (by omega)
                obtain ⟨x0, x1, xf⟩ := two (unhide HD9).cell
                obtain ⟨r0, r1, rf⟩ := two (unhide HD9).res
                have rf0 := rf 0
                have rf1 := rf 1
                have HF := hide hfin
                clear hfin xf rf HD9
                go_wp2_with fail
                obtain ⟨⟨f1, f2⟩, R0, R1⟩ := unhide HF
                exact bodyPost_ret (v := .tuple #[.agg #[.int .i64 vars, .slice va ls.length vc], .slice (oa) l.length oc]) (by simp [results, Try.results18, go_sem, R0, R1]) rfl ⟨f1, f2⟩
          · have k3 : (0 : Int) < (m.length : Int) := by omega
            clear xf x0 x1
            go_wp2_with fail
            refine (pick_any (w.heap.size + 1) (w.heap.size + 1) _ 2 _ (unhide HD5).rd (by omega) (by omega) (by omega)).mono ?_
            rintro e w6 ⟨⟨q, rfl, q0, q1⟩, R6, W6⟩
            have HD6 := hide ((unhide HD5).picked R6 W6 (by omega))
            have HM6 := hide ((unhide HM5).wrote W6)
            clear HD5 HM5 R6 W6
            by_cases hq : q = 0
            · subst hq
              obtain ⟨ma', mc', e1, hbb⟩ := own_boolsB (unhide HM6) (by omega)
              simp only [Value.slice.injEq, true_and] at e1
              obtain ⟨rfl, rfl⟩ := e1
              have hfin := (unhide HD6).finB hcbP hll (unhide HSH) (mc := mc) hcbP hbb (by omega)
              obtain ⟨x0, x1, xf⟩ := two (unhide HD6).cell
              obtain ⟨r0, r1, rf⟩ := two (unhide HD6).res
              have rf0 := rf 0
              have rf1 := rf 1
              have HF := hide hfin
              clear hfin xf rf HD6
              go_wp2_with fail
              obtain ⟨⟨f1, f2⟩, R0, R1⟩ := unhide HF
              exact bodyPost_ret (v := .tuple #[.agg #[.int .i64 vars, .slice va ls.length vc], .slice (ma) m.length mc]) (by simp [results, Try.results18, go_sem, R0, R1]) rfl ⟨f1, f2⟩
            · have hqb : (q == 0) = false := by rw [beq_eq_false_iff_ne]; exact hq
              obtain ⟨wk, hwk⟩ : ∃ wk, wk = w6 := ⟨_, rfl⟩
              obtain ⟨md, hmd, HDK⟩ : ∃ md : Int, md ≤ 10000 ∧ Hid (DR (w.heap.size + 1) (w.heap.size + 1) cb w.heap.size P w md vars (.slice va ls.length vc) ls vs wk) := by rw [hwk]; exact ⟨_, by omega, HD6⟩
              rw [← hwk]
              clear HD6 HM6 hwk
              have hcbk : cb < wk.heap.size := (Array.getElem?_eq_some_iff.1 (unhide HDK).cell).1
              have hpk := (unhide HDK).past
              have bn := (Below.refl wk.heap.size wk).alloc (Nat.le_refl _) (.cells #[] 4)
              have HDA := hide ((unhide HDK).far (bn.mono hpk) (by omega) hcP hcbP)
              have HRA := hide (RowM.nil wk)
              obtain ⟨x0, x1, xf⟩ := two (unhide HDA).cell
              clear bn xf
              go_upto_region 17 with fail
              have HC6 : Hid (RNum (w.heap.size + 1) (w.heap.size + 1) cb w.heap.size P wk.heap.size w md vars (.slice va ls.length vc) ls vs (.slice (some ⟨wk.heap.size, 0, none⟩) 0 0) [] (wk.alloc (.cells #[] 4)).drew) := ⟨⟨x0, fun _ => (unhide HDA).far (Below.refl _ _).drew (by omega) hcP hcbP, (fun h => absurd rfl h), unhide HRA⟩, (fun _ h => by cases h), (fun _ _ h => by cases h), (fun _ _ _ h => by cases h)⟩
              clear HDA HRA x0 x1 HDK
              refine wp_region_mix (k := 100) 6 [3, 4, 5] [.pointer (some ⟨cb, 0, none⟩), .int .i64 vars, .pointer (some ⟨w.heap.size + 1, 0, none⟩), undef, undef, undef] (fun _ us x => RNum (w.heap.size + 1) (w.heap.size + 1) cb w.heap.size P wk.heap.size w md vars (.slice va ls.length vc) ls vs (.slice (some ⟨wk.heap.size, 0, none⟩) 0 0) us x) (by kernel_rfl) (by kernel_rfl) (by kernel_rfl) (by kernel_rfl) (by kernel_rfl) (by kernel_rfl) (unhide HC6) ?_ ?_ ?_
              · intro full hfull i oo hi' hns ho x fl us hC hb
                simp [putAll, slotOf, Act.put] at hfull
                subst hfull
                have hC0 : RNum (w.heap.size + 1) (w.heap.size + 1) cb w.heap.size P wk.heap.size w md vars (.slice va ls.length vc) ls vs (.slice (some ⟨wk.heap.size, 0, none⟩) 0 0) us x := hC
                have y0 := hC0.1.1
                match i with
                | 0 => simp at ho; subst ho; simp [gwp, Region.wanted, yielded]; go_simp; first | done | exact hC0 | exact ⟨rfl, hC0⟩ | (simp; exact hC0) | (refine ⟨by simp <;> omega, hC0⟩)
                | 1 => simp at ho; subst ho; simp [gwp, Region.wanted, yielded]; go_simp; first | done | exact hC0 | exact ⟨rfl, hC0⟩ | (simp; exact hC0) | (refine ⟨by simp <;> omega, hC0⟩)
                | 2 => simp at ho; subst ho; simp [gwp, Region.wanted, yielded]; go_simp; first | done | exact hC0 | exact ⟨rfl, hC0⟩ | (simp; exact hC0) | (refine ⟨by simp <;> omega, hC0⟩)
                | 3 => simp at hns
                | 4 => simp at hns
                | 5 => simp at hns
                | i + 6 => omega
              · intro full hfull us j hj' oo ho x fl hC
                simp [putAll, slotOf, Act.put] at hfull
                subst hfull
                match us with
                | [] =>
                  simp at hj'
                  subst hj'
                  simp at ho
                  subst ho
                  have hD := hC.1.2.1 rfl
                  have hM := hC.1.2.2.2
                  have HDX := hide hD
                  have HMX := hide hM
                  clear hC hM
                  simp [gwp, Region.wanted, yielded, putP]
                  go_simp
                  refine (pick_any (w.heap.size + 1) (w.heap.size + 1) _ 9 _ hD.rd (by omega) (by omega) (by omega)).mono ?_
                  rintro e y ⟨⟨q, rfl, q0, q1⟩, hR, hW⟩
                  have hDy := (unhide HDX).picked hR hW (by omega)
                  have hC1 : RNum (w.heap.size + 1) (w.heap.size + 1) cb w.heap.size P wk.heap.size w md vars (.slice va ls.length vc) ls vs (.slice (some ⟨wk.heap.size, 0, none⟩) 0 0) [.int .i64 q] y := ⟨⟨(two hDy.cell).1, (fun h => by cases h), fun _ => hDy, (unhide HMX).wrote hW⟩, fun a h => ⟨q.toNat, by cases h; rw [show ((q.toNat : Nat) : Int) = q by omega], by omega⟩, (fun _ _ h => by cases h), (fun _ _ _ h => by cases h)⟩
                  clear hD hDy
                  go_simp
                  first | done | exact hC1 | exact ⟨_, rfl, hC1⟩ | (simp; exact hC1)
                | [y] =>
                  simp at hj'
                  subst hj'
                  simp at ho
                  subst ho
                  obtain ⟨q, rfl, hq⟩ := hC.2.1 y rfl
                  have hq8 : (q : Int).tdiv 8 = ((q / 8 : Nat) : Int) := by rw [Int.tdiv_eq_ediv_of_nonneg (by omega)]; norm_cast
                  have hw8 : IntKind.i64.wrap ((q / 8 : Nat) : Int) = ((q / 8 : Nat) : Int) := by rw [IntKind.wrap_i64]; omega
                  have hC1 : RNum (w.heap.size + 1) (w.heap.size + 1) cb w.heap.size P wk.heap.size w md vars (.slice va ls.length vc) ls vs (.slice (some ⟨wk.heap.size, 0, none⟩) 0 0) [.int .i64 (q : Int), .int .i64 ((q / 8 : Nat) : Int)] x := ⟨⟨hC.1.1, (fun h => by cases h), fun _ => hC.1.2.2.1 (by simp), hC.1.2.2.2⟩, (fun _ h => by cases h), (fun a b h => by cases h; exact ⟨q / 8, rfl, by omega⟩), (fun _ _ _ h => by cases h)⟩
                  have HC1 := hide hC1
                  clear hC hC1
                  obtain ⟨z, hz⟩ : ∃ z, z = q / 8 := ⟨_, rfl⟩
                  rw [← hz] at hq8 hw8 HC1
                  clear hz
                  simp [gwp, Region.wanted, yielded, putP, slotOf, Act.put]
                  go_simp
                  first | done | exact unhide HC1 | exact ⟨_, rfl, unhide HC1⟩ | (simp; exact unhide HC1)
                | [y, z] =>
                  simp at hj'
                  subst hj'
                  simp at ho
                  subst ho
                  obtain ⟨q, rfl, hq⟩ := hC.2.2.1 y z rfl
                  obtain ⟨tv, htv⟩ : ∃ tv, IntKind.i64.wrap (vars + (q : Int)) = tv := ⟨_, rfl⟩
                  have hC1 : RNum (w.heap.size + 1) (w.heap.size + 1) cb w.heap.size P wk.heap.size w md vars (.slice va ls.length vc) ls vs (.slice (some ⟨wk.heap.size, 0, none⟩) 0 0) [y, .int .i64 (q : Int), .int .i64 tv] x := ⟨⟨hC.1.1, (fun h => by cases h), fun _ => hC.1.2.2.1 (by simp), hC.1.2.2.2⟩, (fun _ h => by cases h), (fun _ _ h => by cases h), (fun a b c h => by cases h; exact ⟨_, rfl⟩)⟩
                  have HC1 := hide hC1
                  clear hC hC1
                  simp [gwp, Region.wanted, yielded, putP, slotOf, Act.put]
                  go_simp
                  first | done | exact unhide HC1 | exact ⟨_, rfl, unhide HC1⟩ | (simp; exact unhide HC1)
                | _ :: _ :: _ :: _ => simp at hj'
              intro full hfull us x hus hC
              simp [putAll, slotOf, Act.put] at hfull
              subst hfull
              match us, hus with
              | [y, z, u], _ =>
              obtain ⟨t0, rfl⟩ := hC.2.2.2 y z u rfl
              have HDX := hide (hC.1.2.2.1 (by simp))
              have HMX := hide hC.1.2.2.2
              have hxk : wk.heap.size ≤ x.heap.size := by
                rcases (unhide HMX).2 with ⟨hv, _⟩ | ⟨g, _, _, hv, hg, hc, _⟩
                · cases hv
                · have := (Array.getElem?_eq_some_iff.1 hc).1; omega
              clear hC HC6
              simp [putP, slotOf, Act.put]
              go_wp2_with fail
              go_loopw [11, 12] (fun o i wr => ∃ (l : List Bool) (t : Int), i = .int .i64 t ∧ wk.heap.size ≤ wr.heap.size ∧ l.length ≤ 49 ∧ (l = [] ∨ (l.length : Int) + t ≤ 49) ∧ Hid (RowM wk.heap.size wr o l) ∧ Hid (DR (w.heap.size + 1) (w.heap.size + 1) cb w.heap.size P w (md + 1 + l.length) vars (.slice va ls.length vc) ls vs wr)) (fun _ i _ => (intOf i).toNat)
              case atStart => exact ⟨[], t0, rfl, hxk, by simp, .inl rfl, HMX, (unhide HDX).more (by simp)⟩
              case round =>
                rename World => wr
                obtain ⟨l, t, rfl, hzr, hl49, hlt49, HM9, HD9⟩ := hrel
                clear HMX HDX
                obtain ⟨oa, oc, hov, _⟩ := own_boolsB (unhide HM9) (by omega)
                subst hov
                by_cases ht0 : 0 < t
                · by_cases ht1 : t < 50
                  · have hwt : IntKind.i64.wrap (t - 1) = t - 1 := by rw [IntKind.wrap_i64]; omega
                    have hl48 : l.length ≤ 48 := by
                      rcases hlt49 with h | h
                      · rw [h]; simp
                      · omega
                    go_wp2_with fail
                    refine (pick_any (w.heap.size + 1) (w.heap.size + 1) _ 2 _ (unhide HD9).rd (by omega) (by omega) (by omega)).mono ?_
                    rintro e w10 ⟨⟨q, rfl, q0, q1⟩, R10, W10⟩
                    have HD10 := hide ((unhide HD9).picked R10 W10 (by omega))
                    have HM10 := hide ((unhide HM9).wrote W10)
                    have hz10 : wk.heap.size ≤ w10.heap.size := Nat.le_trans hzr W10.size
                    clear HD9 HM9 R10 W10
                    have hnew : (((l ++ [true]).length : Nat) : Int) + (t - 1) ≤ 49 := by
                      rcases hlt49 with h | h
                      · rw [h]; simp; omega
                      · simp; omega
                    have hnew2 : (l ++ [true]).length ≤ 49 := by simp; omega
                    have hnl : ∀ b : Bool, (l ++ [b]).length = (l ++ [true]).length := fun b => by simp
                    obtain ⟨bq, hbq⟩ : ∃ bq, (q == 0) = bq := ⟨_, rfl⟩
                    have hbq2 : decide (q = 0) = bq := by rw [← hbq]; rfl
                    have hown : w10.ownsRow wk.heap.size 4 1 (.slice oa l.length oc) l.length (l.map fun i => .bool i) := unhide HM10
                    have hblk : ∀ b, (Value.slice oa l.length oc).ownBlock = some b → wk.heap.size ≤ b := fun b hb => (World.ownsRow.lt hown b hb).1
                    have hpk2 := (unhide HD10).past
                    go_wp2_with (first
                      | (at_builtin; refine wpList_append_own _ rfl _ _ 34 rfl wk.heap.size 4 i1 (.bool false) 1 1 Try.underlying34 hj1 hy0 hy1 hy2 rfl (by decide) _ _ _ rfl (hown.alloc _) ⟨w10.heap.size, 0, none⟩ 1 1 [.bool bq] rfl rfl ?c1 ?c2 ?c3 ?c4 ?c5 ?_))
                    case c1 =>
                      intro j u hj
                      match j, hj with
                      | 0, hj => simp at hj; subst hj; simp [Addr.add]
                    case c2 => intro u hu; simp at hu; subst hu; rfl
                    case c3 => unfold maxLen; omega
                    case c4 => omega
                    case c5 => simp; omega
                    intro v' wj hown' hgrow _
                    have HM11 : Hid (RowM wk.heap.size wj v' (l ++ [bq])) := by
                      show RowM _ _ _ _
                      unfold RowM
                      simpa using hown'
                    have hzj := hgrow.size
                    simp at hzj
                    have HD11 := hide ((unhide HD10).far (y := wj) ⟨hgrow.os, hgrow.tape, hgrow.output, by omega, fun b hb => (hgrow.block b (by simp; omega) (fun e => by have := hblk b e.symm; omega)).trans (blk_alloc_lt _ _ _ (by omega))⟩ (by omega) hcP hcbP)
                    clear hown hown' hgrow HD10 HM10
                    go_wp2_with fail
                    go_roundw
                    case rel => exact ⟨l ++ [bq], t - 1, by simp [hwt], by omega, by rw [hnl]; exact hnew2, .inr (by rw [hnl]; exact hnew), HM11, (unhide HD11).more (by simp; omega)⟩
                    case measure => simp [intOf]; omega
                  · have ht2 : (50 : Int) ≤ t := by omega
                    obtain ⟨oa', oc', e1, hbb⟩ := own_boolsB (unhide HM9) (by omega)
                    simp only [Value.slice.injEq, true_and] at e1
                    obtain ⟨rfl, rfl⟩ := e1
                    have hfin := (unhide HD9).finB hcbP hll (unhide HSH) (mc := oc) (by omega) hbb (by omega)
                    obtain ⟨x0, x1, xf⟩ := two (unhide HD9).cell
                    obtain ⟨r0, r1, rf⟩ := two (unhide HD9).res
                    have rf0 := rf 0
                    have rf1 := rf 1
                    have HF := hide hfin
                    clear hfin xf rf HD9
                    go_wp2_with fail
                    obtain ⟨⟨f1, f2⟩, R0, R1⟩ := unhide HF
                    exact bodyPost_ret (v := .tuple #[.agg #[.int .i64 vars, .slice va ls.length vc], .slice (oa) l.length oc]) (by simp [results, Try.results18, go_sem, R0, R1]) rfl ⟨f1, f2⟩
                · obtain ⟨oa', oc', e1, hbb⟩ := own_boolsB (unhide HM9) (by omega)
                  simp only [Value.slice.injEq, true_and] at e1
                  obtain ⟨rfl, rfl⟩ := e1
                  have hfin := (unhide HD9).finB hcbP hll (unhide HSH) (mc := oc) (by omega) hbb (by omega)
                  obtain ⟨x0, x1, xf⟩ := two (unhide HD9).cell
                  obtain ⟨r0, r1, rf⟩ := two (unhide HD9).res
                  have rf0 := rf 0
                  have rf1 := rf 1
                  have HF := hide hfin
                  clear hfin xf rf HD9
                  go_wp2_with fail
                  obtain ⟨⟨f1, f2⟩, R0, R1⟩ := unhide HF
                  exact bodyPost_ret (v := .tuple #[.agg #[.int .i64 vars, .slice va ls.length vc], .slice (oa) l.length oc]) (by simp [results, Try.results18, go_sem, R0, R1]) rfl ⟨f1, f2⟩
end Go.Proofs.Ythkhaemlcmkkjag
