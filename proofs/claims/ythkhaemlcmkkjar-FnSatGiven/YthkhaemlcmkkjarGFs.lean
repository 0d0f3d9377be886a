/- A search in memory: its choices and its refutation beside what is known; the program's choose, takeBack. The program's takeBack, turn. Behind choices that cannot be the last one is made the other way: the program's turn. -/
import Derived.Test.YthkhaemlcmkkjarGFu
import Derived.Test.YthkhaemlcmkkjarGDcn
import Derived.BigRegion
namespace Go.Proofs.Ythkhaemlcmkkjar
set_option linter.unusedVariables false
set_option linter.unusedSimpArgs false
open Go.RowKit Go.Deep

theorem own_kept {w w' : World} {B sz n : Nat} {e : TypeId} {v : Value} {xs : List Value} (h : w.ownsRow B e sz v n xs) (hb : ∀ g, v.ownBlock = some g → w'.heap[g]? = w.heap[g]?) : w'.ownsRow B e sz v n xs := by
  refine ⟨h.1, h.2.imp id ?_⟩
  rintro ⟨g, cap, cur, hv, hB, hc, r⟩
  exact ⟨g, cap, cur, hv, hB, (hb g (by rw [hv]; rfl)).trans hc, r⟩
theorem own_type {w : World} {B sz n : Nat} {e : TypeId} {v : Value} {xs : List Value} (h : w.ownsRow B e sz v n xs) {g : Nat} (hg : v.ownBlock = some g) : ∃ cur, w.heap[g]? = some (.cells cur e (0, 0)) := by
  rcases h.2 with ⟨hv, _⟩ | ⟨g', cap, cur, hv, hB, hc, r⟩
  · rw [hv] at hg; cases hg
  · rw [hv] at hg
    simp only [Value.ownBlock, Option.some.injEq] at hg
    exact ⟨cur, by rw [← hg]; exact hc⟩
theorem own_other {w : World} {B sz n B2 sz2 n2 : Nat} {e e2 : TypeId} {v v2 : Value} {xs xs2 : List Value} (h : w.ownsRow B e sz v n xs) (h2 : w.ownsRow B2 e2 sz2 v2 n2 xs2) (he : e ≠ e2) {g : Nat} (hg : v.ownBlock = some g) : some g ≠ v2.ownBlock := fun e' => by
  obtain ⟨c1, h1⟩ := own_type h hg
  obtain ⟨c2, h3⟩ := own_type h2 e'.symm
  rw [h1] at h3
  simp only [Option.some.injEq, Obj.cells.injEq] at h3
  exact he h3.2.1
theorem lst_kept {B : Nat} {w w' : World} {v : Value} {l : List (List Int)} {vs : List Value} (h : LstI B w v l vs) (h1 : ∀ g, v.ownBlock = some g → w'.heap[g]? = w.heap[g]?) (h2 : ∀ i g, i < l.length → (vs.getD i undef).ownBlock = some g → w'.heap[g]? = w.heap[g]?) : LstI B w' v l vs :=
  ⟨h.len, own_kept h.own h1, fun i hi => own_kept (h.row i hi) (h2 i · hi), h.apart⟩
/-- The marks of choices, the last one first. -/
def mkR : List LvD → List (Nat × List Int)
  | [] => []
  | d :: r => (d.m, litsOf r.reverse) :: mkR r
/-- A search in memory. -/
structure SS (w0 : World) (cb : Nat) (C : Array Value) (w : World) (F : Nat) (rl : Rl) (S : FSt) (V : FV) (r : List LvD) (P : List (List Int)) : Prop where
  fat : FAt w w0.heap.size F rl none S V
  bel : Below w0.heap.size w0 w
  box : w.heap[cb]? = some (.cells C 41 (0, 0)) ∧ rl cb = none
  lev : ∃ la lc, w.cell? ⟨F, 1205, none⟩ = some (.slice la r.length lc) ∧ w.ownsRow w0.heap.size 121 2 (.slice la r.length lc) r.length (lvVs r.reverse) ∧ ∀ g, (Value.slice la r.length lc).ownBlock = some g → rl g = none
  mks : ∀ d, d ∈ r → MkAt w F d.fb d.nb d.m ∧ rl d.fb = none ∧ rl d.nb = none
  prf : ∃ pv vs, w.cell? ⟨F, 1206, none⟩ = some pv ∧ LstI w0.heap.size w pv P vs ∧ (∀ g, pv.ownBlock = some g → rl g = none) ∧ ∀ i g, i < P.length → (vs.getD i undef).ownBlock = some g → rl g = none
section
variable {w0 : World} {cb : Nat} {C : Array Value} {w w' : World} {F : Nat} {rl rl' : Rl} {S S' : FSt} {V V' : FV} {r : List LvD} {P : List (List Int)}
theorem own_lt {w : World} {B sz n : Nat} {e : TypeId} {v : Value} {xs : List Value} (h : w.ownsRow B e sz v n xs) {g : Nat} (hg : v.ownBlock = some g) : g < w.heap.size := (World.ownsRow.lt h g hg).2
/-- What is known has changed. -/
theorem SS.kept (h : SS w0 cb C w F rl S V r P) (hk : Kp w0.heap.size w rl w' rl') (hF : FAt w' w0.heap.size F rl' none S' V') : SS w0 cb C w' F rl' S' V' r P := by
  have hlt := h.fat.lt
  have key : ∀ g, g < w.heap.size → rl g = none → w'.heap[g]? = w.heap[g]? ∧ rl' g = none := fun g h1 h2 => ⟨hk.oth g h1 h2, (hk.ext g h1).trans h2⟩
  have hbl : cb < w.heap.size := (Array.getElem?_eq_some_iff.1 h.box.1).1
  obtain ⟨la, lc, l1, l2, l3⟩ := h.lev
  obtain ⟨pv, vs, p1, p2, p3, p4⟩ := h.prf
  refine ⟨hF, h.bel.trans hk.below, ⟨(key cb hbl h.box.2).1.trans h.box.1, (key cb hbl h.box.2).2⟩, ⟨la, lc, ?_, ?_, ?_⟩, fun d hd => ?_, pv, vs, ?_, ?_, ?_, ?_⟩
  · exact (hk.ex F 1205 hlt h.fat.self (by omega)).1.trans l1
  · exact own_kept l2 fun g hg => (key g (own_lt l2 hg) (l3 g hg)).1
  · exact fun g hg => (key g (own_lt l2 hg) (l3 g hg)).2
  · obtain ⟨m1, m2, m3⟩ := h.mks d hd
    have hl := m1.lt
    exact ⟨m1.kept (key _ hl.1 m2).1 (key _ hl.2 m3).1, (key _ hl.1 m2).2, (key _ hl.2 m3).2⟩
  · exact (hk.ex F 1206 hlt h.fat.self (by omega)).1.trans p1
  · exact lst_kept p2 (fun g hg => (key g (own_lt p2.own hg) (p3 g hg)).1) (fun i g hi hg => (key g (own_lt (p2.row i hi) hg) (p4 i g hi hg)).1)
  · exact fun g hg => (key g (own_lt p2.own hg) (p3 g hg)).2
  · exact fun i g hi hg => (key g (own_lt (p2.row i hi) hg) (p4 i g hi hg)).2
theorem SS.on (h : SS w0 cb C w F rl S V r P) (hb : Below w.heap.size w w') : SS w0 cb C w' F rl S V r P := h.kept (kp_on hb h.fat.base) (h.fat.on hb)
theorem FAt.setX {w : World} {B F : Nat} {rl : Rl} {x : Option Role} {S : FSt} {V : FV} (h : FAt w B F rl x S V) {i : Nat} (hi : 1205 ≤ i) (v : Value) : FAt (w.setCell ⟨F, i, none⟩ v) B F rl x S V := by
  have c := h.cells
  refine h.setF i v ⟨fun u hu => ?_, ?_, ?_, ?_, fun l h1 h2 => ?_, fun j => ?_⟩ h.rows
  · rw [setF_other (by omega)]; exact c.kn u hu
  · rw [setF_other (by omega)]; exact c.tc
  · rw [setF_other (by omega)]; exact c.ac
  · rw [setF_other (by omega)]; exact c.cc
  · rw [setF_other (by unfold wPlace; omega)]; exact c.wc l h1 h2
  · rw [setF_frozen]; exact c.fz j
theorem fresh_role {w : World} {B F : Nat} {rl : Rl} {x : Option Role} {S : FSt} {V : FV} (h : FAt w B F rl x S V) {g : Nat} (hg : w.heap.size ≤ g) : rl g = none := by
  cases e : rl g with
  | none => rfl
  | some q => have := (h.low g q e).2; omega
/-- One more choice. -/
theorem SS.push (h : SS w0 cb C w F rl S V r P) {la : Option Addr} {lc : Nat} (l1 : w.cell? ⟨F, 1205, none⟩ = some (.slice la r.length lc)) {y1 y : World} (hb : Below w.heap.size w y1) {d : LvD} (hm : MkAt y1 F d.fb d.nb d.m) (hf : w.heap.size ≤ d.fb) (hn : w.heap.size ≤ d.nb) (hg : y1.grownBy y (Value.slice la r.length lc).ownBlock)
    {va : Option Addr} {vc : Nat} (hown : y.ownsRow w0.heap.size 121 2 (.slice va (r.length + 1) vc) (r.length + 1) (lvVs r.reverse ++ [.int .i64 d.lit, mkV d.fb d.nb])) (hfr : (Value.slice va (r.length + 1) vc).ownBlock = (Value.slice la r.length lc).ownBlock ∨ (Value.slice va (r.length + 1) vc).ownBlock = some y1.heap.size) :
    SS w0 cb C (y.setCell ⟨F, 1205, none⟩ (.slice va (r.length + 1) vc)) F rl S V (d :: r) P := by
  have h1 := h.on hb
  obtain ⟨la', lc', l1', l2, l3⟩ := h1.lev
  have e1 : y1.cell? ⟨F, 1205, none⟩ = some (.slice la r.length lc) := (hb.cell (p := ⟨F, 1205, none⟩) h.fat.lt).trans l1
  rw [e1] at l1'
  simp only [Option.some.injEq, Value.slice.injEq, true_and] at l1'
  obtain ⟨rfl, rfl⟩ := l1'
  obtain ⟨pv, vs, p1, p2, p3, p4⟩ := h1.prf
  have hyF := h1.fat.lt
  have hrow : ∀ g, (Value.slice la r.length lc).ownBlock = some g → rl g = none := l3
  have hself := h1.fat.self
  have hneF : (Value.slice la r.length lc).ownBlock ≠ some F := fun e => by rw [hrow F e] at hself; cases hself
  have h2 := h1.fat.step hg hrow
  have hstep : ∀ g, g < y1.heap.size → some g ≠ (Value.slice la r.length lc).ownBlock → g ≠ F → (y.setCell ⟨F, 1205, none⟩ (.slice va (r.length + 1) vc)).heap[g]? = y1.heap[g]? := fun g h3 h4 h5 => by
    rw [blk_setCell_other _ _ _ _ h5, hg.block g h3 h4]
  have hnF : ∀ g, rl g = none → g ≠ F := fun g e e2 => by rw [e2, hself] at e; cases e
  have hty : ∀ (g : Nat) (cur : Array Value) (e : TypeId), y1.heap[g]? = some (.cells cur e (0, 0)) → e ≠ 121 → some g ≠ (Value.slice la r.length lc).ownBlock := fun g cur e h3 h4 h5 => by
    obtain ⟨c2, h6⟩ := own_type l2 h5.symm
    rw [h3] at h6
    simp only [Option.some.injEq, Obj.cells.injEq] at h6
    exact h4 h6.2.1
  have keepMk : ∀ d' : LvD, MkAt y1 F d'.fb d'.nb d'.m → rl d'.fb = none → rl d'.nb = none → MkAt (y.setCell ⟨F, 1205, none⟩ (.slice va (r.length + 1) vc)) F d'.fb d'.nb d'.m := fun d' m1 m2 m3 =>
    m1.kept (hstep _ m1.lt.1 (hty _ _ _ m1.fk (by decide)) (hnF _ m2)) (hstep _ m1.lt.2 (hty _ _ _ m1.nk (by decide)) (hnF _ m3))
  have hsz : y1.heap.size ≤ y.heap.size := hg.size
  refine ⟨h2.setX (by omega) _, ?_, ?_, ⟨va, vc, ?_, ?_, ?_⟩, fun d' hd' => ?_, pv, vs, ?_, ?_, p3, p4⟩
  · refine Below.setCell ⟨hg.os.trans h1.bel.os, hg.tape.trans h1.bel.tape, hg.output.trans h1.bel.output, Nat.le_trans h1.bel.size hsz, fun b hb' => ?_⟩ (h1.fat.low F _ hself).1 _
    rw [hg.block b (Nat.lt_of_lt_of_le hb' h1.bel.size) (fun e => ?_)]
    · exact h1.bel.block b hb'
    · have := (World.ownsRow.lt l2 b e.symm).1
      omega
  · have hbl := (Array.getElem?_eq_some_iff.1 h1.box.1).1
    exact ⟨(hstep cb hbl (hty _ _ _ h1.box.1 (by decide)) (hnF _ h1.box.2)).trans h1.box.1, h1.box.2⟩
  · show (y.setCell ⟨F, 1205, none⟩ (.slice va (r.length + 1) vc)).cell? ⟨F, 1205, none⟩ = _
    exact setF_same (u := .slice la r.length lc) ((World.cell?_of_block (w := y1) (a := ⟨F, 1205, none⟩) (hg.block F hyF (fun e => hneF e.symm))).trans e1)
  · rw [List.reverse_cons, lvVs_snoc]
    refine own_kept hown fun g hg' => blk_setCell_other _ _ _ _ ?_
    replace hg' : (Value.slice va (r.length + 1) vc).ownBlock = some g := hg'
    rcases hfr with e | e
    · rw [e] at hg'
      exact hnF g (hrow g hg')
    · rw [e] at hg'
      simp only [Option.some.injEq] at hg'
      show g ≠ F
      omega
  · intro g hg'
    rcases hfr with e | e
    · exact hrow g (by rw [← e]; exact hg')
    · have : some y1.heap.size = some g := by rw [← e]; exact hg'
      simp only [Option.some.injEq] at this
      exact fresh_role h1.fat (by omega)
  · rcases List.mem_cons.1 hd' with rfl | hd'
    · have q1 := fresh_role h.fat hf
      have q2 := fresh_role h.fat hn
      exact ⟨keepMk _ hm q1 q2, q1, q2⟩
    · obtain ⟨m1, m2, m3⟩ := h1.mks d' hd'
      exact ⟨keepMk _ m1 m2 m3, m2, m3⟩
  · rw [setF_other (by omega)]
    exact (World.cell?_of_block (w := y1) (a := ⟨F, 1206, none⟩) (hg.block F hyF (fun e => hneF e.symm))).trans p1
  · exact lst_kept p2 (fun g hg' => hstep g (own_lt p2.own hg') (own_other p2.own l2 (by decide) hg') (hnF g (p3 g hg'))) (fun i g hi hg' => hstep g (own_lt (p2.row i hi) hg') (own_other (p2.row i hi) l2 (by decide) hg') (hnF g (p4 i g hi hg')))
/-- One more clause of the refutation. -/
theorem SS.prove (h : SS w0 cb C w F rl S V r P) {pv : Value} {vs : List Value} (p1 : w.cell? ⟨F, 1206, none⟩ = some pv) (p2 : LstI w0.heap.size w pv P vs) (p3 : ∀ g, pv.ownBlock = some g → rl g = none) (p4 : ∀ i g, i < P.length → (vs.getD i undef).ownBlock = some g → rl g = none)
    {y1 y : World} (hb : Below w.heap.size w y1) {u : Value} {c : List Int} (hu : RowI w.heap.size y1 u c) (hg : y1.grownBy y pv.ownBlock) {pv' : Value} (hown : y.ownsRow w0.heap.size 26 1 pv' (P.length + 1) (vs ++ [u])) (hfr : pv'.ownBlock = pv.ownBlock ∨ pv'.ownBlock = some y1.heap.size) :
    SS w0 cb C (y.setCell ⟨F, 1206, none⟩ pv') F rl S V r (P ++ [c]) := by
  have h1 := h.on hb
  obtain ⟨la, lc, l1, l2, l3⟩ := h1.lev
  have q2 := p2.on hb
  have e1 : y1.cell? ⟨F, 1206, none⟩ = some pv := (hb.cell (p := ⟨F, 1206, none⟩) h.fat.lt).trans p1
  have hyF := h1.fat.lt
  have hself := h1.fat.self
  have hneF : pv.ownBlock ≠ some F := fun e => by rw [p3 F e] at hself; cases hself
  have h2 := h1.fat.step hg p3
  have hnF : ∀ g, rl g = none → g ≠ F := fun g e e2 => by rw [e2, hself] at e; cases e
  have hstep : ∀ g, g < y1.heap.size → some g ≠ pv.ownBlock → g ≠ F → (y.setCell ⟨F, 1206, none⟩ pv').heap[g]? = y1.heap[g]? := fun g h3 h4 h5 => by
    rw [blk_setCell_other _ _ _ _ h5, hg.block g h3 h4]
  have hty : ∀ (g : Nat) (cur : Array Value) (e : TypeId), y1.heap[g]? = some (.cells cur e (0, 0)) → e ≠ 26 → some g ≠ pv.ownBlock := fun g cur e h3 h4 h5 => by
    obtain ⟨c2, h6⟩ := own_type q2.own h5.symm
    rw [h3] at h6
    simp only [Option.some.injEq, Obj.cells.injEq] at h6
    exact h4 h6.2.1
  have hsz : y1.heap.size ≤ y.heap.size := hg.size
  have hsn := LstI.snoc q2 hu h.fat.base (fun i j hi hj => own_lt (p2.row i hi) hj) hown hg
  have hroles : ∀ g, pv'.ownBlock = some g → rl g = none := fun g hg' => by
    rcases hfr with e | e
    · exact p3 g (by rw [← e]; exact hg')
    · have : some y1.heap.size = some g := by rw [← e]; exact hg'
      simp only [Option.some.injEq] at this
      exact fresh_role h1.fat (by omega)
  have hrows : ∀ i g, i < (P ++ [c]).length → ((vs ++ [u]).getD i undef).ownBlock = some g → rl g = none := fun i g hi hg' => by
    by_cases hlt : i < P.length
    · exact p4 i g hlt (by rwa [show (vs ++ [u]).getD i undef = vs.getD i undef by simp [List.getD, List.getElem?_append, show i < vs.length by rw [p2.len]; exact hlt]] at hg')
    · have hie : i = vs.length := by rw [p2.len]; simp at hi; omega
      rw [show (vs ++ [u]).getD i undef = u by simp [List.getD, hie]] at hg'
      exact fresh_role h.fat (World.ownsRow.lt hu g hg').1
  refine ⟨h2.setX (by omega) _, ?_, ?_, ⟨la, lc, ?_, ?_, l3⟩, fun d' hd' => ?_, pv', vs ++ [u], ?_, ?_, hroles, hrows⟩
  · refine Below.setCell ⟨hg.os.trans h1.bel.os, hg.tape.trans h1.bel.tape, hg.output.trans h1.bel.output, Nat.le_trans h1.bel.size hsz, fun b hb' => ?_⟩ (h1.fat.low F _ hself).1 _
    rw [hg.block b (Nat.lt_of_lt_of_le hb' h1.bel.size) (fun e => ?_)]
    · exact h1.bel.block b hb'
    · have := (World.ownsRow.lt q2.own b e.symm).1
      omega
  · have hbl := (Array.getElem?_eq_some_iff.1 h1.box.1).1
    exact ⟨(hstep cb hbl (hty _ _ _ h1.box.1 (by decide)) (hnF _ h1.box.2)).trans h1.box.1, h1.box.2⟩
  · rw [setF_other (by omega)]
    exact (World.cell?_of_block (w := y1) (a := ⟨F, 1205, none⟩) (hg.block F hyF (fun e => hneF e.symm))).trans l1
  · exact own_kept l2 fun g hg' => hstep g (own_lt l2 hg') (own_other l2 q2.own (by decide) hg') (hnF g (l3 g hg'))
  · obtain ⟨m1, m2, m3⟩ := h1.mks d' hd'
    exact ⟨m1.kept (hstep _ m1.lt.1 (hty _ _ _ m1.fk (by decide)) (hnF _ m2)) (hstep _ m1.lt.2 (hty _ _ _ m1.nk (by decide)) (hnF _ m3)), m2, m3⟩
  · exact setF_same (u := pv) ((World.cell?_of_block (w := y1) (a := ⟨F, 1206, none⟩) (hg.block F hyF (fun e => hneF e.symm))).trans e1)
  · exact lst_kept hsn (fun g hg' => blk_setCell_other _ _ _ _ (hnF g (hroles g hg'))) (fun i g hi hg' => blk_setCell_other _ _ _ _ (hnF g (hrows i g hi hg')))
/-- The last choice is taken away. -/
theorem SS.pop {d : LvD} (h : SS w0 cb C w F rl S V (d :: r) P) {la : Option Addr} {lc : Nat} (l1 : w.cell? ⟨F, 1205, none⟩ = some (.slice la (d :: r).length lc)) : SS w0 cb C (w.setCell ⟨F, 1205, none⟩ (.slice la r.length lc)) F rl S V r P := by
  obtain ⟨la', lc', l1', l2, l3⟩ := h.lev
  rw [l1] at l1'
  simp only [Option.some.injEq, Value.slice.injEq, true_and] at l1'
  obtain ⟨rfl, rfl⟩ := l1'
  obtain ⟨pv, vs, p1, p2, p3, p4⟩ := h.prf
  have hself := h.fat.self
  have hnF : ∀ g, rl g = none → g ≠ F := fun g e e2 => by rw [e2, hself] at e; cases e
  have hk : ∀ g, rl g = none → (w.setCell ⟨F, 1205, none⟩ (.slice la r.length lc)).heap[g]? = w.heap[g]? := fun g e => blk_setCell_other _ _ _ _ (hnF g e)
  have hroles : ∀ g, (Value.slice la r.length lc).ownBlock = some g → rl g = none := fun g hg => l3 g (by
    cases la with
    | none => simp [Value.ownBlock] at hg
    | some ad => simpa [Value.ownBlock] using hg)
  refine ⟨h.fat.setX (by omega) _, Below.setCell h.bel (h.fat.low F _ hself).1 _, ⟨(hk cb h.box.2).trans h.box.1, h.box.2⟩, ⟨la, lc, setF_same l1, ?_, hroles⟩, fun d' hd' => ?_, pv, vs, ?_, ?_, p3, p4⟩
  · obtain ⟨h1, h2⟩ := l2
    refine ⟨by rw [lvVs_len, List.length_reverse], ?_⟩
    rcases h2 with ⟨hv, h0⟩ | ⟨g, cap, cur, hv, hB, hb, hnc, hcm, hsz, htk⟩
    · simp at h0
    · simp only [Value.slice.injEq] at hv
      obtain ⟨rfl, _, rfl⟩ := hv
      refine .inr ⟨g, lc, cur, rfl, hB, (hk g (hroles g rfl)).trans hb, by simp at hnc; omega, hcm, hsz, ?_⟩
      have e1 : lvVs r.reverse = (lvVs (d :: r).reverse).take (r.length * 2) := by
        rw [List.reverse_cons, lvVs_snoc, List.take_append_of_le_length (by rw [lvVs_len, List.length_reverse]; exact Nat.le_refl _), List.take_of_length_le (by rw [lvVs_len, List.length_reverse]; exact Nat.le_refl _)]
      rw [e1, ← htk, List.take_take]
      congr 1
      simp
  · obtain ⟨m1, m2, m3⟩ := h.mks d' (List.mem_cons_of_mem _ hd')
    exact ⟨m1.kept (hk _ m2) (hk _ m3), m2, m3⟩
  · rw [setF_other (by omega)]; exact p1
  · exact lst_kept p2 (fun g hg => hk g (p3 g hg)) (fun i g hi hg => hk g (p4 i g hi hg))
end
/-- The class of worlds while a choice is written. -/
structure CC (w : World) (B F : Nat) (la : Option Addr) (n lc : Nat) (xs : List Value) (m : Nat) (lit : Int) (b : Bool) (us : List Value) (x : World) : Prop where
  cell : x.cell? ⟨F, 1205, none⟩ = some (.slice la n lc)
  fz : x.frozen? ⟨F, 1205, none⟩ = false
  zero : us = [] → Below w.heap.size w x
  one : ∀ u, us = [u] → Below w.heap.size w x ∧ ∃ fb nb, u = mkV fb nb ∧ w.heap.size ≤ fb ∧ w.heap.size ≤ nb ∧ MkAt x F fb nb m
  two : ∀ u v, us = [u, v] → Below w.heap.size w x ∧ ∃ fb nb, v = .agg #[.int .i64 lit, mkV fb nb] ∧ w.heap.size ≤ fb ∧ w.heap.size ≤ nb ∧ MkAt x F fb nb m
  three : ∀ u v p, us = [u, v, p] → Below w.heap.size w x ∧ ∃ fb nb g, p = .slice (some ⟨g, 0, none⟩) 1 1 ∧ x.heap[g]? = some (.cells #[.int .i64 lit, mkV fb nb] 121 (0, 0)) ∧ w.heap.size ≤ fb ∧ w.heap.size ≤ nb ∧ MkAt x F fb nb m
  four : ∀ u v p q, us = [u, v, p, q] → ∃ x1 fb nb, Below w.heap.size w x1 ∧ MkAt x1 F fb nb m ∧ w.heap.size ≤ fb ∧ w.heap.size ≤ nb ∧ x1.grownBy x (Value.slice la n lc).ownBlock ∧ x.ownsRow B 121 2 q (n + 1) (xs ++ [.int .i64 lit, mkV fb nb]) ∧ (q.ownBlock = (Value.slice la n lc).ownBlock ∨ q.ownBlock = some x1.heap.size)
theorem CC.flag {w : World} {B F : Nat} {la : Option Addr} {n lc : Nat} {xs : List Value} {m : Nat} {lit : Int} {b b' : Bool} {us : List Value} {x : World} (h : CC w B F la n lc xs m lit b us x) : CC w B F la n lc xs m lit b' us x := ⟨h.cell, h.fz, h.zero, h.one, h.two, h.three, h.four⟩
/-- What choose leaves. -/
def ChooseP (vars : Nat) (cs : List (List Int)) (fix : Nat) (w0 : World) (cb : Nat) (C : Array Value) (F : Nat) (r : List LvD) (P : List (List Int)) (lit : Int) (e : Ending) (w' : World) : Prop :=
  ∃ rl' S' V' d, d.lit = lit ∧ SS w0 cb C w' F rl' S' V' (d :: r) P ∧ InvU vars cs (litsOf (d :: r).reverse) (mkR (d :: r)) fix S' ∧
    ((e = .returned (.bool true) ∧ S'.ask = S'.tr.length ∧ WatK S'.cl S'.tr S'.tr ∧ ∀ x, x ∈ litsOf (d :: r).reverse → x ∈ S'.tr) ∨ (e = .returned (.bool false) ∧ Conf cs (litsOf (d :: r).reverse)))

set_option maxRecDepth 100000 in
set_option maxHeartbeats 8000000 in
theorem choose_any (vars : Nat) (hv4 : vars ≤ 400) (cs : List (List Int)) (hC : NzC cs) (hCl : cs.length ≤ 12100) (fix : Nat) (w0 : World) (cb : Nat) (C : Array Value) (w : World) (F : Nat) (rl : Rl) (S : FSt) (V : FV) (r : List LvD) (P : List (List Int)) (h : SS w0 cb C w F rl S V r P) (hrl : r.length ≤ 400)
    (hI : InvU vars cs (litsOf r.reverse) (mkR r) fix S) (hask : S.ask = S.tr.length) (hw : WatK S.cl S.tr S.tr) (hL : ∀ x, x ∈ litsOf r.reverse → x ∈ S.tr) (lit : Int) (hl0 : lit ≠ 0) (hl1 : -(vars : Int) ≤ lit) (hl2 : lit ≤ vars) :
    Calls Try.prog 46 #[.pointer (some ⟨F, 0, none⟩), .int .i64 lit] w fun e w' => ChooseP vars cs fix w0 cb C F r P lit e w' := by
  obtain ⟨i0, hi, hz0, hz1, hz2⟩ := info_parts Try.infoLv
  obtain ⟨la, lc, l1, l2, l3⟩ := h.lev
  obtain ⟨n, hn⟩ : ∃ n, n = r.length := ⟨_, rfl⟩
  rw [← hn] at l1 l2 hrl l3
  have f1 := h.fat.cells.fz 1205
  have HMK := hide (fun x (hx : Below w.heap.size w x) => mark_any x w0.heap.size F rl none S V (h.fat.on hx) (by simp))
  have hF := h.fat.lt
  have hbase := h.fat.base
  have HGF := hide (show (Value.slice la n lc).ownBlock ≠ some F from fun e => by
    have := l3 F e
    rw [h.fat.self] at this
    cases this)
  have HS := hide h
  have HI := hide hI
  have HW := hide hw
  have HL := hide hL
  have HC := hide hC
  have HN := hide hn
  have HL1 := hide l1
  have HASK := hide hask
  clear h hI hask hw hL hC hn l3
  go_enter Try.func46, Try.ntmps46
  go_upto_region 1 with fail
  refine wp_region_mixN (k := 100) 15 [9, 10, 11, 12] [.pointer (some ⟨F, 0, none⟩), .pointer (some ⟨F, 0, none⟩), .pointer (some ⟨F, 0, none⟩), .pointer (some ⟨F, 1205, none⟩), .slice la n lc, .int .i64 lit, .pointer (some ⟨F, 0, none⟩), .pointer (some ⟨F, 0, none⟩), .pointer (some ⟨F, 0, none⟩), undef, undef, undef, undef, .pointer (some ⟨F, 0, none⟩), .pointer (some ⟨F, 1205, none⟩)] (CC w w0.heap.size F la n lc (lvVs r.reverse) S.tr.length lit) (by kernel_rfl) (by kernel_rfl) (by kernel_rfl) (by kernel_rfl) (by kernel_rfl) (by kernel_rfl) ⟨l1, f1, fun _ => (Below.refl _ _).drew, (fun u h => by cases h), (fun u v h => by cases h), (fun u v p h => by cases h), (fun u v p q h => by cases h)⟩ ?_ ?_ ?_
  · intro full hfull i oo hi hns ho y fl us hC hb
    simp [putAll, slotOf, Act.put] at hfull
    subst hfull
    have hc0 := hC.cell
    have hC0 := hC.flag (b' := fl)
    match i with
    | 0 => simp at ho; subst ho; simp [gwp, Region.wanted, yielded]; go_simp; first | done | exact hC0 | exact ⟨rfl, hC0⟩
    | 1 => simp at ho; subst ho; simp [gwp, Region.wanted, yielded]; go_simp; first | done | exact hC0 | exact ⟨rfl, hC0⟩
    | 2 => simp at ho; subst ho; simp [gwp, Region.wanted, yielded]; go_simp; first | done | exact hC0 | exact ⟨rfl, hC0⟩
    | 3 => simp at ho; subst ho; simp [gwp, Region.wanted, yielded]; go_simp; first | done | exact hC0 | exact ⟨rfl, hC0⟩
    | 4 => simp at ho; subst ho; simp [gwp, Region.wanted, yielded]; go_simp; first | done | exact hC0 | exact ⟨rfl, hC0⟩
    | 5 => simp at ho; subst ho; simp [gwp, Region.wanted, yielded]; go_simp; first | done | exact hC0 | exact ⟨rfl, hC0⟩
    | 6 => simp at ho; subst ho; simp [gwp, Region.wanted, yielded]; go_simp; first | done | exact hC0 | exact ⟨rfl, hC0⟩
    | 7 => simp at ho; subst ho; simp [gwp, Region.wanted, yielded]; go_simp; first | done | exact hC0 | exact ⟨rfl, hC0⟩
    | 8 => simp at ho; subst ho; simp [gwp, Region.wanted, yielded]; go_simp; first | done | exact hC0 | exact ⟨rfl, hC0⟩
    | 9 => simp at hns
    | 10 => simp at hns
    | 11 => simp at hns
    | 12 => simp at hns
    | 13 => simp at ho; subst ho; simp [gwp, Region.wanted, yielded]; go_simp; first | done | exact hC0 | exact ⟨rfl, hC0⟩
    | 14 => simp at ho; subst ho; simp [gwp, Region.wanted, yielded]; go_simp; first | done | exact hC0 | exact ⟨rfl, hC0⟩
    | i + 15 => omega
  · intro full hfull us j hj oo ho y fl hC
    simp [putAll, slotOf, Act.put] at hfull
    subst hfull
    match us with
    | [] =>
      simp at hj
      subst hj
      simp at ho
      subst ho
      have hb := hC.zero rfl
      simp [gwp, Region.wanted, yielded, putP]
      go_simp
      refine (unhide HMK y hb).mono ?_
      rintro e y' ⟨fb, nb, rfl, b2, h1, h2, h3⟩
      have hyz := hb.size
      go_simp
      refine ⟨?_, ?_, (fun h => by cases h), fun u hu => ?_, (fun u v h => by cases h), (fun u v p h => by cases h), (fun u v p q h => by cases h)⟩
      · exact (b2.cell (p := ⟨F, 1205, none⟩) (by show F < y.heap.size; omega)).trans hC.cell
      · exact (World.frozen?_of_block (w := y) (a := ⟨F, 1205, none⟩) (b2.block F (by omega))).trans hC.fz
      · cases hu
        exact ⟨hb.trans (b2.mono hyz), fb, nb, rfl, by omega, by omega, h3⟩
    | [u] =>
      simp at hj
      subst hj
      simp at ho
      subst ho
      obtain ⟨hb, fb, nb, rfl, h1, h2, h3⟩ := hC.one u rfl
      simp [gwp, Region.wanted, yielded, putP, slotOf, Act.put]
      go_simp
      refine ⟨hC.cell, hC.fz, (fun h => by cases h), (fun u h => by cases h), fun u v hu => ?_, (fun u v p h => by cases h), (fun u v p q h => by cases h)⟩
      cases hu
      exact ⟨hb, fb, nb, rfl, h1, h2, h3⟩
    | [u, v] =>
      simp at hj
      subst hj
      simp at ho
      subst ho
      obtain ⟨hb, fb, nb, rfl, h1, h2, h3⟩ := hC.two u v rfl
      have hyz := hb.size
      have ba := (Below.refl y.heap.size y).alloc (Nat.le_refl _) (.cells #[.int .i64 lit, mkV fb nb] 121)
      simp [gwp, Region.wanted, yielded, putP, slotOf, Act.put]
      go_simp
      refine ⟨?_, ?_, (fun h => by cases h), (fun u h => by cases h), (fun u v h => by cases h), fun u v p hu => ?_, (fun u v p q h => by cases h)⟩
      · exact (ba.cell (p := ⟨F, 1205, none⟩) (by show F < y.heap.size; omega)).trans hC.cell
      · exact (World.frozen?_of_block (w := y) (a := ⟨F, 1205, none⟩) (ba.block F (by omega))).trans hC.fz
      · cases hu
        exact ⟨hb.trans (ba.mono hyz), fb, nb, y.heap.size, rfl, blk_alloc_new _ _, h1, h2, h3.kept (ba.block _ h3.lt.1) (ba.block _ h3.lt.2)⟩
    | [u, v, p] =>
      simp at hj
      subst hj
      simp at ho
      subst ho
      obtain ⟨hb, fb, nb, g, rfl, hg2, h1, h2, h3⟩ := hC.three u v p rfl
      have hyz := hb.size
      have hownY := ownsRow_on l2 hb
      have hnews : ∀ j u, [Value.int .i64 lit, mkV fb nb][j]? = some u → y.cell? ((⟨g, 0, none⟩ : Addr).add j) = some u := fun j u hj => by
        have e : (⟨g, 0, none⟩ : Addr).add j = ⟨g, j, none⟩ := by unfold Addr.add; split <;> simp_all
        rw [e, cell_of_row y g j _ _ _ hg2]
        simpa using hj
      simp [gwp, Region.wanted, yielded, putP, slotOf, Act.put]
      refine opwp_append_two _ _ 90 rfl w0.heap.size 121 i0 (.agg #[.int .i64 0, .nilFunc]) 2 16 Try.underlying90 hi hz0 hz1 hz2 rfl (by decide) (.slice la n lc) n (lvVs r.reverse) rfl hownY ⟨g, 0, none⟩ 1 [.int .i64 lit, mkV fb nb] rfl rfl hnews (by intro u hu; simp at hu; rcases hu with rfl | rfl <;> rfl) (by unfold maxLen; omega) (by omega) (by omega) ?_
      intro v' y' g2 g3 g4
      have hyF := hb.size
      have hc2 : y'.cell? ⟨F, 1205, none⟩ = some (.slice la n lc) := (World.cell?_of_block (w := y) (a := ⟨F, 1205, none⟩) (g3.block F (by omega) (fun e => unhide HGF e.symm))).trans hC.cell
      have hf2 : y'.frozen? ⟨F, 1205, none⟩ = false := (World.frozen?_of_block (w := y) (a := ⟨F, 1205, none⟩) (g3.block F (by omega) (fun e => unhide HGF e.symm))).trans hC.fz
      refine ⟨v', by simp [Act.put], hc2, hf2, (fun h => by cases h), (fun u h => by cases h), (fun u v h => by cases h), (fun u v p h => by cases h), fun u v p q h => ?_⟩
      simp at h
      obtain ⟨rfl, rfl, rfl, rfl⟩ := h
      exact ⟨y, fb, nb, hb, h3, h1, h2, g3, g2, g4⟩
    | _ :: _ :: _ :: _ :: _ => simp at hj
  · intro full hfull us y hus hC
    simp [putAll, slotOf, Act.put] at hfull
    subst hfull
    match us, hus with
    | [u, v, p, q], _ =>
    obtain ⟨y1, fb, nb, hb, hm, h1, h2, hgrow, hown', hfr⟩ := hC.four u v p q rfl
    obtain ⟨va, vc, hvv⟩ := own_shape hown'
    subst hvv
    have t3 := hC.cell
    have f3 := hC.fz
    rw [unhide HN] at hgrow hown' hfr
    have hS4 := (unhide HS).push (d := ⟨lit, S.tr.length, fb, nb⟩) (by rw [← unhide HN]; exact unhide HL1) hb hm h1 h2 hgrow hown' hfr
    rw [← unhide HN] at hS4
    obtain ⟨d, hd⟩ : ∃ d : LvD, d = ⟨lit, S.tr.length, fb, nb⟩ := ⟨_, rfl⟩
    rw [← hd] at hS4
    have hlits : litsOf (d :: r).reverse = litsOf r.reverse ++ [lit] := by rw [List.reverse_cons]; simp [litsOf, hd]
    have hI4 : InvU vars cs (litsOf (d :: r).reverse) (mkR (d :: r)) fix S := by
      have h4 := ((unhide HI).mark (unhide HW) (unhide HASK) (unhide HL)).more (L' := litsOf (d :: r).reverse) (fun x hx => by rw [hlits]; exact List.mem_append_left _ hx)
      rw [show mkR (d :: r) = (S.tr.length, litsOf r.reverse) :: mkR r by rw [hd]; rfl]
      exact h4
    have HU := hide (show UP cs (litsOf (d :: r).reverse) lit from .given (by rw [hlits]; simp))
    have HSS := hide hS4
    have HI4 := hide hI4
    have HLT := hide (fun x (hx : x ∈ litsOf (d :: r).reverse) => show x ∈ litsOf r.reverse ∨ x = lit by rw [hlits, List.mem_append, List.mem_singleton] at hx; exact hx)
    have HDL := hide (show d.lit = lit by rw [hd])
    have HWA := hide (show WatK S.cl (S.tr.take S.ask) S.tr by rw [unhide HASK, List.take_length]; exact unhide HW)
    have HLN := hide (learn_any vars hv4 _ w0.heap.size F rl none S V hS4.fat (by simp) hI4.trail lit hl0 hl1 hl2)
    clear hC hgrow hown' hfr hS4 hI4 hlits hd hb hm h1 h2 l2 l1 f1
    simp [putP, slotOf, Act.put]
    go_wp2_with fail
    refine (unhide HLN).mono ?_
    rintro e w2 (⟨hne, rfl, hww⟩ | ⟨h0, rfl, rl2, tv2, hF2, hK2, _⟩)
    · have hww := hww.symm
      subst hww
      by_cases hv1 : valK S.K lit = 1
      · have hd : decide (valK S.K lit = 1) = true := decide_eq_true hv1
        have HIN := hide (show ∀ x, x ∈ litsOf (d :: r).reverse → x ∈ S.tr from fun x hx => by
          rcases unhide HLT x hx with h | h
          · exact unhide HL x h
          · rw [h]; exact ((unhide HI4).trail.mem lit hl0).1 hv1)
        have HFO := hide (follow_any vars hv4 cs (litsOf (d :: r).reverse) (unhide HC) hCl (mkR (d :: r)) fix _ w0.heap.size F rl S V (unhide HSS).fat (unhide HI4) (unhide HWA))
        rw [hd]
        clear hne hv1 hd HLN
        go_wp2_with fail
        refine (unhide HFO).mono ?_
        rintro e w7 ⟨rl7, S7, V7, hF7, hK7, hI7, htr7, hor⟩
        have HP : Hid (ChooseP vars cs fix w0 cb C F r P lit e w7) := ⟨rl7, S7, V7, d, unhide HDL, (unhide HSS).kept hK7 hF7, hI7, by
          rcases hor with ⟨rfl, ha, hW7⟩ | ⟨rfl, hcf⟩
          · exact .inl ⟨rfl, ha, hW7, fun x hx => by
              have := unhide HIN x hx
              rw [← htr7] at this
              exact List.mem_of_mem_take this⟩
          · exact .inr ⟨rfl, hcf⟩⟩
        obtain ⟨bb, rfl⟩ : ∃ bb, e = .returned (.bool bb) := by
          rcases hor with ⟨rfl, _⟩ | ⟨rfl, _⟩
          · exact ⟨_, rfl⟩
          · exact ⟨_, rfl⟩
        clear hF7 hK7 hI7 htr7 hor HFO
        go_wp2_with fail
        go_ret
        exact unhide HP
      · have hd : decide (valK S.K lit = 1) = false := decide_eq_false hv1
        have HP : Hid (ChooseP vars cs fix w0 cb C F r P lit (.returned (.bool false)) _) := ⟨rl, S, V, d, unhide HDL, unhide HSS, unhide HI4, .inr ⟨rfl, conf_both (unhide HI4).soundK hl0 (unhide HU) (low_of (unhide HI4) hv1 hne)⟩⟩
        rw [hd]
        clear hne hv1 hd HLN
        go_wp2_with fail
        go_ret
        exact unhide HP
    · have hp := (unhide HI4).push hl0 hl1 hl2 h0 (unhide HU)
      have HIN := hide (show ∀ x, x ∈ litsOf (d :: r).reverse → x ∈ S.tr ++ [lit] from fun x hx => by
        rcases unhide HLT x hx with h | h
        · exact List.mem_append_left _ (unhide HL x h)
        · rw [h]; simp)
      have HFO := hide (follow_any vars hv4 cs (litsOf (d :: r).reverse) (unhide HC) hCl (mkR (d :: r)) fix _ w0.heap.size F rl2 _ _ hF2 hp (by
        show WatK S.cl ((S.tr ++ [lit]).take S.ask) (S.tr ++ [lit])
        rw [take_push (unhide HI4).ask lit]
        exact (unhide HWA).mono (fun _ h => h) (fun x hx => List.mem_append_left _ hx)))
      have HS2 := hide ((unhide HSS).kept hK2 hF2)
      clear h0 hF2 hK2 hp HLN
      go_wp2_with fail
      refine (unhide HFO).mono ?_
      rintro e w7 ⟨rl7, S7, V7, hF7, hK7, hI7, htr7, hor⟩
      have HP : Hid (ChooseP vars cs fix w0 cb C F r P lit e w7) := ⟨rl7, S7, V7, d, unhide HDL, (unhide HS2).kept hK7 hF7, hI7, by
        rcases hor with ⟨rfl, ha, hW7⟩ | ⟨rfl, hcf⟩
        · exact .inl ⟨rfl, ha, hW7, fun x hx => by
            have := unhide HIN x hx
            rw [show S.tr ++ [lit] = S7.tr.take (S.tr ++ [lit]).length from htr7.symm] at this
            exact List.mem_of_mem_take this⟩
        · exact .inr ⟨rfl, hcf⟩⟩
      obtain ⟨bb, rfl⟩ : ∃ bb, e = .returned (.bool bb) := by
        rcases hor with ⟨rfl, _⟩ | ⟨rfl, _⟩
        · exact ⟨_, rfl⟩
        · exact ⟨_, rfl⟩
      clear hF7 hK7 hI7 htr7 hor HFO
      go_wp2_with fail
      go_ret
      exact unhide HP
end Go.Proofs.Ythkhaemlcmkkjar

namespace Go.Proofs.Ythkhaemlcmkkjar
set_option linter.unusedVariables false
set_option linter.unusedSimpArgs false
open Go.RowKit Go.Deep

/-- What takeBack leaves. -/
def TakeP (vars : Nat) (cs : List (List Int)) (fix : Nat) (w0 : World) (cb : Nat) (C : Array Value) (F : Nat) (rl : Rl) (d : LvD) (r : List LvD) (P : List (List Int)) (e : Ending) (w' : World) : Prop :=
  e = .returned (.int .i64 d.lit) ∧ ∃ S' V', SS w0 cb C w' F rl S' V' r P ∧ InvU vars cs (litsOf r.reverse) (mkR r) fix S' ∧ S'.ask = S'.tr.length ∧ WatK S'.cl S'.tr S'.tr ∧ ∀ x, x ∈ litsOf r.reverse → x ∈ S'.tr

set_option maxRecDepth 100000 in
set_option maxHeartbeats 8000000 in
theorem takeBack_any (vars : Nat) (hv4 : vars ≤ 400) (cs : List (List Int)) (fix : Nat) (w0 : World) (cb : Nat) (C : Array Value) (w : World) (F : Nat) (rl : Rl) (S : FSt) (V : FV) (d : LvD) (r : List LvD) (P : List (List Int)) (h : SS w0 cb C w F rl S V (d :: r) P) (hrl : r.length ≤ 400)
    (hI : InvU vars cs (litsOf (d :: r).reverse) (mkR (d :: r)) fix S) :
    Calls Try.prog 70 #[.pointer (some ⟨F, 0, none⟩)] w fun e w' => TakeP vars cs fix w0 cb C F rl d r P e w' := by
  obtain ⟨la, lc, l1, l2, l3⟩ := h.lev
  obtain ⟨g, hg, hgc⟩ : ∃ g, la = some ⟨g, 0, none⟩ ∧ (d :: r).length ≤ lc := by
    rcases l2.2 with ⟨_, h0⟩ | ⟨g, cap, cur, hv, _, _, hnc, _⟩
    · simp at h0
    · simp only [Value.slice.injEq] at hv
      exact ⟨g, hv.1, by rw [hv.2.2]; exact hnc⟩
  subst hg
  have hgl := own_lt l2 (g := g) rfl
  have hgF : g ≠ F := fun e => by
    have := l3 g rfl
    rw [e, h.fat.self] at this
    cases this
  obtain ⟨v0, v1⟩ := lvVs_at (d :: r).reverse r.length d (by rw [List.reverse_cons, List.getElem?_append_right (by rw [List.length_reverse]; exact Nat.le_refl _), List.length_reverse, Nat.sub_self]; rfl)
  have c0 := (l2.cellAt (r.length * 2) (by simp only [List.length_cons]; omega)).trans v0
  have c1 := (l2.cellAt (r.length * 2 + 1) (by simp only [List.length_cons]; omega)).trans v1
  have f1 := h.fat.cells.fz 1205
  have hF := h.fat.lt
  have hm := h.mks d (by simp)
  have HS2 := hide (fun y (hy : Below w.heap.size w y) => (h.on hy).pop ((hy.cell (p := ⟨F, 1205, none⟩) hF).trans l1))
  obtain ⟨n, hn⟩ : ∃ n, n = r.length := ⟨_, rfl⟩
  have hn1 : (d :: r).length = n + 1 := by rw [hn]; rfl
  rw [hn1] at l1 hgc
  rw [← hn] at c0 c1 hrl HS2
  have HMD := hide hm
  have HI := hide hI
  have HSELF := hide h.fat.self
  simp only [mkV] at c1
  have hw1 : IntKind.i64.wrap (((n + 1 : Nat) : Int) - 1) = (n : Int) := by rw [IntKind.wrap_i64]; omega
  have j1 : (n : Int) < ((n + 1 : Nat) : Int) := by omega
  have j0 : (0 : Int) ≤ (n : Int) := by omega
  have j2 : (n : Int) ≤ (lc : Int) := by omega
  clear h l2 l3 v0 v1 hm hI hn hn1 hgc
  generalize hlit : d.lit = lit at c0
  generalize hfb : d.fb = fb at c1
  generalize hnb : d.nb = nb at c1
  have HD := hide (And.intro hlit (And.intro hfb hnb))
  clear hlit hfb hnb
  go_enter Try.func70, Try.ntmps70
  go_upto_region 1 with fail
  go_region
  obtain ⟨w1, hw⟩ : ∃ w1, w1 = (w.alloc (.cells #[.int .i64 lit, .func (.func 101) #[] #[.pointer (some ⟨fb, 0, none⟩), .pointer (some ⟨nb, 0, none⟩)]] 121)).drew := ⟨_, rfl⟩
  have b1 : Below w.heap.size w w1 := by rw [hw]; exact ((Below.refl _ w).alloc (Nat.le_refl _) _).drew
  have d0 : w1.cell? ⟨w.heap.size, 0, none⟩ = some (.int .i64 lit) := by rw [hw]; simp
  have d1 : w1.cell? ⟨w.heap.size, 1, none⟩ = some (.func (.func 101) #[] #[.pointer (some ⟨fb, 0, none⟩), .pointer (some ⟨nb, 0, none⟩)]) := by rw [hw]; simp
  rw [← hw]
  have hz1 : w.heap.size < w1.heap.size := by rw [hw]; simp
  rw [← b1.cell (p := ⟨F, 1205, none⟩) hF] at l1
  have f1' : w1.frozen? ⟨F, 1205, none⟩ = false := (World.frozen?_of_block (w := w) (a := ⟨F, 1205, none⟩) (b1.block F hF)).trans f1
  have hS3 := unhide HS2 w1 b1
  have hm3 : MkAt w1 F d.fb d.nb d.m := (unhide HMD).1.kept (b1.block _ (unhide HMD).1.lt.1) (b1.block _ (unhide HMD).1.lt.2)
  clear hw b1 c0 c1 f1 HS2
  go_wp2_with fail
  go_upto_region 2 with fail
  go_region
  obtain ⟨w2, hw⟩ : ∃ w2, w2 = (w1.setCell ⟨F, 1205, none⟩ (.slice (some ⟨g, 0, none⟩) n lc)).drew := ⟨_, rfl⟩
  rw [← hw]
  have hlF : w.heap.size ≠ F := by omega
  have hb2 : ∀ b, b ≠ F → w2.heap[b]? = w1.heap[b]? := fun b hb => by
    rw [hw]
    show (w1.setCell ⟨F, 1205, none⟩ (.slice (some ⟨g, 0, none⟩) n lc)).heap[b]? = _
    exact blk_setCell_other _ _ _ _ hb
  have hS4 : SS w0 cb C w2 F rl S V r P := by
    rw [hw]
    exact hS3.on (Below.refl _ _).drew
  rw [← World.cell?_of_block (w := w1) (a := ⟨w.heap.size, _, none⟩) (hb2 w.heap.size hlF)] at d0 d1
  have hnF : ∀ b, rl b = none → b ≠ F := fun b e e2 => by
    have := unhide HSELF
    rw [e2, this] at e
    cases e
  have hm4 := hm3.kept (hb2 _ (hnF _ (unhide HMD).2.1)) (hb2 _ (hnF _ (unhide HMD).2.2))
  have hi := unhide HI
  have hun := hi.undo (m := (d.m, litsOf r.reverse)) (mk := mkR r)
  have HUN := hide (undo_both vars hv4 w2 w0.heap.size F rl S V hS4.fat hi.trail d.fb d.nb d.m hm4.fc hm4.nc (hnF _ (unhide HMD).2.1) (hnF _ (unhide HMD).2.2) hun.2.2.2).1
  rw [(unhide HD).2.1, (unhide HD).2.2] at HUN
  have HS4 := hide hS4
  have HIU := hide hun
  have hz2 : w.heap.size < w2.heap.size := World.block_lt_of_cell? _ _ d0
  clear hw hb2 hS3 hS4 hm3 hm4 hnF hi hun l1 f1'
  go_wp2_with fail
  refine (unhide HUN).mono ?_
  rintro e w3 ⟨rfl, Vq3, hF3, hK3, hO3⟩
  rw [← World.cell?_of_block (w := w2) (a := ⟨w.heap.size, _, none⟩) (hO3 w.heap.size hlF)] at d0 d1
  have HP : Hid (TakeP vars cs fix w0 cb C F rl d r P (.returned (.int .i64 lit)) w3) := ⟨by rw [(unhide HD).1], _, Vq3, (unhide HS4).kept hK3 hF3, (unhide HIU).1, by
    show d.m = (S.tr.take d.m).length
    have := (unhide HIU).2.2.2
    rw [List.length_take, Nat.min_eq_left this], (unhide HIU).2.1, (unhide HIU).2.2.1⟩
  clear hF3 hK3 hO3 HUN
  go_wp2_with fail
  go_ret
  exact unhide HP
end Go.Proofs.Ythkhaemlcmkkjar

namespace Go.Proofs.Ythkhaemlcmkkjar
set_option linter.unusedVariables false
set_option linter.unusedSimpArgs false
open Go.RowKit Go.Deep

/-- How much is left to try behind choices. -/
def wt1 (x : Int) : Nat := if x < 0 then 2 else 1
def wtS (st : List Int) : Nat := (st.map wt1).sum
theorem wtS_cons (x : Int) (st : List Int) : wtS (x :: st) = wt1 x + wtS st := by simp [wtS]
/-- Choices are of different variables. -/
def GoodC (vars : Nat) (st : List Int) : Prop := (st.map Int.natAbs).Nodup ∧ ∀ x, x ∈ st → x ≠ 0 ∧ -(vars : Int) ≤ x ∧ x ≤ vars
theorem GoodC.len {vars : Nat} {st : List Int} (h : GoodC vars st) : st.length ≤ vars := by
  have hp : ∀ l : List Nat, l.Nodup → (∀ x, x ∈ l → 0 < x) → (l.map (· - 1)).Nodup := fun l => by
    induction l with
    | nil => intro _ _; exact List.nodup_nil
    | cons x l ih =>
      intro hd hs
      rw [List.nodup_cons] at hd
      rw [List.map_cons, List.nodup_cons]
      refine ⟨fun hm => ?_, ih hd.2 (fun y hy => hs y (by simp [hy]))⟩
      obtain ⟨y, hy, e⟩ := List.mem_map.1 hm
      have h1 := hs x (by simp)
      have h2 := hs y (by simp [hy])
      have : y = x := by omega
      rw [this] at hy
      exact hd.1 hy
  have h1 := nodup_len vars ((st.map Int.natAbs).map (· - 1)) (hp _ h.1 (fun x hx => by
    obtain ⟨y, hy, rfl⟩ := List.mem_map.1 hx
    have := (h.2 y hy).1
    omega)) (fun x hx => by
    obtain ⟨z, hz, rfl⟩ := List.mem_map.1 hx
    obtain ⟨y, hy, rfl⟩ := List.mem_map.1 hz
    have := h.2 y hy
    omega)
  simpa using h1
theorem GoodC.tail {vars : Nat} {x : Int} {st : List Int} (h : GoodC vars (x :: st)) : GoodC vars st := ⟨(List.nodup_cons.1 h.1).2, fun y hy => h.2 y (by simp [hy])⟩
theorem GoodC.flip {vars : Nat} {x : Int} {st : List Int} (h : GoodC vars (x :: st)) : GoodC vars (-x :: st) := by
  refine ⟨by have := h.1; simpa using this, fun y hy => ?_⟩
  rcases List.mem_cons.1 hy with rfl | hy
  · have := h.2 x (by simp); omega
  · exact h.2 y (by simp [hy])
theorem lits_rev (r : List LvD) : litsOf r.reverse = (litsOf r).reverse := by simp [litsOf, List.map_reverse]
theorem lits_len (r : List LvD) : (litsOf r).length = r.length := by simp [litsOf]
/-- The weights of the choices in memory. -/
def lvW (F : Nat) (w : World) : Nat := match w.cell? ⟨F, 1205, none⟩ with
  | some (.slice (some ad) n _) => ((List.range n).map fun i => match w.cell? ⟨ad.block, i * 2, none⟩ with
    | some (.int _ z) => wt1 z
    | _ => 0).sum
  | _ => 0
theorem sum_range {α : Type} (l : List α) (f : α → Nat) (g : Nat → Nat) (h : ∀ i a, l[i]? = some a → g i = f a) : ((List.range l.length).map g).sum = (l.map f).sum := by
  congr 1
  apply List.ext_getElem?
  intro i
  by_cases hi : i < l.length
  · rw [List.getElem?_map, List.getElem?_map, List.getElem?_range hi, List.getElem?_eq_getElem hi]
    simp only [Option.map_some]
    rw [h i l[i] (List.getElem?_eq_getElem hi)]
  · rw [List.getElem?_eq_none (by simp; omega), List.getElem?_eq_none (by simp; omega)]
theorem SS.weight {w0 : World} {cb : Nat} {C : Array Value} {w : World} {F : Nat} {rl : Rl} {S : FSt} {V : FV} {r : List LvD} {P : List (List Int)} (h : SS w0 cb C w F rl S V r P) : lvW F w = wtS (litsOf r) := by
  obtain ⟨la, lc, l1, l2, l3⟩ := h.lev
  have hrev : wtS (litsOf r) = (r.reverse.map fun d => wt1 d.lit).sum := by
    unfold wtS litsOf
    rw [List.map_map, List.map_reverse, List.sum_reverse]
    rfl
  unfold lvW
  rw [l1]
  rcases l2.2 with ⟨hv, h0⟩ | ⟨g, cap, cur, hv, hB, hb, hnc, hcm, hsz, htk⟩
  · have : r = [] := List.length_eq_zero_iff.1 h0
    subst this
    simp only [Value.slice.injEq] at hv
    obtain ⟨rfl, _⟩ := hv
    rfl
  · simp only [Value.slice.injEq] at hv
    obtain ⟨rfl, _, rfl⟩ := hv
    rw [hrev]
    have := sum_range r.reverse (fun d => wt1 d.lit) (fun i => match w.cell? ⟨g, i * 2, none⟩ with
      | some (.int _ z) => wt1 z
      | _ => 0) (fun i d hd => by
        have h1 := (lvVs_at r.reverse i d hd).1
        have hi : i < r.length := by
          have := (List.getElem?_eq_some_iff.1 hd).1
          simpa using this
        rw [(l2.cellAt (i * 2) (by omega)).trans h1])
    rw [List.length_reverse] at this
    exact this
/-- The class of worlds while a clause comes to the refutation. -/
structure CR (w : World) (B F : Nat) (pv : Value) (n : Nat) (vs : List Value) (c : List Int) (b : Bool) (us : List Value) (x : World) : Prop where
  cell : x.cell? ⟨F, 1206, none⟩ = some pv
  fz : x.frozen? ⟨F, 1206, none⟩ = false
  zero : us = [] → Below w.heap.size w x
  one : ∀ u, us = [u] → Below w.heap.size w x ∧ RowI w.heap.size x u c
  two : ∀ u v, us = [u, v] → Below w.heap.size w x ∧ RowI w.heap.size x u c ∧ ∃ g, v = .slice (some ⟨g, 0, none⟩) 1 1 ∧ x.heap[g]? = some (.cells #[u] 26 (0, 0))
  three : ∀ u v q, us = [u, v, q] → ∃ x1, Below w.heap.size w x1 ∧ RowI w.heap.size x1 u c ∧ x1.grownBy x pv.ownBlock ∧ x.ownsRow B 26 1 q (n + 1) (vs ++ [u]) ∧ (q.ownBlock = pv.ownBlock ∨ q.ownBlock = some x1.heap.size)
theorem CR.flag {w : World} {B F : Nat} {pv : Value} {n : Nat} {vs : List Value} {c : List Int} {b b' : Bool} {us : List Value} {x : World} (h : CR w B F pv n vs c b us x) : CR w B F pv n vs c b' us x := ⟨h.cell, h.fz, h.zero, h.one, h.two, h.three⟩
/-- A search whose choices cannot be. -/
def TurnS (vars : Nat) (cs : List (List Int)) (most made : Nat) (R : SatR) (fix : Nat) (w0 : World) (cb : Nat) (C : Array Value) (F : Nat) (wr : World) : Prop :=
  ∃ rl S V r P, SS w0 cb C wr F rl S V r P ∧ (r ≠ [] → InvU vars cs (litsOf r.reverse) (mkR r) fix S) ∧ GoodC vars (litsOf r) ∧ P.length + wtS (litsOf r) ≤ 2 * made ∧ contNo cs vars most (litsOf r) made (P ++ [noL (litsOf r).reverse]) = R
/-- A search whose choices may be. -/
def CanS (vars : Nat) (cs : List (List Int)) (most made : Nat) (R : SatR) (fix : Nat) (w0 : World) (cb : Nat) (C : Array Value) (F : Nat) (wr : World) : Prop :=
  ∃ rl S V r P, SS w0 cb C wr F rl S V r P ∧ InvU vars cs (litsOf r.reverse) (mkR r) fix S ∧ S.ask = S.tr.length ∧ WatK S.cl S.tr S.tr ∧ (∀ x, x ∈ litsOf r.reverse → x ∈ S.tr) ∧ GoodC vars (litsOf r) ∧ P.length + wtS (litsOf r) ≤ 2 * made ∧ topC cs vars most (litsOf r) made P = R
/-- What turn leaves. -/
def TurnP (vars : Nat) (cs : List (List Int)) (most made : Nat) (R : SatR) (fix : Nat) (w0 : World) (cb : Nat) (C : Array Value) (F : Nat) (e : Ending) (w' : World) : Prop :=
  (e = .returned (.bool true) ∧ CanS vars cs most made R fix w0 cb C F w') ∨ (e = .returned (.bool false) ∧ ∃ rl S V P, SS w0 cb C w' F rl S V [] P ∧ R = (2, [], P))

set_option maxRecDepth 100000 in
set_option maxHeartbeats 8000000 in
theorem turn_any (vars : Nat) (hv4 : vars ≤ 400) (cs : List (List Int)) (hC : NzC cs) (hCl : cs.length ≤ 12100) (most made : Nat) (hmade : made ≤ 3000) (R : SatR) (fix : Nat) (w0 : World) (cb : Nat) (C : Array Value) (w : World) (F : Nat) (h : TurnS vars cs most made R fix w0 cb C F w) :
    Calls Try.prog 43 #[.pointer (some ⟨F, 0, none⟩)] w fun e w' => TurnP vars cs most made R fix w0 cb C F e w' := by
  obtain ⟨i0, hi, hz0, hz1, hz2⟩ := info_parts Try.infoIs
  have HST := hide h
  have HC := hide hC
  clear h hC
  go_enter Try.func43, Try.ntmps43
  go_wp2_with fail
  go_loopw [] (fun wr => Hid (TurnS vars cs most made R fix w0 cb C F wr)) (fun wr => lvW F wr)
  case atStart => exact HST
  case round =>
    rename World => wo
    have HS := hrel
    obtain ⟨rl, S, V, r, P, hS, hIr, hG, hlen, hR⟩ := unhide HS
    have hrl := hG.len
    rw [lits_len] at hrl
    obtain ⟨la, lc, l1, l2, l3⟩ := hS.lev
    obtain ⟨pv, vs, p1, p2, p3, p4⟩ := hS.prf
    obtain ⟨pa, pc, rfl⟩ : ∃ pa pc, pv = .slice pa P.length pc := own_shape p2.own
    have hme := hS.weight
    have f1 := hS.fat.cells.fz 1206
    have hF := hS.fat.lt
    have hbase := hS.fat.base
    obtain ⟨c, hc⟩ : ∃ c, c = noL (litsOf r).reverse := ⟨_, rfl⟩
    have hcl : r.length = c.length := by rw [hc]; simp [noL, litsOf]
    have HNO := hide (fun x (hx : Below wo.heap.size wo x) => no_any x w0.heap.size F r.reverse la lc (by rw [List.length_reverse]; omega) (fun d hd => by
      have := hG.2 d.lit (by
        have hd' := List.mem_reverse.1 hd
        unfold litsOf
        exact List.mem_map.2 ⟨d, hd', rfl⟩)
      omega) (by rw [List.length_reverse]; exact (hx.cell (p := ⟨F, 1205, none⟩) hF).trans l1) (by rw [List.length_reverse]; exact ownsRow_on l2 hx))
    rw [List.length_reverse, lits_rev, ← hc, hcl] at HNO
    have HGF := hide (show (Value.slice pa P.length pc).ownBlock ≠ some F from fun e => by
      have := p3 F e
      rw [hS.fat.self] at this
      cases this)
    have HP1 := hide p1
    have HP2 := hide p2
    have HP3 := hide p3
    have HP4 := hide p4
    have HSS := hide hS
    have HIR := hide hIr
    have HG := hide hG
    have HR := hide hR
    have HME := hide hme
    have HCC := hide hc
    have hpl : P.length ≤ 6000 := by omega
    have hown := p2.own
    have HLEN := hide hlen
    clear hS hIr hG hR l1 l2 l3 p2 p3 p4 hme hc hcl HS
    go_upto_region 1 with fail
    refine wp_region_mixN (k := 100) 11 [6, 7, 8] [.pointer (some ⟨F, 0, none⟩), .pointer (some ⟨F, 0, none⟩), .pointer (some ⟨F, 0, none⟩), .pointer (some ⟨F, 1206, none⟩), .slice pa P.length pc, .pointer (some ⟨F, 0, none⟩), undef, undef, undef, .pointer (some ⟨F, 0, none⟩), .pointer (some ⟨F, 1206, none⟩)] (CR wo w0.heap.size F (.slice pa P.length pc) P.length vs c) (by kernel_rfl) (by kernel_rfl) (by kernel_rfl) (by kernel_rfl) (by kernel_rfl) (by kernel_rfl) ⟨p1, f1, fun _ => (Below.refl _ _).drew, (fun u h => by cases h), (fun u v h => by cases h), (fun u v p h => by cases h)⟩ ?_ ?_ ?_
    · intro full hfull i oo hi hns ho y fl us hC hb
      simp [putAll, slotOf, Act.put] at hfull
      subst hfull
      have hc0 := hC.cell
      have hC0 := hC.flag (b' := fl)
      match i with
      | 0 => simp at ho; subst ho; simp [gwp, Region.wanted, yielded]; go_simp; first | done | exact hC0 | exact ⟨rfl, hC0⟩
      | 1 => simp at ho; subst ho; simp [gwp, Region.wanted, yielded]; go_simp; first | done | exact hC0 | exact ⟨rfl, hC0⟩
      | 2 => simp at ho; subst ho; simp [gwp, Region.wanted, yielded]; go_simp; first | done | exact hC0 | exact ⟨rfl, hC0⟩
      | 3 => simp at ho; subst ho; simp [gwp, Region.wanted, yielded]; go_simp; first | done | exact hC0 | exact ⟨rfl, hC0⟩
      | 4 => simp at ho; subst ho; simp [gwp, Region.wanted, yielded]; go_simp; first | done | exact hC0 | exact ⟨rfl, hC0⟩
      | 5 => simp at ho; subst ho; simp [gwp, Region.wanted, yielded]; go_simp; first | done | exact hC0 | exact ⟨rfl, hC0⟩
      | 6 => simp at hns
      | 7 => simp at hns
      | 8 => simp at hns
      | 9 => simp at ho; subst ho; simp [gwp, Region.wanted, yielded]; go_simp; first | done | exact hC0 | exact ⟨rfl, hC0⟩
      | 10 => simp at ho; subst ho; simp [gwp, Region.wanted, yielded]; go_simp; first | done | exact hC0 | exact ⟨rfl, hC0⟩
      | i + 11 => omega
    · intro full hfull us j hj oo ho y fl hC
      simp [putAll, slotOf, Act.put] at hfull
      subst hfull
      match us with
      | [] =>
        simp at hj
        subst hj
        simp at ho
        subst ho
        have hb := hC.zero rfl
        simp [gwp, Region.wanted, yielded, putP]
        go_simp
        refine (unhide HNO y hb).mono ?_
        rintro e y' ⟨⟨v, rfl, hrow⟩, b2⟩
        have hyz := hb.size
        go_simp
        refine ⟨?_, ?_, (fun h => by cases h), fun u hu => ?_, (fun u v h => by cases h), (fun u v p h => by cases h)⟩
        · exact (b2.cell (p := ⟨F, 1206, none⟩) (by show F < y.heap.size; omega)).trans hC.cell
        · exact (World.frozen?_of_block (w := y) (a := ⟨F, 1206, none⟩) (b2.block F (by omega))).trans hC.fz
        · cases hu
          exact ⟨hb.trans (b2.mono hyz), own_mono hrow hyz⟩
      | [u] =>
        simp at hj
        subst hj
        simp at ho
        subst ho
        obtain ⟨hb, hrow⟩ := hC.one u rfl
        obtain ⟨ua, uc, huv⟩ := own_shape hrow
        subst huv
        have hyz := hb.size
        have ba := (Below.refl y.heap.size y).alloc (Nat.le_refl _) (.cells #[.slice ua c.length uc] 26)
        simp [gwp, Region.wanted, yielded, putP, slotOf, Act.put]
        go_simp
        refine ⟨?_, ?_, (fun h => by cases h), (fun u h => by cases h), fun u v hu => ?_, (fun u v p h => by cases h)⟩
        · exact (ba.cell (p := ⟨F, 1206, none⟩) (by show F < y.heap.size; omega)).trans hC.cell
        · exact (World.frozen?_of_block (w := y) (a := ⟨F, 1206, none⟩) (ba.block F (by omega))).trans hC.fz
        · cases hu
          exact ⟨hb.trans (ba.mono hyz), ownsRow_on hrow ba, y.heap.size, rfl, blk_alloc_new _ _⟩
      | [u, v] =>
        simp at hj
        subst hj
        simp at ho
        subst ho
        obtain ⟨hb, hrow, g, rfl, hg2⟩ := hC.two u v rfl
        obtain ⟨ua, uc, huv⟩ := own_shape hrow
        subst huv
        have hyz := hb.size
        have hownY := ownsRow_on hown hb
        have hnews : ∀ j u, [Value.slice ua c.length uc][j]? = some u → y.cell? ((⟨g, 0, none⟩ : Addr).add j) = some u := fun j u hj => by
          match j, hj with
          | 0, hj =>
            simp at hj
            subst hj
            rw [show (⟨g, 0, none⟩ : Addr).add 0 = ⟨g, 0, none⟩ by simp [Addr.add], cell_of_row y g 0 _ _ _ hg2]
            rfl
        simp [gwp, Region.wanted, yielded, putP, slotOf, Act.put]
        refine opwp_append_two _ _ 39 rfl w0.heap.size 26 i0 (.slice none 0 0) 1 24 Try.underlying39 hi hz0 hz1 hz2 rfl (by decide) (.slice pa P.length pc) P.length vs rfl hownY ⟨g, 0, none⟩ 1 [.slice ua c.length uc] rfl rfl hnews (by intro u hu; simp at hu; subst hu; rfl) (by unfold maxLen; omega) (by omega) (by omega) ?_
        intro v' y' g2 g3 g4
        have hyF := hb.size
        have hc2 : y'.cell? ⟨F, 1206, none⟩ = some (.slice pa P.length pc) := (World.cell?_of_block (w := y) (a := ⟨F, 1206, none⟩) (g3.block F (by omega) (fun e => unhide HGF e.symm))).trans hC.cell
        have hf2 : y'.frozen? ⟨F, 1206, none⟩ = false := (World.frozen?_of_block (w := y) (a := ⟨F, 1206, none⟩) (g3.block F (by omega) (fun e => unhide HGF e.symm))).trans hC.fz
        refine ⟨v', by simp [Act.put], hc2, hf2, (fun h => by cases h), (fun u h => by cases h), (fun u v h => by cases h), fun u v p h => ?_⟩
        simp at h
        obtain ⟨rfl, rfl, rfl⟩ := h
        exact ⟨y, hb, hrow, g3, g2, g4⟩
      | _ :: _ :: _ :: _ => simp at hj
    · intro full hfull us y hus hC
      simp [putAll, slotOf, Act.put] at hfull
      subst hfull
      match us, hus with
      | [u, v, q], _ =>
      obtain ⟨y1, hb, hrow, hgrow, hown', hfr⟩ := hC.three u v q rfl
      have hS4 := (unhide HSS).prove (unhide HP1) (unhide HP2) (unhide HP3) (unhide HP4) hb hrow hgrow hown' hfr
      obtain ⟨qa, qc, hqv⟩ := own_shape hown'
      subst hqv
      have t3 := hC.cell
      have f3 := hC.fz
      have hP1 : (P ++ [c]).length + wtS (litsOf r) ≤ 2 * made + 1 := by have := unhide HLEN; simp; omega
      have hR1 : contNo cs vars most (litsOf r) made (P ++ [c]) = R := by rw [unhide HCC]; exact unhide HR
      have HS4 := hide hS4
      obtain ⟨la, lc, l1, l2, l3⟩ := hS4.lev
      obtain ⟨w2, hw2⟩ : ∃ w2, w2 = y.setCell ⟨F, 1206, none⟩ (.slice qa (P.length + 1) qc) := ⟨_, rfl⟩
      rw [← hw2] at HS4 l1
      have HW2 := hide hw2
      clear hS4 hC hgrow hown' hfr hb hrow l2 l3 hown hw2
      simp [putP, slotOf, Act.put]
      cases r with
      | nil =>
        have HP : Hid (TurnP vars cs most made R fix w0 cb C F (.returned (.bool false)) w2) := .inr ⟨rfl, rl, S, V, P ++ [c], unhide HS4, by rw [← hR1]; rfl⟩
        clear hR1 hP1
        simp only [List.length_nil] at l1
        go_upto_region 2 with fail
        rw [← unhide HW2]
        go_wp2_with fail
        go_ret
        exact unhide HP
      | cons d r' =>
        have hG0 := unhide HG
        have hlit0 := hG0.2 d.lit (by simp [litsOf])
        have hrl' : r'.length ≤ 400 := by simp at hrl; omega
        have HTB := hide (takeBack_any vars hv4 cs fix w0 cb C w2 F rl S V d r' (P ++ [c]) (unhide HS4) hrl' (unhide HIR (by simp)))
        have hwt : wtS (litsOf (d :: r')) = wt1 d.lit + wtS (litsOf r') := by show wtS (d.lit :: litsOf r') = _; rw [wtS_cons]
        rw [hwt] at hP1
        have HME2 := hide (show lvW F wo = wt1 d.lit + wtS (litsOf r') by rw [unhide HME, hwt])
        have HGT := hide (show GoodC vars (d.lit :: litsOf r') from hG0)
        have hR2 : contNo cs vars most (d.lit :: litsOf r') made (P ++ [c]) = R := hR1
        have hst : (litsOf r').length < 400 := by have := hG0.len; rw [lits_len] at this ⊢; simp at this; omega
        obtain ⟨n, hn⟩ : ∃ n, n = r'.length := ⟨_, rfl⟩
        rw [List.length_cons, ← hn] at l1
        have hne : (((n : Nat) : Int) + 1 == 0) = false := by rw [beq_eq_false_iff_ne]; omega
        clear hR1 hwt hG0 hn
        obtain ⟨lit, hlit⟩ : ∃ lit, lit = d.lit := ⟨_, rfl⟩
        rw [← hlit] at hlit0 hP1 HME2 HGT hR2
        have HDL := hide hlit
        have HP1' := hide hP1
        have HR2 := hide hR2
        have HSTL := hide hst
        have HVL := hide (show (litsOf r').length = r'.length from lits_len r')
        have hneg : IntKind.i64.wrap (-lit) = -lit := by rw [IntKind.wrap_i64]; omega
        clear hlit hP1 hR2 hst
        go_upto_region 2 with fail
        rw [← unhide HW2]
        go_wp2_with fail
        refine (unhide HTB).mono ?_
        rintro e w3 ⟨he, S3, Vq3, hS3, hI3, hask3, hW3, hL3⟩
        rw [← unhide HDL] at he
        subst he
        by_cases hlt : lit < 0
        · have HCH := hide (choose_any vars hv4 cs (unhide HC) hCl fix w0 cb C w3 F rl S3 Vq3 r' (P ++ [c]) hS3 hrl' hI3 hask3 hW3 hL3 (-lit) (by omega) (by omega) (by omega))
          have hw1 : wt1 lit = 2 := by unfold wt1; rw [if_pos hlt]
          have hw2 : wt1 (-lit) = 1 := by unfold wt1; rw [if_neg (by omega)]
          have HWT := hide (And.intro hw1 hw2)
          clear hS3 hI3 hask3 hW3 hL3 hw1 hw2 HTB
          go_wp2_with fail
          refine (unhide HCH).mono ?_
          rintro e w4 ⟨rl4, S4, Vq4, d4, hd4, hS4, hI4, hor⟩
          have hl4 : litsOf (d4 :: r') = -lit :: litsOf r' := by rw [← hd4]; rfl
          have hr4 : litsOf (d4 :: r').reverse = (-lit :: litsOf r').reverse := by rw [lits_rev, hl4]
          have hlen4 : (P ++ [c]).length + wtS (litsOf (d4 :: r')) ≤ 2 * made := by
            have h1 := unhide HP1'
            have h2 := unhide HWT
            rw [hl4, wtS_cons, h2.2]
            omega
          have hG4 : GoodC vars (litsOf (d4 :: r')) := by rw [hl4]; exact (unhide HGT).flip
          have hT4 : topC cs vars most (litsOf (d4 :: r')) made (P ++ [c]) = R := by rw [hl4, ← cont_neg hlt (unhide HSTL)]; exact unhide HR2
          rcases hor with ⟨rfl, ha4, hW4, hL4⟩ | ⟨rfl, hcf⟩
          · have HP : Hid (TurnP vars cs most made R fix w0 cb C F (.returned (.bool true)) w4) := .inl ⟨rfl, rl4, S4, Vq4, d4 :: r', P ++ [c], hS4, hI4, ha4, hW4, hL4, hG4, hlen4, hT4⟩
            clear hS4 hI4 ha4 hW4 hL4 hG4 hlen4 hT4 hl4 hr4 hd4 HCH
            go_wp2_with fail
            go_ret
            exact unhide HP
          · have HSN : Hid (TurnS vars cs most made R fix w0 cb C F w4) := ⟨rl4, S4, Vq4, d4 :: r', P ++ [c], hS4, fun _ => hI4, hG4, hlen4, by
              rw [← hT4]
              have h1 := hG4.len
              exact (top_conf (by omega) (by rw [← lits_rev]; exact confB_true hcf)).symm⟩
            have HMS := hide (show lvW F w4 < lvW F wo by
              have h2 := unhide HWT
              rw [unhide HME2, hS4.weight, hl4, wtS_cons, h2.1, h2.2]
              omega)
            clear hS4 hI4 hcf hG4 hlen4 hT4 hl4 hr4 hd4 HCH
            go_wp2_with fail
            go_roundw
            case rel => exact HSN
            case measure => exact unhide HMS
        · have hw1 : wt1 lit = 1 := by unfold wt1; rw [if_neg hlt]
          have hlen4 : (P ++ [c]).length + wtS (litsOf r') ≤ 2 * made := by
            have h1 := unhide HP1'
            rw [hw1] at h1
            omega
          have HSN : Hid (TurnS vars cs most made R fix w0 cb C F w3) := ⟨rl, S3, Vq3, r', P ++ [c], hS3, fun _ => hI3, (unhide HGT).tail, hlen4, by
            rw [← cont_pos hlt]
            exact unhide HR2⟩
          have HMS := hide (show lvW F w3 < lvW F wo by
            rw [unhide HME2, hS3.weight, hw1]
            omega)
          clear hS3 hI3 hask3 hW3 hL3 hw1 hlen4 HTB
          go_wp2_with fail
          go_roundw
          case rel => exact HSN
          case measure => exact unhide HMS
end Go.Proofs.Ythkhaemlcmkkjar
