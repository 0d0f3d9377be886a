/- What a literal is by what is known: the program's value. What is known, and watched clauses, in memory: each row in blocks of its own. What the program does with what is known: learn, learnAll. A literal watches a clause: the program's litPlace, watch. Cells of nothing. -/
import Derived.Test.YthkhaemlcmkkjarGUp
import Derived.Test.YthkhaemlcmkkjarGGrow
import Derived.Test.YthkhaemlcmkkjarGDrawS
import Derived.Test.YthkhaemlcmkkjarGRn
namespace Go.Proofs.Ythkhaemlcmkkjar
set_option linter.unusedVariables false
set_option linter.unusedSimpArgs false
open Go.RowKit Go.Deep Go.Sort

/-- What is known lies in the first cells of a block. -/
def KnownAt (w : World) (F : Nat) (K : Nat → Int) : Prop := ∀ v, v ≤ 400 → w.cell? ⟨F, v, none⟩ = some (.int .i8 (K v))
theorem wrap8 {k : Int} (h : k = 1 ∨ k = 0 ∨ k = -1) : IntKind.i8.wrap (-k) = -k := by
  rcases h with rfl | rfl | rfl <;> rfl
set_option maxHeartbeats 2000000 in
theorem value_any (F : Nat) (K : Nat → Int) (ht : TriK K) (x : Int) (h1 : -400 ≤ x) (h2 : x ≤ 400) (w : World) (h : KnownAt w F K) :
    Calls Try.prog 102 #[.pointer (some ⟨F, 0, none⟩), .int .i64 x] w fun e w' => e = .returned (.int .i8 (valK K x)) ∧ w' = w := by
  have hc := h x.natAbs (by omega)
  have hw := wrap8 (ht x.natAbs)
  have hv : valK K x = if x < 0 then -K x.natAbs else K x.natAbs := rfl
  generalize K x.natAbs = k at hc hw hv
  have HV := hide hv
  clear h hv
  by_cases hx : x < 0
  · obtain ⟨n, hn⟩ : ∃ n : Nat, n = x.natAbs := ⟨_, rfl⟩
    have hneg : IntKind.i64.wrap (-x) = (n : Int) := by rw [IntKind.wrap_i64]; omega
    have n1 : (n : Int) < 401 := by omega
    have n0 : (0 : Int) ≤ (n : Int) := by omega
    rw [← hn] at hc
    have HN := hide hn
    clear hn
    go_enter Try.func102, Try.ntmps102
    go_wp2_with fail
    go_ret
    exact ⟨by rw [unhide HV, if_pos hx]; rfl, rfl⟩
  · obtain ⟨n, rfl⟩ : ∃ n : Nat, x = (n : Int) := ⟨x.natAbs, by omega⟩
    rw [Int.natAbs_natCast] at hc
    have n1 : (n : Int) < 401 := by omega
    have n0 : (0 : Int) ≤ (n : Int) := by omega
    go_enter Try.func102, Try.ntmps102
    go_wp2_with fail
    go_ret
    exact ⟨by rw [unhide HV, if_neg (by omega)]; rfl, rfl⟩
end Go.Proofs.Ythkhaemlcmkkjar

namespace Go.Proofs.Ythkhaemlcmkkjar
set_option linter.unusedVariables false
set_option linter.unusedSimpArgs false
open Go.RowKit Go.Deep Go.Sort

/-- What a block is for. -/
inductive Role
  | self | trail | outer
  | clause (i : Nat)
  | watch (l : Int)
  | free
/-- The slices as they are. -/
structure FV where
  tv : Value
  cv : Value
  wv : Int → Value
  dv : Nat → Value
def iV (l : List Int) : List Value := l.map fun x => .int .i64 x
def nV (l : List Nat) : List Value := l.map fun (n : Nat) => Value.int .i64 (n : Int)
theorem iV_len (l : List Int) : (iV l).length = l.length := by simp [iV]
theorem nV_len (l : List Nat) : (nV l).length = l.length := by simp [nV]
theorem iV_snoc (l : List Int) (x : Int) : iV (l ++ [x]) = iV l ++ [.int .i64 x] := by simp [iV]
theorem nV_snoc (l : List Nat) (x : Nat) : nV (l ++ [x]) = nV l ++ [.int .i64 (x : Int)] := by simp [nV]
def rowT : Role → TypeId
  | .outer => 26
  | _ => 3
def rowV (V : FV) : Role → Value
  | .trail => V.tv
  | .outer => V.cv
  | .clause i => V.dv i
  | .watch l => V.wv l
  | _ => .slice none 0 0
def rowX (S : FSt) (V : FV) : Role → Option (List Value)
  | .trail => some (iV S.tr)
  | .outer => some ((List.range S.cl.length).map V.dv)
  | .clause i => (S.cl[i]?).map iV
  | .watch l => if -400 ≤ l ∧ l ≤ 400 then some (nV (S.wt l)) else none
  | _ => none
abbrev Rl := Nat → Option Role
def RowR (w : World) (B : Nat) (rl : Rl) (r : Role) (e : TypeId) (v : Value) (xs : List Value) : Prop := w.ownsRow B e 1 v xs.length xs ∧ ∀ g, v.ownBlock = some g → rl g = some r
def wPlace (l : Int) : Nat := 404 + (l + 400).toNat
structure CellsF (w : World) (F : Nat) (S : FSt) (V : FV) : Prop where
  kn : KnownAt w F S.K
  tc : w.cell? ⟨F, 401, none⟩ = some V.tv
  ac : w.cell? ⟨F, 402, none⟩ = some (.int .i64 (S.ask : Int))
  cc : w.cell? ⟨F, 403, none⟩ = some V.cv
  wc : ∀ l : Int, -400 ≤ l → l ≤ 400 → w.cell? ⟨F, wPlace l, none⟩ = some (V.wv l)
  fz : ∀ i, w.frozen? ⟨F, i, none⟩ = false
structure FAt (w : World) (B F : Nat) (rl : Rl) (x : Option Role) (S : FSt) (V : FV) : Prop where
  low : ∀ g r, rl g = some r → B ≤ g ∧ g < w.heap.size
  self : rl F = some .self
  cells : CellsF w F S V
  rows : ∀ r xs, x ≠ some r → rowX S V r = some xs → RowR w B rl r (rowT r) (rowV V r) xs
/-- From w to w' blocks without a role are kept, and roles. -/
structure Kp (B : Nat) (w : World) (rl : Rl) (w' : World) (rl' : Rl) : Prop where
  below : Below B w w'
  oth : ∀ b, b < w.heap.size → rl b = none → w'.heap[b]? = w.heap[b]?
  ext : ∀ b, b < w.heap.size → rl' b = rl b
  ex : ∀ g i, g < w.heap.size → rl g = some .self → 1205 ≤ i → w'.cell? ⟨g, i, none⟩ = w.cell? ⟨g, i, none⟩ ∧ w'.frozen? ⟨g, i, none⟩ = w.frozen? ⟨g, i, none⟩
theorem Kp.refl (B : Nat) (w : World) (rl : Rl) : Kp B w rl w rl := ⟨Below.refl _ _, fun _ _ _ => rfl, fun _ _ => rfl, fun _ _ _ _ _ => ⟨rfl, rfl⟩⟩
theorem Kp.trans {B : Nat} {w w' w'' : World} {rl rl' rl'' : Rl} (h : Kp B w rl w' rl') (k : Kp B w' rl' w'' rl'') : Kp B w rl w'' rl'' :=
  ⟨h.below.trans k.below, fun b hb hn => (k.oth b (Nat.lt_of_lt_of_le hb h.below.size) ((h.ext b hb).trans hn)).trans (h.oth b hb hn), fun b hb => (k.ext b (Nat.lt_of_lt_of_le hb h.below.size)).trans (h.ext b hb), fun g i hg hs hi => by
    have h1 := h.ex g i hg hs hi
    have h2 := k.ex g i (Nat.lt_of_lt_of_le hg h.below.size) ((h.ext g hg).trans hs) hi
    exact ⟨h2.1.trans h1.1, h2.2.trans h1.2⟩⟩
theorem Kp.cell {B : Nat} {w w' : World} {rl rl' : Rl} (h : Kp B w rl w' rl') {p : Addr} (hb : p.block < w.heap.size) (hn : rl p.block = none) : w'.cell? p = w.cell? p := World.cell?_of_block (w := w) (h.oth p.block hb hn)
theorem grownF_set (w : World) (g i : Nat) (v : Value) : w.grownBy (w.setCell ⟨g, i, none⟩ v) (some g) := ⟨rfl, rfl, rfl, by rw [nblk_setCell]; exact Nat.le_refl _, fun k _ hk => blk_setCell_other _ _ _ _ (fun e => hk (by rw [e]))⟩
theorem grownF_alloc (w : World) (o : Obj) : w.grownBy (w.alloc o) none := World.grownBy_alloc w o none
section
variable {w w' : World} {B F : Nat} {rl rl' : Rl} {x : Option Role} {S : FSt} {V : FV}
theorem FAt.lt (h : FAt w B F rl x S V) : F < w.heap.size := (h.low F _ h.self).2
theorem FAt.base (h : FAt w B F rl x S V) : B ≤ w.heap.size := by have := h.low F _ h.self; omega
theorem FAt.fresh (h : FAt w B F rl x S V) : rl w.heap.size = none := by
  cases e : rl w.heap.size with
  | none => rfl
  | some r => have := (h.low _ _ e).2; omega
theorem FAt.but (h : FAt w B F rl none S V) (r : Role) : FAt w B F rl (some r) S V := ⟨h.low, h.self, h.cells, fun r' xs _ hx => h.rows r' xs (by simp) hx⟩
theorem RowR.kept {r : Role} {e : TypeId} {v : Value} {xs : List Value} {row : Option Nat} (h : RowR w B rl r e v xs) (hg : w.grownBy w' row) (hr : ∀ g, row = some g → rl g ≠ some r) (hx : ∀ g, rl g = some r → rl' g = some r) : RowR w' B rl' r e v xs := by
  refine ⟨h.1.kept hg ?_, fun g hv => hx g (h.2 g hv)⟩
  cases hv : v.ownBlock with
  | none => exact .inl rfl
  | some g =>
    right
    intro e
    exact hr g e.symm (h.2 g hv)
theorem CellsF.kept {row : Option Nat} (h : CellsF w F S V) (hF : F < w.heap.size) (hg : w.grownBy w' row) (hr : row ≠ some F) : CellsF w' F S V := by
  have hb := hg.block F hF (fun e => hr e.symm)
  have hc : ∀ i, w'.cell? ⟨F, i, none⟩ = w.cell? ⟨F, i, none⟩ := fun i => World.cell?_of_block (w := w) (a := ⟨F, i, none⟩) hb
  exact ⟨fun v hv => (hc v).trans (h.kn v hv), (hc _).trans h.tc, (hc _).trans h.ac, (hc _).trans h.cc, fun l h1 h2 => (hc _).trans (h.wc l h1 h2), fun i => (World.frozen?_of_block (w := w) (a := ⟨F, i, none⟩) hb).trans (h.fz i)⟩
/-- Something else is written. -/
theorem FAt.step {row : Option Nat} (h : FAt w B F rl x S V) (hg : w.grownBy w' row) (hr : ∀ g, row = some g → rl g = none) : FAt w' B F rl x S V :=
  ⟨fun g r hgr => ⟨(h.low g r hgr).1, Nat.lt_of_lt_of_le (h.low g r hgr).2 hg.size⟩, h.self, h.cells.kept h.lt hg (fun e => by have := hr F e; rw [h.self] at this; cases this),
   fun r xs hn hx => (h.rows r xs hn hx).kept hg (fun g e hh => by have := hr g e; rw [hh] at this; cases this) (fun _ h => h)⟩
theorem FAt.on (h : FAt w B F rl x S V) (hb : Below w.heap.size w w') : FAt w' B F rl x S V :=
  h.step (row := none) ⟨hb.os, hb.tape, hb.output, hb.size, fun b hb' _ => hb.block b hb'⟩ (fun g e => by cases e)
/-- A block gets a role. -/
def giveR (rl : Rl) (g : Nat) (r : Role) : Rl := fun b => if b = g then some r else rl b
theorem FAt.give (h : FAt w B F rl x S V) {g : Nat} (hg : rl g = none) (h1 : B ≤ g) (h2 : g < w.heap.size) (r : Role) : FAt w B F (giveR rl g r) x S V := by
  have hx : ∀ g' r', rl g' = some r' → giveR rl g r g' = some r' := fun g' r' e => by
    unfold giveR
    rw [if_neg (fun e2 => by rw [e2, hg] at e; cases e)]
    exact e
  refine ⟨fun g' r' e => ?_, hx _ _ h.self, h.cells, fun r' xs hn hxx => ⟨(h.rows r' xs hn hxx).1, fun g' e => hx _ _ ((h.rows r' xs hn hxx).2 g' e)⟩⟩
  unfold giveR at e
  split at e
  · rename_i e2; rw [e2]; exact ⟨h1, h2⟩
  · exact h.low g' r' e
theorem Kp.give {w0 : World} {rl0 : Rl} {B0 : Nat} (h : Kp B0 w0 rl0 w rl) {g : Nat} (hg : w0.heap.size ≤ g) (r : Role) : Kp B0 w0 rl0 w (giveR rl g r) :=
  ⟨h.below, h.oth, fun b hb => by unfold giveR; rw [if_neg (by omega)]; exact h.ext b hb, h.ex⟩
theorem setF_same {i : Nat} {v u : Value} (hu : w.cell? ⟨F, i, none⟩ = some u) : (w.setCell ⟨F, i, none⟩ v).cell? ⟨F, i, none⟩ = some v := World.cell?_setCell_same _ _ _ hu
theorem setF_other {i j : Nat} {v : Value} (hij : j ≠ i) : (w.setCell ⟨F, i, none⟩ v).cell? ⟨F, j, none⟩ = w.cell? ⟨F, j, none⟩ := World.cell?_setCell_other _ _ _ _ (fun h => hij (by simpa using h.symm))
theorem setF_frozen {g i j : Nat} {v : Value} : (w.setCell ⟨g, i, none⟩ v).frozen? ⟨F, j, none⟩ = w.frozen? ⟨F, j, none⟩ := by
  unfold World.frozen? World.setCell
  simp only [Array.getElem?_modify]
  by_cases e : g = F
  · subst e
    rw [if_pos rfl]
    cases w.heap[g]? with
    | none => rfl
    | some o => cases o <;> simp
  · rw [if_neg e]
theorem RowR.setF {r : Role} {e : TypeId} {v u : Value} {xs : List Value} {i : Nat} (h : RowR w B rl r e v xs) (hs : rl F = some .self) (hr : r ≠ .self) : RowR (w.setCell ⟨F, i, none⟩ u) B rl r e v xs :=
  h.kept (grownF_set w F i u) (fun g e hh => by
    simp only [Option.some.injEq] at e
    rw [← e, hs] at hh
    simp only [Option.some.injEq] at hh
    exact hr hh.symm) (fun _ h => h)
/-- A cell of the block itself is written: the rows stay. -/
theorem FAt.setF (h : FAt w B F rl x S V) {S' : FSt} {V' : FV} (i : Nat) (v : Value) (hc : CellsF (w.setCell ⟨F, i, none⟩ v) F S' V') (hX : ∀ r xs, x ≠ some r → rowX S' V' r = some xs → RowR w B rl r (rowT r) (rowV V' r) xs) : FAt (w.setCell ⟨F, i, none⟩ v) B F rl x S' V' :=
  ⟨fun g r hgr => by rw [nblk_setCell]; exact h.low g r hgr, h.self, hc, fun r xs hn hx => by
    by_cases hs : r = .self
    · subst hs; simp [rowX] at hx
    · exact (hX r xs hn hx).setF h.self hs⟩
/-- A variable is known. -/
theorem FAt.known (h : FAt w B F rl x S V) {v : Nat} (hv : v ≤ 400) (z : Int) : FAt (w.setCell ⟨F, v, none⟩ (.int .i8 z)) B F rl x ⟨fun u => if u = v then z else S.K u, S.tr, S.ask, S.cl, S.wt⟩ V := by
  have c := h.cells
  refine h.setF _ _ ⟨fun u hu => ?_, ?_, ?_, ?_, fun l h1 h2 => ?_, fun i => ?_⟩ h.rows
  · by_cases e : u = v
    · subst e
      rw [setF_same (c.kn u hu)]
      simp
    · rw [setF_other e, c.kn u hu]
      simp [e]
  · rw [setF_other (by omega)]; exact c.tc
  · rw [setF_other (by omega)]; exact c.ac
  · rw [setF_other (by omega)]; exact c.cc
  · rw [setF_other (by unfold wPlace; omega)]; exact c.wc l h1 h2
  · rw [setF_frozen]; exact c.fz i
theorem FAt.asked (h : FAt w B F rl x S V) (a : Nat) : FAt (w.setCell ⟨F, 402, none⟩ (.int .i64 (a : Int))) B F rl x ⟨S.K, S.tr, a, S.cl, S.wt⟩ V := by
  have c := h.cells
  refine h.setF _ _ ⟨fun u hu => ?_, ?_, ?_, ?_, fun l h1 h2 => ?_, fun i => ?_⟩ h.rows
  · rw [setF_other (by omega)]; exact c.kn u hu
  · rw [setF_other (by omega)]; exact c.tc
  · exact setF_same c.ac
  · rw [setF_other (by omega)]; exact c.cc
  · rw [setF_other (by unfold wPlace; omega)]; exact c.wc l h1 h2
  · rw [setF_frozen]; exact c.fz i
/-- A row has grown; where it moved to a new block, that is the row's. -/
def roleOn (rl : Rl) (z : Nat) (r : Role) (v : Value) : Rl := fun g => if g = z ∧ v.ownBlock = some z then some r else rl g
theorem roleOn_ext {z : Nat} {r : Role} {v : Value} {g : Nat} (hg : g < z) : roleOn rl z r v g = rl g := by unfold roleOn; rw [if_neg (by omega)]
theorem kp_grown (h : FAt w B F rl x S V) {r0 : Role} (hr0 : r0 ≠ .self) {v v' : Value} (hv : ∀ g, v.ownBlock = some g → rl g = some r0) (hg : w.grownBy w' v.ownBlock) : Kp B w rl w' (roleOn rl w.heap.size r0 v') := by
  have hb : ∀ b, b < w.heap.size → (b < B ∨ rl b = none) → w'.heap[b]? = w.heap[b]? := fun b hb hor => hg.block b hb (fun e => by
    have := hv b e.symm
    rcases hor with h1 | h1
    · have := (h.low b _ this).1; omega
    · rw [h1] at this; cases this)
  exact ⟨⟨hg.os, hg.tape, hg.output, hg.size, fun b hlt => hb b (Nat.lt_of_lt_of_le hlt h.base) (.inl hlt)⟩, fun b hlt hn => hb b hlt (.inr hn), fun b hlt => roleOn_ext hlt, fun g i hgl hs _ => by
    have hbk : w'.heap[g]? = w.heap[g]? := hg.block g hgl (fun e => by
      have := hv g e.symm
      rw [hs] at this
      simp only [Option.some.injEq] at this
      exact hr0 this.symm)
    exact ⟨World.cell?_of_block (w := w) (a := ⟨g, i, none⟩) hbk, World.frozen?_of_block (w := w) (a := ⟨g, i, none⟩) hbk⟩⟩
theorem Kp.setF {w0 : World} {rl0 : Rl} {B0 : Nat} (hk : Kp B0 w0 rl0 w rl) (hF : rl0 F ≠ none ∨ w0.heap.size ≤ F) (hB : B0 ≤ F) (i : Nat) (hi : i < 1205) (v : Value) : Kp B0 w0 rl0 (w.setCell ⟨F, i, none⟩ v) rl := by
  have hb : ∀ b, b ≠ F → (w.setCell ⟨F, i, none⟩ v).heap[b]? = w.heap[b]? := fun b hb => blk_setCell_other _ _ _ _ hb
  refine ⟨hk.below.setCell hB v, fun b hlt hn => ?_, hk.ext, fun g k hg hs hk2 => ?_⟩
  · rw [hb b (fun e => by
      rw [e] at hn hlt
      rcases hF with hF | hF
      · exact hF hn
      · omega)]
    exact hk.oth b hlt hn
  · have h1 := hk.ex g k hg hs hk2
    refine ⟨?_, ?_⟩
    · rw [World.cell?_setCell_other _ _ _ _ (fun e => by simp only [Addr.mk.injEq] at e; omega)]
      exact h1.1
    · rw [setF_frozen]; exact h1.2
theorem kp_on (hb : Below w.heap.size w w') (hB : B ≤ w.heap.size) : Kp B w rl w' rl := ⟨hb.mono hB, fun b hlt _ => hb.block b hlt, fun _ _ => rfl, fun g i hg _ _ => ⟨World.cell?_of_block (w := w) (a := ⟨g, i, none⟩) (hb.block g hg), World.frozen?_of_block (w := w) (a := ⟨g, i, none⟩) (hb.block g hg)⟩⟩
/-- A row has grown, and is written into its cell. -/
theorem FAt.rowed (h : FAt w B F rl x S V) (r0 : Role) (hr0 : r0 ≠ .self) {v v' : Value} (i : Nat) (hi : i < 1205) (hv : ∀ g, v.ownBlock = some g → rl g = some r0) (hg : w.grownBy w' v.ownBlock) (xs' : List Value) (hown : w'.ownsRow B (rowT r0) 1 v' xs'.length xs') (hf : v'.ownBlock = v.ownBlock ∨ v'.ownBlock = some w.heap.size)
    {S' : FSt} {V' : FV} (hc : CellsF w' F S V → CellsF (w'.setCell ⟨F, i, none⟩ v') F S' V') (hX : ∀ r xs, x ≠ some r → r ≠ r0 → rowX S' V' r = some xs → RowR w B rl r (rowT r) (rowV V' r) xs) (hX0 : ∀ xs, rowX S' V' r0 = some xs → xs = xs' ∧ rowV V' r0 = v') :
    FAt (w'.setCell ⟨F, i, none⟩ v') B F (roleOn rl w.heap.size r0 v') x S' V' ∧ Kp B w rl (w'.setCell ⟨F, i, none⟩ v') (roleOn rl w.heap.size r0 v') := by
  have hFne : v.ownBlock ≠ some F := fun e => by
    have := hv F e
    rw [h.self] at this
    simp only [Option.some.injEq] at this
    exact hr0 this.symm
  have hself : roleOn rl w.heap.size r0 v' F = some .self := by rw [roleOn_ext h.lt]; exact h.self
  have hz : ∀ g, v'.ownBlock = some g → g < w'.heap.size := fun g hg => (World.ownsRow.lt hown g hg).2
  have hk : Kp B w rl w' (roleOn rl w.heap.size r0 v') := kp_grown h hr0 hv hg
  have hrole : ∀ g, v'.ownBlock = some g → roleOn rl w.heap.size r0 v' g = some r0 := fun g hg => by
    unfold roleOn
    by_cases e : g = w.heap.size ∧ v'.ownBlock = some w.heap.size
    · rw [if_pos e]
    · rw [if_neg e]
      rcases hf with hf | hf
      · rw [hf] at hg; exact hv g hg
      · rw [hf] at hg
        simp only [Option.some.injEq] at hg
        exact absurd ⟨hg.symm, hf⟩ e
  refine ⟨⟨fun g r hgr => ?_, hself, hc (h.cells.kept h.lt hg hFne), fun r xs hn hx => ?_⟩, hk.setF (.inl (by rw [h.self]; simp)) (h.low F _ h.self).1 i hi v'⟩
  · rw [nblk_setCell]
    unfold roleOn at hgr
    split at hgr
    · rename_i e
      rw [e.1]
      exact ⟨h.base, hz _ e.2⟩
    · have := h.low g r hgr
      exact ⟨this.1, Nat.lt_of_lt_of_le this.2 hg.size⟩
  · by_cases hr : r = r0
    · subst hr
      obtain ⟨rfl, e2⟩ := hX0 xs hx
      rw [e2]
      exact RowR.setF ⟨hown, hrole⟩ hself hr0
    · by_cases hs : r = .self
      · subst hs; simp [rowX] at hx
      · refine RowR.setF ?_ hself hs
        exact (hX r xs hn hr hx).kept hg (fun g e hh => by
          have := hv g e
          rw [hh] at this
          simp only [Option.some.injEq] at this
          exact hr this) (fun g hgr => by rw [roleOn_ext (h.low g r hgr).2]; exact hgr)
theorem CellsF.set (c : CellsF w F S V) {i : Nat} (hi : 401 ≤ i) {S' : FSt} {V' : FV} {v : Value} (hk : S'.K = S.K) (ha : S'.ask = S.ask) (hia : i ≠ 402) (ht : V'.tv = if i = 401 then v else V.tv) (hcv : V'.cv = if i = 403 then v else V.cv) (hw : ∀ l : Int, -400 ≤ l → l ≤ 400 → V'.wv l = if i = wPlace l then v else V.wv l) : CellsF (w.setCell ⟨F, i, none⟩ v) F S' V' := by
  refine ⟨fun u hu => ?_, ?_, ?_, ?_, fun l h1 h2 => ?_, fun j => ?_⟩
  · rw [setF_other (by omega), hk]; exact c.kn u hu
  · rw [ht]
    by_cases e : i = 401
    · subst e; rw [if_pos rfl]; exact setF_same c.tc
    · rw [if_neg e, setF_other (fun h => e h.symm)]; exact c.tc
  · rw [setF_other (fun h => hia h.symm), ha]; exact c.ac
  · rw [hcv]
    by_cases e : i = 403
    · subst e; rw [if_pos rfl]; exact setF_same c.cc
    · rw [if_neg e, setF_other (fun h => e h.symm)]; exact c.cc
  · rw [hw l h1 h2]
    by_cases e : i = wPlace l
    · subst e; rw [if_pos rfl]; exact setF_same (c.wc l h1 h2)
    · rw [if_neg e, setF_other (fun h => e h.symm)]; exact c.wc l h1 h2
  · rw [setF_frozen]; exact c.fz j
/-- The trail has grown. -/
theorem FAt.trailed (h : FAt w B F rl x S V) (hx : x ≠ some .trail) {y : Int} {v' : Value} (hg : w.grownBy w' V.tv.ownBlock) (hown : w'.ownsRow B 3 1 v' (S.tr.length + 1) (iV S.tr ++ [.int .i64 y])) (hf : v'.ownBlock = V.tv.ownBlock ∨ v'.ownBlock = some w.heap.size) :
    FAt (w'.setCell ⟨F, 401, none⟩ v') B F (roleOn rl w.heap.size .trail v') x ⟨S.K, S.tr ++ [y], S.ask, S.cl, S.wt⟩ ⟨v', V.cv, V.wv, V.dv⟩ ∧ Kp B w rl (w'.setCell ⟨F, 401, none⟩ v') (roleOn rl w.heap.size .trail v') := by
  refine h.rowed .trail (by intro e; cases e) 401 (by omega) (h.rows .trail _ hx rfl).2 hg (iV (S.tr ++ [y])) (by rw [iV_len, iV_snoc, List.length_append]; exact hown) hf
    (fun c => c.set (by omega) rfl rfl (by omega) rfl rfl (fun l _ _ => by rw [if_neg (by unfold wPlace; omega)])) (fun r xs hn hr hxx => ?_) (fun xs hxx => ?_)
  · cases r with
    | trail => exact absurd rfl hr
    | self => simp [rowX] at hxx
    | outer => exact h.rows .outer xs hn hxx
    | clause i => exact h.rows (.clause i) xs hn hxx
    | watch l => exact h.rows (.watch l) xs hn hxx
    | free => simp [rowX] at hxx
  · simp only [rowX, Option.some.injEq] at hxx
    exact ⟨hxx.symm, rfl⟩
theorem wPlace_ne {l l' : Int} (h1 : -400 ≤ l) (h2 : -400 ≤ l') (h : l ≠ l') : wPlace l ≠ wPlace l' := by unfold wPlace; omega
/-- A literal's list of clauses has grown. -/
theorem FAt.watched (h : FAt w B F rl x S V) {l : Int} (h1 : -400 ≤ l) (h2 : l ≤ 400) (hx : x ≠ some (.watch l)) {n : Nat} {v' : Value} (hg : w.grownBy w' (V.wv l).ownBlock) (hown : w'.ownsRow B 3 1 v' ((S.wt l).length + 1) (nV (S.wt l) ++ [.int .i64 (n : Int)])) (hf : v'.ownBlock = (V.wv l).ownBlock ∨ v'.ownBlock = some w.heap.size) :
    FAt (w'.setCell ⟨F, wPlace l, none⟩ v') B F (roleOn rl w.heap.size (.watch l) v') x ⟨S.K, S.tr, S.ask, S.cl, fun m => if m = l then S.wt l ++ [n] else S.wt m⟩ ⟨V.tv, V.cv, fun m => if m = l then v' else V.wv m, V.dv⟩ ∧ Kp B w rl (w'.setCell ⟨F, wPlace l, none⟩ v') (roleOn rl w.heap.size (.watch l) v') := by
  have hp : 404 ≤ wPlace l := by unfold wPlace; omega
  have hx0 : rowX S V (.watch l) = some (nV (S.wt l)) := by simp only [rowX]; rw [if_pos ⟨h1, h2⟩]
  refine h.rowed (.watch l) (by intro e; cases e) (wPlace l) (by unfold wPlace; omega) (h.rows (.watch l) _ hx hx0).2 hg (nV (S.wt l ++ [n])) (by rw [nV_len, nV_snoc, List.length_append]; exact hown) hf
    (fun c => c.set (by omega) rfl rfl (by omega) (by rw [if_neg (by omega)]) (by rw [if_neg (by omega)]) (fun m g1 g2 => ?_)) (fun r xs hn hr hxx => ?_) (fun xs hxx => ?_)
  · by_cases e : m = l
    · subst e; rw [if_pos rfl]; exact if_pos rfl
    · rw [if_neg (fun e2 => wPlace_ne h1 g1 (fun e3 => e e3.symm) e2)]
      exact if_neg e
  · cases r with
    | trail => exact h.rows .trail xs hn hxx
    | self => simp [rowX] at hxx
    | outer => exact h.rows .outer xs hn hxx
    | clause i => exact h.rows (.clause i) xs hn hxx
    | watch m =>
      have e : m ≠ l := fun e => hr (by rw [e])
      simp only [rowX, if_neg e] at hxx
      have := h.rows (.watch m) xs hn (by simp only [rowX]; exact hxx)
      simpa only [rowV, if_neg e] using this
    | free => simp [rowX] at hxx
  · simp only [rowX, if_pos rfl] at hxx
    rw [if_pos ⟨h1, h2⟩] at hxx
    simp only [Option.some.injEq] at hxx
    exact ⟨hxx.symm, by simp [rowV]⟩
/-- A clause is taken up: its row is given, and the list of rows has grown. -/
theorem FAt.claused (h : FAt w B F rl x S V) (hx : x ≠ some .outer) {d : List Int} {dv v' : Value} (hd : RowR w B rl (.clause S.cl.length) 3 dv (iV d)) (hg : w.grownBy w' V.cv.ownBlock) (hown : w'.ownsRow B 26 1 v' (S.cl.length + 1) ((List.range S.cl.length).map V.dv ++ [dv])) (hf : v'.ownBlock = V.cv.ownBlock ∨ v'.ownBlock = some w.heap.size) :
    FAt (w'.setCell ⟨F, 403, none⟩ v') B F (roleOn rl w.heap.size .outer v') x ⟨S.K, S.tr, S.ask, S.cl ++ [d], S.wt⟩ ⟨V.tv, v', V.wv, fun i => if i = S.cl.length then dv else V.dv i⟩ ∧ Kp B w rl (w'.setCell ⟨F, 403, none⟩ v') (roleOn rl w.heap.size .outer v') := by
  have he : (List.range (S.cl ++ [d]).length).map (fun i => if i = S.cl.length then dv else V.dv i) = (List.range S.cl.length).map V.dv ++ [dv] := by
    rw [List.length_append, List.length_singleton, List.range_succ, List.map_append, List.map_singleton, if_pos rfl]
    congr 1
    refine List.map_congr_left fun i hi => ?_
    rw [if_neg (by have := List.mem_range.1 hi; omega)]
  refine h.rowed .outer (by intro e; cases e) 403 (by omega) (h.rows .outer _ hx rfl).2 hg ((List.range S.cl.length).map V.dv ++ [dv]) (by rw [show ((List.range S.cl.length).map V.dv ++ [dv]).length = S.cl.length + 1 by simp]; exact hown) hf
    (fun c => c.set (by omega) rfl rfl (by omega) rfl rfl (fun l _ _ => by rw [if_neg (by unfold wPlace; omega)])) (fun r xs hn hr hxx => ?_) (fun xs hxx => ?_)
  · cases r with
    | trail => exact h.rows .trail xs hn hxx
    | self => simp [rowX] at hxx
    | outer => exact absurd rfl hr
    | clause i =>
      simp only [rowX] at hxx
      by_cases e : i = S.cl.length
      · subst e
        simp only [List.getElem?_concat_length, Option.map_some, Option.some.injEq] at hxx
        rw [← hxx]
        show RowR w B rl (.clause S.cl.length) 3 (if S.cl.length = S.cl.length then dv else V.dv S.cl.length) (iV d)
        rw [if_pos rfl]; exact hd
      · have hlt : i < S.cl.length := by
          rcases Nat.lt_or_ge i S.cl.length with h | h
          · exact h
          · rw [List.getElem?_eq_none (by simp; omega)] at hxx
            simp at hxx
        rw [List.getElem?_append_left hlt] at hxx
        have := h.rows (.clause i) xs hn hxx
        simpa only [rowV, if_neg e] using this
    | watch l => exact h.rows (.watch l) xs hn hxx
    | free => simp [rowX] at hxx
  · simp only [rowX, Option.some.injEq] at hxx
    exact ⟨hxx.symm.trans he, rfl⟩
/-- Two literals of a clause are turned about. -/
theorem iV_set (d : List Int) (i : Nat) (z : Int) : iV (d.set i z) = (iV d).set i (.int .i64 z) := by simp [iV, List.map_set]
theorem FAt.swapped (h : FAt w B F rl x S V) {i : Nat} (hx : x ≠ some (.clause i)) {d : List Int} (hd : S.cl[i]? = some d) {g cap : Nat} (hv : V.dv i = .slice (some ⟨g, 0, none⟩) d.length cap) {a b : Nat} (ha : a < d.length) (hb : b < d.length) :
    FAt ((w.setCell ⟨g, a, none⟩ (.int .i64 (d.getD b 0))).setCell ⟨g, b, none⟩ (.int .i64 (d.getD a 0))) B F rl x ⟨S.K, S.tr, S.ask, S.cl.set i (swapL d a b), S.wt⟩ V ∧ Kp B w rl ((w.setCell ⟨g, a, none⟩ (.int .i64 (d.getD b 0))).setCell ⟨g, b, none⟩ (.int .i64 (d.getD a 0))) rl := by
  have hrow := h.rows (.clause i) (iV d) hx (by simp only [rowX]; rw [hd]; rfl)
  have hrow1 : w.ownsRow B 3 1 (.slice (some ⟨g, 0, none⟩) d.length cap) d.length (iV d) := by
    have := hrow.1
    rw [show rowV V (.clause i) = V.dv i from rfl, hv, iV_len] at this
    exact this
  have hgr : rl g = some (.clause i) := hrow.2 g (by rw [show rowV V (.clause i) = V.dv i from rfl, hv]; rfl)
  have hlow := h.low g _ hgr
  have hgF : g ≠ F := fun e => by rw [e, h.self] at hgr; cases hgr
  have h2 := (hrow1.stored a (.int .i64 (d.getD b 0)))
  have hgro : w.grownBy ((w.setCell ⟨g, a, none⟩ (.int .i64 (d.getD b 0))).setCell ⟨g, b, none⟩ (.int .i64 (d.getD a 0))) (some g) := by
    refine ⟨rfl, rfl, rfl, by rw [nblk_setCell, nblk_setCell]; exact Nat.le_refl _, fun k _ hk => ?_⟩
    have hkg : k ≠ g := fun e => hk (by rw [e])
    rw [blk_setCell_other _ _ _ _ hkg, blk_setCell_other _ _ _ _ hkg]
  refine ⟨⟨fun g' r hg' => by rw [nblk_setCell, nblk_setCell]; exact h.low g' r hg', h.self, ?_, fun r xs hn hxx => ?_⟩, ?_⟩
  · have c := h.cells.kept h.lt hgro (fun e => hgF (by simpa using e))
    exact ⟨c.kn, c.tc, c.ac, c.cc, c.wc, c.fz⟩
  · by_cases hr : r = .clause i
    · subst hr
      have hin := (List.getElem?_eq_some_iff.1 hd).1
      simp only [rowX] at hxx
      rw [List.getElem?_set, if_pos rfl, if_pos hin] at hxx
      simp only [Option.map_some, Option.some.injEq] at hxx
      subst hxx
      refine ⟨?_, hrow.2⟩
      rw [show rowV V (.clause i) = V.dv i from rfl, hv, iV_len, swapL_len]
      unfold swapL
      rw [iV_set, iV_set]
      exact (h2.1.stored b (.int .i64 (d.getD a 0))).1
    · have hold : RowR w B rl r (rowT r) (rowV V r) xs := by
        cases r with
        | trail => exact h.rows .trail xs hn hxx
        | self => simp [rowX] at hxx
        | outer => exact h.rows .outer xs hn (by simpa [rowX] using hxx)
        | clause k =>
          have e : i ≠ k := fun e => hr (by rw [e])
          refine h.rows (.clause k) xs hn ?_
          simp only [rowX] at hxx ⊢
          rwa [List.getElem?_set, if_neg e] at hxx
        | watch l => exact h.rows (.watch l) xs hn hxx
        | free => simp [rowX] at hxx
      exact hold.kept hgro (fun g' e hh => by
        simp only [Option.some.injEq] at e
        rw [← e, hgr] at hh
        simp only [Option.some.injEq] at hh
        exact hr hh.symm) (fun _ h => h)
  · refine ⟨((Below.refl B w).setCell hlow.1 _).setCell hlow.1 _, fun b' hb' hn => ?_, fun _ _ => rfl, fun g' i' hg' hs' _ => by
      have hbk := hgro.block g' hg' (fun e => by simp only [Option.some.injEq] at e; rw [e, hgr] at hs'; cases hs')
      exact ⟨World.cell?_of_block (w := w) (a := ⟨g', i', none⟩) hbk, World.frozen?_of_block (w := w) (a := ⟨g', i', none⟩) hbk⟩⟩
    have hne : b' ≠ g := fun e => by rw [e, hgr] at hn; cases hn
    rw [blk_setCell_other _ _ _ _ hne, blk_setCell_other _ _ _ _ hne]
end
end Go.Proofs.Ythkhaemlcmkkjar

namespace Go.Proofs.Ythkhaemlcmkkjar
set_option linter.unusedVariables false
set_option linter.unusedSimpArgs false
open Go.RowKit Go.Deep Go.Sort

theorem Try.infoI : (Try.prog.info? 3).map (fun i => (i.zero, i.size, i.bytes)) = some (some (.int .i64 0), 1, 8) := by kernel_rfl
theorem rlen_row {w : World} {B : Nat} {rl : Rl} {r : Role} {e : TypeId} {v : Value} {xs : List Value} (h : RowR w B rl r e v xs) : ∃ a c, v = .slice a xs.length c := by
  rcases h.1.2 with ⟨hv, h0⟩ | ⟨g, cap, cur, hv, _⟩
  · exact ⟨none, 0, by rw [hv, h0]⟩
  · exact ⟨_, _, hv⟩
theorem own_shape {w : World} {B : Nat} {e : TypeId} {sz n : Nat} {v : Value} {xs : List Value} (h : w.ownsRow B e sz v n xs) : ∃ a c, v = .slice a n c := by
  rcases h.2 with ⟨hv, h0⟩ | ⟨g, cap, cur, hv, _⟩
  · exact ⟨none, 0, by rw [hv, h0]⟩
  · exact ⟨_, _, hv⟩
theorem FAt.tr_row {w : World} {B F : Nat} {rl : Rl} {x : Option Role} {S : FSt} {V : FV} (h : FAt w B F rl x S V) (hx : x ≠ some .trail) : ∃ a c, V.tv = .slice a S.tr.length c ∧ w.ownsRow B 3 1 (.slice a S.tr.length c) S.tr.length (iV S.tr) := by
  have hr := h.rows .trail _ hx rfl
  obtain ⟨a, c, hv⟩ := rlen_row hr
  rw [iV_len] at hv
  have hv' : V.tv = .slice a S.tr.length c := hv
  refine ⟨a, c, hv', ?_⟩
  have := hr.1
  rw [iV_len] at this
  rw [← hv']
  exact this

/-- What learn leaves. -/
def LearnP (w : World) (B F : Nat) (rl : Rl) (x : Option Role) (S : FSt) (V : FV) (y : Int) (e : Ending) (w' : World) : Prop :=
  (valK S.K y ≠ 0 ∧ e = .returned (.bool (decide (valK S.K y = 1))) ∧ w' = w) ∨
  (valK S.K y = 0 ∧ e = .returned (.bool true) ∧ ∃ rl' tv', FAt w' B F rl' x ⟨setK S.K y, S.tr ++ [y], S.ask, S.cl, S.wt⟩ ⟨tv', V.cv, V.wv, V.dv⟩ ∧ Kp B w rl w' rl' ∧ ∀ g r, rl g = some r → r ≠ .trail → r ≠ .self → w'.heap[g]? = w.heap[g]?)
set_option maxRecDepth 100000 in
set_option maxHeartbeats 4000000 in
theorem learn_any (vars : Nat) (hv4 : vars ≤ 400) (w : World) (B F : Nat) (rl : Rl) (x : Option Role) (S : FSt) (V : FV) (h : FAt w B F rl x S V) (hx : x ≠ some .trail) (ht : TrailK vars S.K S.tr) (y : Int) (hy : y ≠ 0) (hy1 : -(vars : Int) ≤ y) (hy2 : y ≤ vars) :
    Calls Try.prog 72 #[.pointer (some ⟨F, 0, none⟩), .int .i64 y] w fun e w' => LearnP w B F rl x S V y e w' := by
  have HVA := hide (value_any F S.K ht.tri y (by omega) (by omega) w h.cells.kn)
  have HL := hide ht.len
  have tri := valK_tri ht.tri y
  obtain ⟨i0, hi, hz0, hz1, hz2⟩ := info_parts Try.infoI
  obtain ⟨k, hk⟩ : ∃ k, k = valK S.K y := ⟨_, rfl⟩
  rw [← hk] at HVA tri
  have HK0 := hide hk
  by_cases h0 : k = 0
  · subst h0
    obtain ⟨n, hn⟩ : ∃ n : Nat, n = y.natAbs := ⟨_, rfl⟩
    have hn4 : n ≤ 400 := by omega
    have hc := h.cells.kn n hn4
    have hf := h.cells.fz n
    have hK := hide (fun (z : Int) => h.known hn4 z)
    have HB := hide h.low
    have HSELF := hide h.self
    have HKP := hide (fun (z : Int) => (Kp.refl B w rl).setF (F := F) (.inl (by rw [h.self]; simp)) (h.low F _ h.self).1 n (by omega) (.int .i8 z))
    by_cases hneg : y < 0
    · have hwr : IntKind.i64.wrap (-y) = (n : Int) := by rw [IntKind.wrap_i64]; omega
      have n1 : (n : Int) < 401 := by omega
      have n0 : (0 : Int) ≤ (n : Int) := by omega
      have hset : setK S.K y = fun u => if u = n then -1 else S.K u := by
        funext u
        unfold setK
        rw [hn, if_pos hneg]
      have h1 := unhide hK (-1)
      have hkp := unhide HKP (-1)
      rw [← hset] at h1
      obtain ⟨ta, tc, htv, hown⟩ := h1.tr_row hx
      have HF := hide h1
      have HK := hide hkp
      clear h hK HKP hset ht hk hn tri
      go_enter Try.func72, Try.ntmps72
      go_wp2_with fail
      refine (unhide HVA).mono ?_
      rintro e w1 ⟨rfl, hww⟩
      have hww := hww.symm
      subst hww
      clear HVA
      go_upto_region 6 with fail
      obtain ⟨w1, hw1⟩ : ∃ w1, w1 = w.setCell ⟨F, n, none⟩ (.int .i8 (-1)) := ⟨_, rfl⟩
      rw [← hw1]
      rw [← hw1] at HF HK hown
      have htc := (unhide HF).cells.tc
      rw [htv] at htc
      have HTV := hide htv
      have HW1 := hide hw1
      have HLOW := HB
      clear hw1 htv hc hf n1 n0 HSELF
      have hlen := unhide HL
      have hbase := (unhide HF).base
      go_wp2_with (first
        | (at_builtin; refine wpList_append_two rfl _ _ 26 rfl B 3 i0 (.int .i64 0) 1 8 Try.underlying26 hi hz0 hz1 hz2 rfl (by decide) _ _ _ rfl (hown.alloc _) ⟨w1.heap.size, 0, none⟩ 1 [.int .i64 y] rfl rfl ?c1 ?c2 ?c3 ?c4 ?c5 ?_))
      case c1 =>
        intro j u hj
        match j, hj with
        | 0, hj => simp at hj; subst hj; simp [Addr.add]
      case c2 => intro u hu; simp at hu; subst hu; rfl
      case c3 => unfold maxLen; omega
      case c4 => omega
      case c5 => simp; omega
      intro v' w3 hown' hgrow hfr
      obtain ⟨va, vc, hvv⟩ := own_shape hown'
      subst hvv
      rw [← unhide HTV] at hgrow hfr
      have h2 := (unhide HF).step (grownF_alloc w1 (.cells #[.int .i64 y] 3)) (fun g e => by cases e)
      have hne : V.tv.ownBlock ≠ some F := fun e => by
        have := (h2.rows .trail _ hx rfl).2 F e
        rw [h2.self] at this
        cases this
      have c3 := h2.cells.kept h2.lt hgrow hne
      have t3 := c3.tc
      have f3 := c3.fz 401
      obtain ⟨h4, k4⟩ := h2.trailed (y := y) hx hgrow (by first | exact hown' | simpa using hown') (by simpa using hfr)
      have HG4 := hide (fun g r (hgr : rl g = some r) (hr1 : r ≠ .trail) (hr2 : r ≠ .self) => by
        have hlt := (unhide HLOW g r hgr).2
        have e1 : g ≠ F := fun e => by
          have := (unhide HF).self
          rw [e, this] at hgr
          simp only [Option.some.injEq] at hgr
          exact hr2 hgr.symm
        have e2 : some g ≠ V.tv.ownBlock := fun e => by
          have := (h2.rows .trail _ hx rfl).2 g e.symm
          rw [hgr] at this
          simp only [Option.some.injEq] at this
          exact hr1 this
        have hz1 : w1.heap.size = w.heap.size := by rw [unhide HW1, nblk_setCell]
        show (w3.setCell ⟨F, 401, none⟩ (.slice va (S.tr.length + 1) vc)).heap[g]? = w.heap[g]?
        rw [blk_setCell_other _ _ _ _ e1, hgrow.block g (by simp; omega) e2, ((Below.refl w1.heap.size w1).alloc (Nat.le_refl _) _).block g (by omega), unhide HW1, blk_setCell_other _ _ _ _ e1])
      have HF4 := hide h4
      have HK4 := hide (((unhide HK).trans (kp_on ((Below.refl _ w1).alloc (Nat.le_refl _) (.cells #[.int .i64 y] 3)) hbase)).trans k4)
      clear c3 h2 h4 k4 hown hown' hgrow hfr HF HK htc
      go_wp2_with fail
      go_ret
      exact .inr ⟨(unhide HK0).symm, rfl, _, _, unhide HF4, unhide HK4, unhide HG4⟩
    · have n1 : (n : Int) < 401 := by omega
      have n0 : (0 : Int) ≤ (n : Int) := by omega
      have hyn : y = (n : Int) := by omega
      have hset : setK S.K y = fun u => if u = n then 1 else S.K u := by
        funext u
        unfold setK
        rw [hn, if_neg hneg]
      have h1 := unhide hK 1
      have hkp := unhide HKP 1
      rw [← hset] at h1
      obtain ⟨ta, tc, htv, hown⟩ := h1.tr_row hx
      have HF := hide h1
      have HK := hide hkp
      clear h hK HKP hset ht hk hn tri
      subst hyn
      go_enter Try.func72, Try.ntmps72
      go_wp2_with fail
      refine (unhide HVA).mono ?_
      rintro e w1 ⟨rfl, hww⟩
      have hww := hww.symm
      subst hww
      clear HVA
      go_upto_region 6 with fail
      obtain ⟨w1, hw1⟩ : ∃ w1, w1 = w.setCell ⟨F, n, none⟩ (.int .i8 1) := ⟨_, rfl⟩
      rw [← hw1]
      rw [← hw1] at HF HK hown
      have htc := (unhide HF).cells.tc
      rw [htv] at htc
      have HTV := hide htv
      have HW1 := hide hw1
      have HLOW := HB
      clear hw1 htv hc hf n1 n0 HSELF
      have hlen := unhide HL
      have hbase := (unhide HF).base
      go_wp2_with (first
        | (at_builtin; refine wpList_append_two rfl _ _ 26 rfl B 3 i0 (.int .i64 0) 1 8 Try.underlying26 hi hz0 hz1 hz2 rfl (by decide) _ _ _ rfl (hown.alloc _) ⟨w1.heap.size, 0, none⟩ 1 [.int .i64 (n : Int)] rfl rfl ?c1 ?c2 ?c3 ?c4 ?c5 ?_))
      case c1 =>
        intro j u hj
        match j, hj with
        | 0, hj => simp at hj; subst hj; simp [Addr.add]
      case c2 => intro u hu; simp at hu; subst hu; rfl
      case c3 => unfold maxLen; omega
      case c4 => omega
      case c5 => simp; omega
      intro v' w3 hown' hgrow hfr
      obtain ⟨va, vc, hvv⟩ := own_shape hown'
      subst hvv
      rw [← unhide HTV] at hgrow hfr
      have h2 := (unhide HF).step (grownF_alloc w1 (.cells #[.int .i64 (n : Int)] 3)) (fun g e => by cases e)
      have hne : V.tv.ownBlock ≠ some F := fun e => by
        have := (h2.rows .trail _ hx rfl).2 F e
        rw [h2.self] at this
        cases this
      have c3 := h2.cells.kept h2.lt hgrow hne
      have t3 := c3.tc
      have f3 := c3.fz 401
      obtain ⟨h4, k4⟩ := h2.trailed (y := (n : Int)) hx hgrow (by first | exact hown' | simpa using hown') (by simpa using hfr)
      have HG4 := hide (fun g r (hgr : rl g = some r) (hr1 : r ≠ .trail) (hr2 : r ≠ .self) => by
        have hlt := (unhide HLOW g r hgr).2
        have e1 : g ≠ F := fun e => by
          have := (unhide HF).self
          rw [e, this] at hgr
          simp only [Option.some.injEq] at hgr
          exact hr2 hgr.symm
        have e2 : some g ≠ V.tv.ownBlock := fun e => by
          have := (h2.rows .trail _ hx rfl).2 g e.symm
          rw [hgr] at this
          simp only [Option.some.injEq] at this
          exact hr1 this
        have hz1 : w1.heap.size = w.heap.size := by rw [unhide HW1, nblk_setCell]
        show (w3.setCell ⟨F, 401, none⟩ (.slice va (S.tr.length + 1) vc)).heap[g]? = w.heap[g]?
        rw [blk_setCell_other _ _ _ _ e1, hgrow.block g (by simp; omega) e2, ((Below.refl w1.heap.size w1).alloc (Nat.le_refl _) _).block g (by omega), unhide HW1, blk_setCell_other _ _ _ _ e1])
      have HF4 := hide h4
      have HK4 := hide (((unhide HK).trans (kp_on ((Below.refl _ w1).alloc (Nat.le_refl _) (.cells #[.int .i64 (n : Int)] 3)) hbase)).trans k4)
      clear c3 h2 h4 k4 hown hown' hgrow hfr HF HK htc
      go_wp2_with fail
      go_ret
      exact .inr ⟨(unhide HK0).symm, rfl, _, _, unhide HF4, unhide HK4, unhide HG4⟩
  · have hgt : (decide (0 < k)) = decide (k = 1) := by
      rcases tri with e | e | e
      · rw [e]; rfl
      · exact absurd e h0
      · rw [e]; rfl
    have hne : (k == 0) = false := by rw [beq_eq_false_iff_ne]; exact h0
    have HG := hide hgt
    clear h ht hk tri hgt
    go_enter Try.func72, Try.ntmps72
    go_wp2_with fail
    refine (unhide HVA).mono ?_
    rintro e w1 ⟨rfl, rfl⟩
    go_wp2_with fail
    refine (unhide HVA).mono ?_
    rintro e w1 ⟨rfl, rfl⟩
    go_wp2_with fail
    go_ret
    exact .inl ⟨by rw [← unhide HK0]; exact h0, by rw [← unhide HK0, ← unhide HG]; rfl, rfl⟩
end Go.Proofs.Ythkhaemlcmkkjar

namespace Go.Proofs.Ythkhaemlcmkkjar
set_option linter.unusedVariables false
set_option linter.unusedSimpArgs false
open Go.RowKit Go.Deep Go.Sort

theorem litPlace_any (l : Int) (h1 : -400 ≤ l) (h2 : l ≤ 400) (w : World) : Calls Try.prog 99 #[.int .i64 l] w fun e w' => e = .returned (.int .i64 (l + 400)) ∧ w' = w := by
  have hw : IntKind.i64.wrap (l + 400) = l + 400 := by rw [IntKind.wrap_i64]; omega
  go_enter Try.func99, Try.ntmps99
  go_wp2_with fail
  go_ret
  exact ⟨rfl, rfl⟩
theorem opwp_append_two {P : Program} {w : World} {o : Oper} {a : Act} {K : Act → World → Prop} {L : Exit → Act → World → Prop} (s x : Operand) (t : TypeId)
    (ho : o.op = .call { callee := .builtin .append, args := #[s, x], argTypes := #[t, t] })
    (base : Nat) (e : TypeId) (i : TypeInfo) (z : Value) (size bytes : Nat) (ht : P.underlying t = some (.slice e)) (hi : P.info? e = some i) (hz : i.zero = some z)
    (hsize : i.size = size) (hby : i.bytes = bytes) (hzs : z.cells.size = size) (hsz : 0 < size)
    (v : Value) (n : Nat) (xs : List Value) (hs : a.eval s = v) (hown : w.ownsRow base e size v n xs)
    (ad : Addr) (c : Nat) (news : List Value) (hx : a.eval x = .slice (some ad) 1 c) (hl : news.length = size) (hnews : ∀ j u, news[j]? = some u → w.cell? (ad.add j) = some u) (h1 : ∀ u ∈ news, u.oneCell' = true)
    (h63 : n + 1 ≤ maxLen) (hbytes : (n + 1) * bytes ≤ 140737488355328) (hbase : base ≤ w.heap.size)
    (h : ∀ v' w', w'.ownsRow base e size v' (n + 1) (xs ++ news) → w.grownBy w' v.ownBlock → (v'.ownBlock = v.ownBlock ∨ v'.ownBlock = some w.heap.size) → K (a.put o.dst v') w') : o.wp P a w K L := by
  obtain ⟨v', w', hr, h2, h3, h4⟩ := run_append_two (P := P) w base t o.type e i z size bytes ht hi hz hsize hby hzs hsz v n xs hown ad c news hl hnews h1 h63 hbytes hbase
  unfold Oper.wp execOp
  simp only [ho, resolve, invoke, builtin, Sem.run_bind, Sem.run_pure, Result.andThen_ok, List.map_toArray, List.map_cons, List.map_nil, hs, hx, hr]
  exact h v' w' h2 h3 h4
/-- The class of worlds while a watch is written. -/
structure CW (w : World) (B F q : Nat) (wv : Value) (n : Nat) (xs : List Value) (z : Value) (b : Bool) (us : List Value) (x : World) : Prop where
  cell : x.cell? ⟨F, 404 + q, none⟩ = some wv
  fz : x.frozen? ⟨F, 404 + q, none⟩ = false
  zero : us = [] → Below w.heap.size w x
  one : ∀ u, us = [u] → Below w.heap.size w x ∧ ∃ g, u = .slice (some ⟨g, 0, none⟩) 1 1 ∧ w.heap.size ≤ g ∧ x.heap[g]? = some (.cells #[z] 3 (0, 0))
  two : ∀ u v', us = [u, v'] → ∃ x1, Below w.heap.size w x1 ∧ x1.grownBy x wv.ownBlock ∧ x.ownsRow B 3 1 v' (n + 1) (xs ++ [z]) ∧ (v'.ownBlock = wv.ownBlock ∨ v'.ownBlock = some x1.heap.size)
theorem CW.flag {w : World} {B F q : Nat} {wv : Value} {n : Nat} {xs : List Value} {z : Value} {b b' : Bool} {us : List Value} {x : World} (h : CW w B F q wv n xs z b us x) : CW w B F q wv n xs z b' us x := ⟨h.cell, h.fz, h.zero, h.one, h.two⟩
/-- What watch leaves. -/
def WatchP (w : World) (B F : Nat) (rl : Rl) (x : Option Role) (S : FSt) (V : FV) (l : Int) (p : Nat) (e : Ending) (w' : World) : Prop :=
  e = .returned (.tuple #[]) ∧ ∃ rl' v', FAt w' B F rl' x ⟨S.K, S.tr, S.ask, S.cl, fun m => if m = l then S.wt l ++ [p] else S.wt m⟩ ⟨V.tv, V.cv, fun m => if m = l then v' else V.wv m, V.dv⟩ ∧ Kp B w rl w' rl' ∧ ∀ g r, rl g = some r → r ≠ .watch l → r ≠ .self → w'.heap[g]? = w.heap[g]?

set_option maxRecDepth 100000 in
set_option maxHeartbeats 8000000 in
theorem watch_any (w : World) (B F : Nat) (rl : Rl) (x : Option Role) (S : FSt) (V : FV) (h : FAt w B F rl x S V) (l : Int) (h1 : -400 ≤ l) (h2 : l ≤ 400) (hx : x ≠ some (.watch l)) (p : Nat) (hlen : (S.wt l).length ≤ 20000) :
    Calls Try.prog 74 #[.pointer (some ⟨F, 0, none⟩), .int .i64 l, .int .i64 (p : Int)] w fun e w' => WatchP w B F rl x S V l p e w' := by
  obtain ⟨i0, hi, hz0, hz1, hz2⟩ := info_parts Try.infoI
  have hrow := h.rows (.watch l) (nV (S.wt l)) hx (by simp only [rowX]; rw [if_pos ⟨h1, h2⟩])
  obtain ⟨a, c, hwv⟩ := rlen_row hrow
  rw [nV_len] at hwv
  have hwv' : V.wv l = .slice a (S.wt l).length c := hwv
  have hown := hrow.1
  rw [nV_len, hwv] at hown
  have hcell := h.cells.wc l h1 h2
  have hfz := h.cells.fz (wPlace l)
  rw [hwv'] at hcell
  obtain ⟨q, hq⟩ : ∃ q : Nat, q = (l + 400).toNat := ⟨_, rfl⟩
  have hpl : wPlace l = 404 + q := by unfold wPlace; rw [hq]
  rw [hpl] at hcell hfz
  have HP := hide (fun W => litPlace_any l h1 h2 W)
  have hlq : l + 400 = (q : Int) := by omega
  rw [hlq] at HP
  have q1 : (q : Int) < 801 := by omega
  have q0 : (0 : Int) ≤ (q : Int) := by omega
  have HF := hide h
  have HX := hide hx
  have HQ := hide hpl
  have HWV := hide hwv'
  have hFz := h.lt
  have hbase := h.base
  have hgF : ∀ g, a = some ⟨g, 0, none⟩ → g ≠ F := fun g hg e => by
    have := hrow.2 g (by rw [hwv, hg]; rfl)
    rw [e, h.self] at this
    cases this
  have HGF := hide (show (Value.slice a (S.wt l).length c).ownBlock ≠ some F from fun e => by
    have := hrow.2 F (by rw [hwv]; exact e)
    rw [h.self] at this
    cases this)
  clear h hrow hx hwv hwv' hq hgF hpl hlq
  obtain ⟨n, hn⟩ : ∃ n, n = (S.wt l).length := ⟨_, rfl⟩
  rw [← hn] at hown hcell HWV HGF hlen
  have HN := hide hn
  clear hn
  go_enter Try.func74, Try.ntmps74
  go_upto_region 0 with fail
  refine wp_region_mixN (k := 100) 16 [11, 12] [.pointer (some ⟨F, 0, none⟩), .int .i64 l, .int .i64 (q : Int), .pointer (some ⟨F, 0, none⟩), .int .i64 l, .int .i64 (q : Int), .pointer (some ⟨F, 0, none⟩), .pointer (some ⟨F, 404, none⟩), .pointer (some ⟨F, 404 + q, none⟩), .slice a n c, .int .i64 (p : Int), undef, undef, .pointer (some ⟨F, 0, none⟩), .pointer (some ⟨F, 404, none⟩), .pointer (some ⟨F, 404 + q, none⟩)] (CW w B F q (.slice a n c) n (nV (S.wt l)) (.int .i64 (p : Int))) (by kernel_rfl) (by kernel_rfl) (by kernel_rfl) (by kernel_rfl) (by kernel_rfl) (by kernel_rfl) ⟨hcell, hfz, fun _ => (Below.refl _ _).drew, (fun u h => by cases h), (fun u v h => by cases h)⟩ ?_ ?_ ?_
  · intro full hfull i oo hi hns ho y fl us hC hb
    simp [putAll, slotOf, Act.put] at hfull
    subst hfull
    have hc0 := hC.cell
    have hC0 := hC.flag (b' := fl)
    match i with
    | 0 => simp at ho; subst ho; simp [gwp, Region.wanted, yielded]; go_simp; first | done | exact hC0 | exact ⟨rfl, hC0⟩
    | 1 => simp at ho; subst ho; simp [gwp, Region.wanted, yielded]; go_simp; first | done | exact hC0 | exact ⟨rfl, hC0⟩
    | 2 =>
      simp at ho; subst ho; simp [gwp, Region.wanted, yielded]; go_simp
      refine (unhide HP _).mono ?_
      rintro e y' ⟨rfl, rfl⟩
      go_simp
      first | done | exact hC0 | exact ⟨rfl, hC0⟩
    | 3 => simp at ho; subst ho; simp [gwp, Region.wanted, yielded]; go_simp; first | done | exact hC0 | exact ⟨rfl, hC0⟩
    | 4 => simp at ho; subst ho; simp [gwp, Region.wanted, yielded]; go_simp; first | done | exact hC0 | exact ⟨rfl, hC0⟩
    | 5 =>
      simp at ho; subst ho; simp [gwp, Region.wanted, yielded]; go_simp
      refine (unhide HP _).mono ?_
      rintro e y' ⟨rfl, rfl⟩
      go_simp
      first | done | exact hC0 | exact ⟨rfl, hC0⟩
    | 6 => simp at ho; subst ho; simp [gwp, Region.wanted, yielded]; go_simp; first | done | exact hC0 | exact ⟨rfl, hC0⟩
    | 7 => simp at ho; subst ho; simp [gwp, Region.wanted, yielded]; go_simp; first | done | exact hC0 | exact ⟨rfl, hC0⟩
    | 8 => simp at ho; subst ho; simp [gwp, Region.wanted, yielded]; go_simp; first | done | exact hC0 | exact ⟨rfl, hC0⟩
    | 9 => simp at ho; subst ho; simp [gwp, Region.wanted, yielded]; go_simp; first | done | exact hC0 | exact ⟨rfl, hC0⟩
    | 10 => simp at ho; subst ho; simp [gwp, Region.wanted, yielded]; go_simp; first | done | exact hC0 | exact ⟨rfl, hC0⟩
    | 11 => simp at hns
    | 12 => simp at hns
    | 13 => simp at ho; subst ho; simp [gwp, Region.wanted, yielded]; go_simp; first | done | exact hC0 | exact ⟨rfl, hC0⟩
    | 14 => simp at ho; subst ho; simp [gwp, Region.wanted, yielded]; go_simp; first | done | exact hC0 | exact ⟨rfl, hC0⟩
    | 15 => simp at ho; subst ho; simp [gwp, Region.wanted, yielded]; go_simp; first | done | exact hC0 | exact ⟨rfl, hC0⟩
    | i + 16 => omega
  · intro full hfull us j hj oo ho y fl hC
    simp [putAll, slotOf, Act.put] at hfull
    subst hfull
    match us with
    | [] =>
      simp at hj
      subst hj
      simp at ho
      subst ho
      have hb := hC.zero rfl
      have hyz := hb.size
      have ba := (Below.refl y.heap.size y).alloc (Nat.le_refl _) (.cells #[.int .i64 (p : Int)] 3)
      simp [gwp, Region.wanted, yielded, putP]
      go_simp
      refine ⟨?_, ?_, (fun h => by cases h), fun u hu => ?_, (fun u v h => by cases h)⟩
      · exact (ba.cell (p := ⟨F, 404 + q, none⟩) (by show F < y.heap.size; omega)).trans hC.cell
      · exact (World.frozen?_of_block (w := y) (a := ⟨F, 404 + q, none⟩) (ba.block F (by omega))).trans hC.fz
      · cases hu
        exact ⟨hb.trans (ba.mono hyz), y.heap.size, rfl, hyz, blk_alloc_new _ _⟩
    | [u] =>
      simp at hj
      subst hj
      simp at ho
      subst ho
      obtain ⟨hb, g, rfl, hg1, hg2⟩ := hC.one u rfl
      have hyz := hb.size
      have hownY := ownsRow_on hown hb
      have hnews : ∀ j u, [Value.int .i64 (p : Int)][j]? = some u → y.cell? ((⟨g, 0, none⟩ : Addr).add j) = some u := fun j u hj => by
        match j, hj with
        | 0, hj =>
          simp at hj
          subst hj
          rw [show (⟨g, 0, none⟩ : Addr).add 0 = ⟨g, 0, none⟩ by simp [Addr.add], cell_of_row y g 0 _ _ _ hg2]
          rfl
      simp [gwp, Region.wanted, yielded, putP, slotOf, Act.put]
      refine opwp_append_two _ _ 26 rfl B 3 i0 (.int .i64 0) 1 8 Try.underlying26 hi hz0 hz1 hz2 rfl (by decide) (.slice a n c) n (nV (S.wt l)) rfl hownY ⟨g, 0, none⟩ 1 [.int .i64 (p : Int)] rfl rfl hnews (by intro u hu; simp at hu; subst hu; rfl) (by unfold maxLen; omega) (by omega) (by omega) ?_
      intro v' y' g2 g3 g4
      have hyF := hb.size
      have hc2 : y'.cell? ⟨F, 404 + q, none⟩ = some (.slice a n c) := (World.cell?_of_block (w := y) (a := ⟨F, 404 + q, none⟩) (g3.block F (by omega) (fun e => unhide HGF e.symm))).trans hC.cell
      have hf2 : y'.frozen? ⟨F, 404 + q, none⟩ = false := (World.frozen?_of_block (w := y) (a := ⟨F, 404 + q, none⟩) (g3.block F (by omega) (fun e => unhide HGF e.symm))).trans hC.fz
      refine ⟨v', by simp [Act.put], hc2, hf2, (fun h => by cases h), (fun u h => by cases h), fun u v h => ?_⟩
      simp at h
      obtain ⟨rfl, rfl⟩ := h
      exact ⟨y, hb, g3, g2, g4⟩
    | _ :: _ :: _ => simp at hj
  · intro full hfull us y hus hC
    simp [putAll, slotOf, Act.put] at hfull
    subst hfull
    match us, hus with
    | [u, v'], _ =>
    obtain ⟨y1, hb, hgrow, hown', hfr⟩ := hC.two u v' rfl
    obtain ⟨va, vc, hvv⟩ := own_shape hown'
    subst hvv
    have t3 := hC.cell
    have f3 := hC.fz
    have h1F := (unhide HF).on hb
    rw [← unhide HWV] at hgrow hfr
    have hown2 := hown'
    have hfr2 := hfr
    rw [unhide HN] at hown2 hfr2
    obtain ⟨h4, k4⟩ := h1F.watched (n := p) h1 h2 (unhide HX) hgrow hown2 hfr2
    rw [unhide HQ] at h4 k4
    rw [← unhide HN] at h4 k4
    have HF4 := hide h4
    have HK4 := hide ((kp_on hb hbase).trans k4)
    have HG4 := hide (fun g r (hgr : rl g = some r) (hr1 : r ≠ .watch l) (hr2 : r ≠ .self) => by
      have hlt := ((unhide HF).low g r hgr).2
      have hrow2 := (unhide HF).rows (.watch l) (nV (S.wt l)) (unhide HX) (by simp only [rowX]; rw [if_pos ⟨h1, h2⟩])
      have e1 : g ≠ F := fun e => by rw [e, (unhide HF).self] at hgr; simp only [Option.some.injEq] at hgr; exact hr2 hgr.symm
      have e2 : some g ≠ (V.wv l).ownBlock := fun e => by
        have := hrow2.2 g e.symm
        rw [hgr] at this
        simp only [Option.some.injEq] at this
        exact hr1 this
      show (y.setCell ⟨F, 404 + q, none⟩ (.slice va (n + 1) vc)).heap[g]? = w.heap[g]?
      rw [blk_setCell_other _ _ _ _ e1, hgrow.block g (Nat.lt_of_lt_of_le hlt hb.size) e2, hb.block g hlt])
    clear hC hgrow hown' hown2 hfr hfr2 h1F h4 k4 hb hown
    simp [putP, slotOf, Act.put]
    go_wp2_with fail
    exact bodyPost_ret (v := .tuple #[]) (by simp [results, Try.results74, go_sem]) rfl ⟨rfl, _, _, unhide HF4, unhide HK4, unhide HG4⟩
end Go.Proofs.Ythkhaemlcmkkjar

namespace Go.Proofs.Ythkhaemlcmkkjar
set_option linter.unusedVariables false
set_option linter.unusedSimpArgs false
open Go.RowKit Go.Deep Go.Sort

theorem seenZ : Try.zeroCells151 = Array.replicate 801 (.bool false) := by kernel_rfl
end Go.Proofs.Ythkhaemlcmkkjar
