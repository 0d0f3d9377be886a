/- What was learned since a mark is undone: the closure that the program's mark makes. The program's mark, forces: what is learned to ask is undone. Levels of a search in memory; the program's no, firstOpen, model. -/
import Derived.Test.YthkhaemlcmkkjarGFo
import Derived.Defers
import Derived.Test.YthkhaemlcmkkjarGUp
import Derived.Laws.EntriesVeiled
namespace Go.Proofs.Ythkhaemlcmkkjar
set_option linter.unusedVariables false
set_option linter.unusedSimpArgs false
open Go.RowKit Go.Deep Go.Sort

theorem both_of_wp {P : Program} {f : FuncId} {fn : Func} {c : Code} {args : Array Value} {w : World} {R : Ending → World → Prop}
    (hf : P.funcs[f]? = some fn) (hb : fn.body = some c)
    (h : c.wp P (bodyPost P fn R) { tmps := args ++ Array.replicate (fn.ntmps - args.size) undef, defers := [] } w) :
    Calls P f args w R ∧ ∀ u, CallsD P f args u w fun e u' w' => u' = u ∧ R e w' := ⟨calls_of_wp hf hb h, fun u => callsD_of_wp hf hb h⟩
theorem run_slice_tail (W : World) (a : Option Addr) (n c m : Nat) (hm : m ≤ n) (h63 : (m : Int) < 9223372036854775808) :
    Sem.run Try.prog (Instr.slice 26 (.slice a n c) (some (.int .i64 (m : Int))) none none) W = .ok (.slice (if c = m then a else a.map (·.add m)) (n - m) (c - m)) W := by
  have h1 : (0 : Int) ≤ (m : Int) ∧ (m : Int) ≤ (n : Int) := by omega
  have hs : (sizeOf 3).run Try.prog W = .ok 1 W := by
    have := Try.infoI
    unfold sizeOf typeInfo
    cases hq : Try.prog.info? 3 with
    | none => rw [hq] at this; simp at this
    | some i => rw [hq] at this; simp at this; simp [Sem.run_bind, hq, this.2.1]
  unfold Instr.slice Instr.sliceBounds Instr.sliceBound
  simp [Sem.run_bind, run_underlying Try.underlying26 W, asIntOf, hs]
  intro hlt
  omega
theorem undoK_succ (K : Nat → Int) (xs : List Int) {k : Nat} (hk : k < xs.length) : undoK K (xs.take (k + 1)) = fun u => if u = (xs.getD k 0).natAbs then 0 else undoK K (xs.take k) u := by
  funext u
  unfold undoK
  rw [List.take_succ_eq_append_getElem hk, List.any_append]
  have e : xs[k] = xs.getD k 0 := by simp [List.getD, hk]
  rw [e]
  by_cases h1 : u = (xs.getD k 0).natAbs
  · rw [if_pos h1, if_pos]
    simp [h1]
  · rw [if_neg h1]
    have : ([xs.getD k 0].any fun x => x.natAbs == u) = false := by
      simp
      exact fun h => h1 h.symm
    rw [this, Bool.or_false]
theorem own_cut {w : World} {B : Nat} {e : TypeId} {a : Option Addr} {n c m : Nat} {xs : List Value} (h : w.ownsRow B e 1 (.slice a n c) n xs) (hm : m ≤ n) : w.ownsRow B e 1 (.slice a m c) m (xs.take m) := by
  obtain ⟨h1, h2⟩ := h
  refine ⟨by simp; omega, ?_⟩
  rcases h2 with ⟨hv, h0⟩ | ⟨g, cap, cur, hv, hB, hb, hnc, hcm, hsz, htk⟩
  · simp only [Value.slice.injEq] at hv
    left
    obtain ⟨rfl, rfl, rfl⟩ := hv
    have : m = 0 := by omega
    subst this
    exact ⟨rfl, rfl⟩
  · simp only [Value.slice.injEq] at hv
    obtain ⟨rfl, _, rfl⟩ := hv
    refine .inr ⟨g, c, cur, rfl, hB, hb, by omega, hcm, hsz, ?_⟩
    rw [← htk, List.take_take]
    congr 1
    omega
theorem FAt.cutTr {w : World} {B F : Nat} {rl : Rl} {x : Option Role} {S : FSt} {V : FV} (h : FAt w B F rl x S V) (hx : x ≠ some .trail) {a : Option Addr} {c m : Nat} (hv : V.tv = .slice a S.tr.length c) (hm : m ≤ S.tr.length) :
    FAt (w.setCell ⟨F, 401, none⟩ (.slice a m c)) B F rl x ⟨S.K, S.tr.take m, S.ask, S.cl, S.wt⟩ ⟨.slice a m c, V.cv, V.wv, V.dv⟩ := by
  refine h.setF 401 _ (h.cells.set (by omega) rfl rfl (by omega) rfl rfl (fun l _ _ => by rw [if_neg (by unfold wPlace; omega)])) (fun r xs hn hxx => ?_)
  cases r with
  | trail =>
    have h0 := h.rows .trail _ hx rfl
    simp only [rowX, Option.some.injEq] at hxx
    subst hxx
    have hl : (iV (S.tr.take m)).length = m := by rw [iV_len]; simp; omega
    refine ⟨?_, fun g hg => h0.2 g ?_⟩
    rotate_left
    · show V.tv.ownBlock = some g
      rw [hv]
      have hg' : (Value.slice a m c).ownBlock = some g := hg
      cases a with
      | none => simp [Value.ownBlock] at hg'
      | some ad => simpa [Value.ownBlock] using hg'
    rw [hl]
    have h1 := h0.1
    rw [show rowV V .trail = V.tv from rfl, hv, iV_len] at h1
    have := own_cut h1 hm
    rwa [show iV (S.tr.take m) = (iV S.tr).take m by simp [iV]]
  | self => simp [rowX] at hxx
  | outer => exact h.rows .outer xs hn hxx
  | clause i => exact h.rows (.clause i) xs hn hxx
  | watch l => exact h.rows (.watch l) xs hn hxx
  | free => simp [rowX] at hxx
/-- What undo leaves. -/
def UndoP (w : World) (B F : Nat) (rl : Rl) (S : FSt) (m : Nat) (e : Ending) (w' : World) : Prop :=
  e = .returned (.tuple #[]) ∧ ∃ V', FAt w' B F rl none ⟨undoK S.K (S.tr.drop m), S.tr.take m, m, S.cl, S.wt⟩ V' ∧ Kp B w rl w' rl ∧ ∀ b, b ≠ F → w'.heap[b]? = w.heap[b]?
def UndS (w : World) (B F : Nat) (rl : Rl) (S : FSt) (V : FV) (m k : Nat) (wr : World) : Prop :=
  FAt wr B F rl none ⟨undoK S.K ((S.tr.drop m).take k), S.tr, S.ask, S.cl, S.wt⟩ V ∧ Kp B w rl wr rl ∧ (∀ b, b ≠ F → wr.heap[b]? = w.heap[b]?) ∧ wr.heap.size = w.heap.size
theorem drew_blk (w : World) (n b : Nat) : (w.drewN n).heap[b]? = w.heap[b]? := by
  exact ((Drawn.refl w).more n).below (b + 1) |>.block b (by omega)

set_option maxRecDepth 100000 in
set_option maxHeartbeats 8000000 in
theorem undo_both (vars : Nat) (hv4 : vars ≤ 400) (w : World) (B F : Nat) (rl : Rl) (S : FSt) (V : FV) (h : FAt w B F rl none S V) (ht : TrailK vars S.K S.tr) (fb nb m : Nat)
    (hfb : w.cell? ⟨fb, 0, none⟩ = some (.pointer (some ⟨F, 0, none⟩))) (hnb : w.cell? ⟨nb, 0, none⟩ = some (.int .i64 (m : Int))) (hf0 : fb ≠ F) (hn0 : nb ≠ F) (hm : m ≤ S.tr.length) :
    Calls Try.prog 101 #[.pointer (some ⟨fb, 0, none⟩), .pointer (some ⟨nb, 0, none⟩)] w (UndoP w B F rl S m) ∧
    ∀ u, CallsD Try.prog 101 #[.pointer (some ⟨fb, 0, none⟩), .pointer (some ⟨nb, 0, none⟩)] u w fun e u' w' => u' = u ∧ UndoP w B F rl S m e w' := by
  obtain ⟨ta, tc, htv, hrow⟩ := h.tr_row (by simp)
  have ct := h.cells.tc
  rw [htv] at ct
  have htl := ht.len
  have hsl := fun W => run_slice_tail W ta S.tr.length tc m hm (by omega)
  obtain ⟨a2, ha2⟩ : ∃ a2, a2 = (if tc = m then ta else ta.map (·.add m)) := ⟨_, rfl⟩
  rw [← ha2] at hsl
  obtain ⟨N, hN⟩ : ∃ N, N = S.tr.length - m := ⟨_, rfl⟩
  rw [← hN] at hsl
  have HN := hide hN
  have hN4 : N ≤ 400 := by omega
  clear hN
  have HA2 := hide ha2
  have HRNG := hide ht.rng
  have hlowF := h.low F _ h.self
  have HST0 : Hid (UndS w B F rl S V m 0 w) := ⟨by rw [List.take_zero]; exact h, Kp.refl _ _ _, fun _ _ => rfl, rfl⟩
  have HTV := hide htv
  have HNB := hide hnb
  have HFB := hide hfb
  have HSELF := hide h.self
  have m0 : (0 : Int) ≤ (m : Int) := by omega
  have hbl := h.base
  clear h ht hrow ha2 htv
  refine both_of_wp Try.func101 rfl ?_
  simp only [Try.ntmps101, List.size_toArray, List.length_cons, List.length_nil, Nat.reduceAdd, Nat.reduceSub, Array.replicate_succ, Array.replicate_zero, List.push_toArray, List.append_toArray, List.nil_append, List.cons_append]
  go_wp2_with fail
  go_quiet (fail)
  have b1 : Below w.heap.size w (w.drewN nq) := ((Drawn.refl w).more nq).below _
  have d1 : ∀ b, (w.drewN nq).heap[b]? = w.heap[b]? := fun b => drew_blk w nq b
  have z1 : (w.drewN nq).heap.size = w.heap.size := rfl
  have HS1 : Hid (UndS w B F rl S V m 0 (w.drewN nq)) := ⟨(unhide HST0).1.on b1, kp_on b1 hbl, fun b _ => d1 b, z1⟩
  clear b1 d1 z1
  go_wp2_with fail
  go_loopw [11] (fun kv wr => ∃ k : Nat, k ≤ N ∧ kv = .int .i64 k ∧ Hid (UndS w B F rl S V m k wr)) (fun k _ => N - (intOf k).toNat)
  case atStart => exact ⟨0, Nat.zero_le _, rfl, HS1⟩
  case round =>
    rename World => wo
    obtain ⟨k, hk, rfl, HS⟩ := hrel
    obtain ⟨hF1, hK1, hO1, hZ1⟩ := unhide HS
    have ct1 := hF1.cells.tc
    rw [unhide HTV] at ct1
    have cf1 : wo.cell? ⟨fb, 0, none⟩ = some (.pointer (some ⟨F, 0, none⟩)) := (World.cell?_of_block (w := w) (a := ⟨fb, 0, none⟩) (hO1 fb hf0)).trans hfb
    have cn1 : wo.cell? ⟨nb, 0, none⟩ = some (.int .i64 (m : Int)) := (World.cell?_of_block (w := w) (a := ⟨nb, 0, none⟩) (hO1 nb hn0)).trans hnb
    have hN := unhide HN
    by_cases hlt : k < N
    · have j1 : (k : Int) < ((N : Nat) : Int) := by omega
      have j0 : (0 : Int) ≤ (k : Int) := by omega
      obtain ⟨ta', tc', htv', hrow⟩ := hF1.tr_row (by simp)
      rw [unhide HTV] at htv'
      simp only [Value.slice.injEq] at htv'
      obtain ⟨rfl, _, rfl⟩ := htv'
      obtain ⟨g, hg, hgc⟩ : ∃ g, ta = some ⟨g, 0, none⟩ ∧ S.tr.length ≤ tc := by
        rcases hrow.2 with ⟨hv, h0⟩ | ⟨g, cap, cur, hv, _, _, hnc, _⟩
        · simp only at h0
          omega
        · simp only [Value.slice.injEq] at hv
          exact ⟨g, hv.1, by rw [hv.2.2]; exact hnc⟩
      subst hg
      have ha2 := unhide HA2
      rw [if_neg (by omega)] at ha2
      replace ha2 : a2 = some ⟨g, m, none⟩ := by rw [ha2]; simp [Addr.add] <;> omega
      subst ha2
      have cl := row_int hrow (j := m + k) (by simp only; omega)
      simp only at cl
      have hdk : (S.tr.drop m).getD k 0 = S.tr.getD (m + k) 0 := by simp [List.getD]
      have hsucc := undoK_succ S.K (S.tr.drop m) (k := k) (by simp; omega)
      rw [hdk] at hsucc
      have hmem : S.tr.getD (m + k) 0 ∈ S.tr := getD_mem (d := (0 : Int)) (by omega)
      have hlr := unhide HRNG _ hmem
      obtain ⟨lit, hlit⟩ : ∃ lit, lit = S.tr.getD (m + k) 0 := ⟨_, rfl⟩
      rw [← hlit] at cl hsucc hlr
      clear hmem hdk
      obtain ⟨n, hn⟩ : ∃ n : Nat, n = lit.natAbs := ⟨_, rfl⟩
      rw [← hn] at hsucc
      have hn4 : n ≤ 400 := by omega
      have n1 : (n : Int) < 401 := by omega
      have n0 : (0 : Int) ≤ (n : Int) := by omega
      have hfz := hF1.cells.fz n
      have hkn := hF1.cells.kn n hn4
      have hF2 := hF1.known hn4 0
      have hK2 := hK1.setF (F := F) (.inl (by rw [unhide HSELF]; simp)) hlowF.1 n (by omega) (.int .i8 0)
      simp only [← hsucc] at hF2
      have HS2 : Hid (UndS w B F rl S V m (k + 1) (wo.setCell ⟨F, n, none⟩ (.int .i8 0))) := ⟨hF2, hK2, fun b hb => by rw [blk_setCell_other _ _ _ _ hb]; exact hO1 b hb, by rw [nblk_setCell]; exact hZ1⟩
      clear hF1 hK1 hF2 hK2 hO1 hZ1 hsucc HS ct1 cn1 hN
      by_cases hneg0 : lit < 0
      · have hneg : IntKind.i64.wrap (-lit) = (n : Int) := by rw [IntKind.wrap_i64]; omega
        have jm : lit < (n : Int) := by omega
        clear hn hrow hlit hlr
        go_wp2_with fail
        go_roundw
        case rel => exact ⟨k + 1, by omega, by go_num, HS2⟩
        case measure => simp [intOf]; omega
      · obtain rfl : lit = (n : Int) := by omega
        have hneg : IntKind.i64.wrap (-(n : Int)) = -(n : Int) := by rw [IntKind.wrap_i64]; omega
        have jm : ¬ (n : Int) < -(n : Int) := by omega
        clear hn hrow hlit hlr
        go_wp2_with fail
        go_roundw
        case rel => exact ⟨k + 1, by omega, by go_num, HS2⟩
        case measure => simp [intOf]; omega
    · have j1 : ¬ (k : Int) < ((N : Nat) : Int) := by omega
      have hke : k = N := by omega
      have e1 : (S.tr.drop m).take k = S.tr.drop m := List.take_of_length_le (by simp; omega)
      rw [e1] at hF1
      have jm1 : (m : Int) ≤ (tc : Int) := by
        obtain ⟨ta', tc', htv', hrow⟩ := hF1.tr_row (by simp)
        rw [unhide HTV] at htv'
        simp only [Value.slice.injEq] at htv'
        obtain ⟨rfl, _, rfl⟩ := htv'
        rcases hrow.2 with ⟨hv, h0⟩ | ⟨g, cap, cur, hv, _, _, hnc, _⟩
        · simp only at h0
          omega
        · simp only [Value.slice.injEq] at hv
          simp only at hnc
          have := hv.2.2
          omega
      have f401 := hF1.cells.fz 401
      have f402 := hF1.cells.fz 402
      have hF2 := hF1.cutTr (by simp) (unhide HTV) hm
      have hK2 := hK1.setF (F := F) (.inl (by rw [unhide HSELF]; simp)) hlowF.1 401 (by omega) (.slice ta m tc)
      have ca2 := hF2.cells.ac
      have hF3 := hF2.asked m
      have hK3 := hK2.setF (F := F) (.inl (by rw [unhide HSELF]; simp)) hlowF.1 402 (by omega) (.int .i64 (m : Int))
      have HP : Hid (UndoP w B F rl S m (.returned (.tuple #[])) ((wo.setCell ⟨F, 401, none⟩ (.slice ta m tc)).setCell ⟨F, 402, none⟩ (.int .i64 (m : Int))).drew) := ⟨rfl, _, hF3.on (Below.refl _ _).drew, hK3.trans (kp_on (Below.refl _ _).drew hF3.base), fun b hb => by
        show ((wo.setCell ⟨F, 401, none⟩ (.slice ta m tc)).setCell ⟨F, 402, none⟩ (.int .i64 (m : Int))).heap[b]? = w.heap[b]?
        rw [blk_setCell_other _ _ _ _ hb, blk_setCell_other _ _ _ _ hb]; exact hO1 b hb⟩
      clear hF1 hK1 hF2 hK2 hF3 hK3 hO1 hZ1 HS e1 hN hke
      go_upto_region 5 with fail
      go_region
      go_wp2_with fail
      go_end0
      exact unhide HP
end Go.Proofs.Ythkhaemlcmkkjar

namespace Go.Proofs.Ythkhaemlcmkkjar
set_option linter.unusedVariables false
set_option linter.unusedSimpArgs false
open Go.RowKit Go.Deep Go.Sort

/-- The two variables that the closure of mark holds. -/
structure MkAt (w : World) (F fb nb m : Nat) : Prop where
  fk : w.heap[fb]? = some (.cells #[.pointer (some ⟨F, 0, none⟩)] 116 (0, 0))
  nk : w.heap[nb]? = some (.cells #[.int .i64 (m : Int)] 3 (0, 0))
theorem MkAt.fc {w : World} {F fb nb m : Nat} (h : MkAt w F fb nb m) : w.cell? ⟨fb, 0, none⟩ = some (.pointer (some ⟨F, 0, none⟩)) := by rw [cell_of_row w fb 0 _ _ _ h.fk]; rfl
theorem MkAt.nc {w : World} {F fb nb m : Nat} (h : MkAt w F fb nb m) : w.cell? ⟨nb, 0, none⟩ = some (.int .i64 (m : Int)) := by rw [cell_of_row w nb 0 _ _ _ h.nk]; rfl
abbrev mkV (fb nb : Nat) : Value := .func (.func 101) #[] #[.pointer (some ⟨fb, 0, none⟩), .pointer (some ⟨nb, 0, none⟩)]
theorem MkAt.lt {w : World} {F fb nb m : Nat} (h : MkAt w F fb nb m) : fb < w.heap.size ∧ nb < w.heap.size := ⟨World.block_lt_of_cell? _ _ h.fc, World.block_lt_of_cell? _ _ h.nc⟩
theorem MkAt.kept {w w' : World} {F fb nb m : Nat} (h : MkAt w F fb nb m) (h1 : w'.heap[fb]? = w.heap[fb]?) (h2 : w'.heap[nb]? = w.heap[nb]?) : MkAt w' F fb nb m :=
  ⟨h1.trans h.fk, h2.trans h.nk⟩
/-- What mark leaves. -/
def MarkP (w : World) (F m : Nat) (e : Ending) (w' : World) : Prop :=
  ∃ fb nb, e = .returned (mkV fb nb) ∧ Below w.heap.size w w' ∧ w.heap.size ≤ fb ∧ w.heap.size ≤ nb ∧ MkAt w' F fb nb m
set_option maxRecDepth 100000 in
set_option maxHeartbeats 4000000 in
theorem mark_any (w : World) (B F : Nat) (rl : Rl) (x : Option Role) (S : FSt) (V : FV) (h : FAt w B F rl x S V) (hx : x ≠ some .trail) :
    Calls Try.prog 71 #[.pointer (some ⟨F, 0, none⟩)] w fun e w' => MarkP w F S.tr.length e w' := by
  obtain ⟨ta, tc, htv, hrow⟩ := h.tr_row hx
  have ct := h.cells.tc
  rw [htv] at ct
  have hF := h.lt
  have hmf : ∀ (fn : Fn) (first cap : Array Value) (w : World), (Instr.makeFunc fn first cap).run Try.prog w = .ok (.func fn first cap) w := fun _ _ _ _ => rfl
  clear h hx hrow htv
  go_enter Try.func71, Try.ntmps71
  go_wp2_with fail
  go_ret
  refine ⟨w.heap.size, w.heap.size + 1, rfl, ?_, Nat.le_refl _, by omega, ?_⟩
  · exact ((Below.refl _ w).alloc (Nat.le_refl _) _).alloc (by simp) _
  · exact ⟨(Below.heap_alloc _ _ _ (by simp)).trans (blk_alloc_new w _), by
      have := blk_alloc_new (w.alloc (.cells #[.pointer (some ⟨F, 0, none⟩)] 116)) (.cells #[.int .i64 (S.tr.length : Int)] 3)
      rwa [show (w.alloc (.cells #[.pointer (some ⟨F, 0, none⟩)] 116)).heap.size = w.heap.size + 1 by simp] at this⟩
end Go.Proofs.Ythkhaemlcmkkjar

namespace Go.Proofs.Ythkhaemlcmkkjar
set_option linter.unusedVariables false
set_option linter.unusedSimpArgs false
open Go.RowKit Go.Deep

/-- A choice: its literal, how many were known, and the two variables of its closure. -/
structure LvD where
  lit : Int
  m : Nat
  fb : Nat
  nb : Nat
def lvVs (lv : List LvD) : List Value := lv.flatMap fun d => [.int .i64 d.lit, mkV d.fb d.nb]
theorem lvVs_len : ∀ lv : List LvD, (lvVs lv).length = lv.length * 2
  | [] => rfl
  | d :: lv => by
    have := lvVs_len lv
    unfold lvVs at this ⊢
    rw [List.flatMap_cons, List.length_append, this]
    simp
    omega
theorem lvVs_snoc (lv : List LvD) (d : LvD) : lvVs (lv ++ [d]) = lvVs lv ++ [.int .i64 d.lit, mkV d.fb d.nb] := by simp [lvVs]
theorem lvVs_at : ∀ (lv : List LvD) (i : Nat) (d : LvD), lv[i]? = some d → (lvVs lv)[i * 2]? = some (.int .i64 d.lit) ∧ (lvVs lv)[i * 2 + 1]? = some (mkV d.fb d.nb)
  | [], i, d, h => by simp at h
  | e :: lv, 0, d, h => by
    simp at h
    subst h
    exact ⟨rfl, rfl⟩
  | e :: lv, i + 1, d, h => by
    have h1 := lvVs_at lv i d (by simpa using h)
    unfold lvVs at h1 ⊢
    rw [List.flatMap_cons, show (i + 1) * 2 = i * 2 + 2 by omega, show i * 2 + 2 + 1 = i * 2 + 1 + 2 by omega]
    exact h1
/-- The literals that were chosen, the first one first. -/
def litsOf (lv : List LvD) : List Int := lv.map LvD.lit
theorem Try.infoLv : (Try.prog.info? 121).map (fun i => (i.zero, i.size, i.bytes)) = some (some (.agg #[.int .i64 0, .nilFunc]), 2, 16) := by kernel_rfl
theorem no_take (l : List Int) {k : Nat} (hk : k < l.length) : (noL l).take (k + 1) = (noL l).take k ++ [-l.getD k 0] := by
  rw [List.take_succ_eq_append_getElem (by unfold noL; simpa using hk)]
  simp [noL, List.getD, hk]

set_option maxRecDepth 100000 in
set_option maxHeartbeats 8000000 in
theorem no_any (w : World) (B F : Nat) (lv : List LvD) (la : Option Addr) (lc : Nat) (hl : lv.length ≤ 400) (hr : ∀ d, d ∈ lv → -400 ≤ d.lit ∧ d.lit ≤ 400) (hc : w.cell? ⟨F, 1205, none⟩ = some (.slice la lv.length lc)) (hown : w.ownsRow B 121 2 (.slice la lv.length lc) lv.length (lvVs lv)) :
    Calls Try.prog 69 #[.pointer (some ⟨F, 0, none⟩)] w fun e w' => (∃ v, e = .returned v ∧ w'.ownsRow w.heap.size 3 1 v lv.length (iV (noL (litsOf lv)))) ∧ Below w.heap.size w w' := by
  obtain ⟨i0, hi, hz0, hz1, hz2⟩ := info_parts Try.infoI
  have hmk := make_eq0 (P := Try.prog) 26 3 _ 1 8 Try.underlying26 Try.infoI lv.length (by omega) (by omega)
  have hF := World.block_lt_of_cell? _ _ hc
  have HR := hide hr
  have HOW := hide hown
  obtain ⟨n, hn⟩ : ∃ n, n = lv.length := ⟨_, rfl⟩
  have HN := hide hn
  rw [← hn] at hc hl hmk hown
  have HC := hide hc
  clear hr hn
  go_enter Try.func69, Try.ntmps69
  go_upto_region 2 with fail
  obtain ⟨w2, hw2⟩ : ∃ w2, w2 = w.alloc (.cells (madeCells #[Value.int .i64 0] n) 3) := ⟨_, rfl⟩
  have HO1 : Hid (w2.ownsRow w.heap.size 3 1 (.slice (some ⟨w.heap.size, 0, none⟩) 0 n) 0 (iV ((noL (litsOf lv)).take 0))) := by
    show World.ownsRow _ _ _ _ _ _ _
    rw [hw2, List.take_zero]
    exact World.ownsRow_made (base := w.heap.size) (e := 3) (size := 1) w (madeCells #[Value.int .i64 0] n) n (Nat.le_refl _) (by unfold maxLen; omega) (by rw [size_madeCells]; omega)
  have HB1 : Hid (Below w.heap.size w w2) := by
    show Below _ _ _
    rw [hw2]
    exact (Below.refl _ w).alloc (Nat.le_refl _) _
  clear hmk
  go_wp2_with fail
  rw [← hw2]
  rw [← (unhide HB1).cell (p := ⟨F, 1205, none⟩) hF] at hc
  clear hw2
  go_wp2_with fail
  go_loopw [3, 17] (fun cv kv wr => ∃ k : Nat, k ≤ n ∧ kv = .int .i64 k ∧ Hid (wr.ownsRow w.heap.size 3 1 cv k (iV ((noL (litsOf lv)).take k))) ∧ Hid (Below w.heap.size w wr)) (fun _ k _ => n - (intOf k).toNat)
  case atStart => exact ⟨0, Nat.zero_le _, rfl, HO1, HB1⟩
  case round =>
    rename World => wo
    obtain ⟨k, hk, rfl, HO, HB⟩ := hrel
    by_cases hlt : k < n
    · have j1 : (k : Int) < (n : Int) := by omega
      have j0 : (0 : Int) ≤ (k : Int) := by omega
      obtain ⟨g, hg⟩ : ∃ g, la = some ⟨g, 0, none⟩ := by
        rcases hown.2 with ⟨_, h0⟩ | ⟨g, cap, cur, hv, _⟩
        · omega
        · simp only [Value.slice.injEq] at hv
          exact ⟨g, hv.1⟩
      subst hg
      have hnl : n = lv.length := unhide HN
      obtain ⟨d, hd⟩ : ∃ d, lv[k]? = some d := ⟨lv[k]'(by omega), by simp [show k < lv.length by omega]⟩
      obtain ⟨v0, v1⟩ := lvVs_at lv k d hd
      have hgl := (World.ownsRow.lt hown g rfl).2
      have c0 := (hown.cellAt (k * 2) (by omega)).trans v0
      have c1 := (hown.cellAt (k * 2 + 1) (by omega)).trans v1
      rw [← (unhide HB).cell (p := ⟨g, _, none⟩) hgl] at c0 c1
      have hdr := unhide HR d (List.mem_of_getElem? hd)
      have hlit : (litsOf lv).getD k 0 = d.lit := by simp [litsOf, List.getD, hd]
      have HNT := hide (show (noL (litsOf lv)).take (k + 1) = (noL (litsOf lv)).take k ++ [-d.lit] by rw [no_take _ (by simp [litsOf]; omega), hlit])
      generalize d.lit = y at c0 hdr HNT
      have hneg : IntKind.i64.wrap (-y) = -y := by rw [IntKind.wrap_i64]; omega
      have hO1 := unhide HO
      obtain ⟨va, vc, hvv⟩ := own_shape hO1
      subst hvv
      simp only [mkV] at c1
      clear hd v0 v1 hlit hnl hO1
      go_upto_region 5 with fail
      obtain ⟨w3, hw3⟩ : ∃ w3, w3 = wo.alloc (.cells #[.int .i64 y, .func (.func 101) #[] #[.pointer (some ⟨d.fb, 0, none⟩), .pointer (some ⟨d.nb, 0, none⟩)]] 121) := ⟨_, rfl⟩
      rw [← hw3]
      have b3 : Below wo.heap.size wo w3 := by rw [hw3]; exact (Below.refl _ _).alloc (Nat.le_refl _) _
      have e3 : wo.heap.size < w3.heap.size := by rw [hw3]; simp
      have d0 : w3.cell? ⟨wo.heap.size, 0, none⟩ = some (.int .i64 y) := by rw [hw3]; simp
      have hown3 : w3.ownsRow w.heap.size 3 1 (.slice va k vc) k (iV ((noL (litsOf lv)).take k)) := by rw [hw3]; exact (unhide HO).alloc _
      have HB3 := hide ((unhide HB).trans (b3.mono (unhide HB).size))
      have HZ := hide (unhide HB).size
      clear hw3 b3 c0 c1
      go_wp2_with (first
        | (at_builtin; refine wpList_append_two rfl _ _ 26 rfl w.heap.size 3 i0 (.int .i64 0) 1 8 Try.underlying26 hi hz0 hz1 hz2 rfl (by decide) _ _ _ rfl (hown3.alloc _) ⟨w3.heap.size, 0, none⟩ 1 [.int .i64 (-y)] rfl rfl ?c1 ?c2 ?c3 ?c4 ?c5 ?_))
      case c1 =>
        intro j u hj
        match j, hj with
        | 0, hj => simp at hj; subst hj; simp [Addr.add]
      case c2 => intro u hu; simp at hu; subst hu; rfl
      case c3 => unfold maxLen; omega
      case c4 => omega
      case c5 => have := unhide HZ; simp; omega
      intro v' w5 hown' hgrow hfr
      obtain ⟨va', vc', hvv⟩ := own_shape hown'
      subst hvv
      have HO5 : Hid (w5.ownsRow w.heap.size 3 1 (.slice va' (k + 1) vc') (k + 1) (iV ((noL (litsOf lv)).take (k + 1)))) := by
        show World.ownsRow _ _ _ _ _ _ _
        rw [unhide HNT, iV_snoc]
        exact hown'
      have HB5 : Hid (Below w.heap.size w w5) := by
        have h1 := (unhide HB3).trans (((Below.refl w3.heap.size w3).alloc (Nat.le_refl _) (.cells #[.int .i64 (-y)] 3)).mono (unhide HB3).size)
        refine ⟨hgrow.os.trans h1.os, hgrow.tape.trans h1.tape, hgrow.output.trans h1.output, Nat.le_trans h1.size hgrow.size, fun b hb => ?_⟩
        rw [hgrow.block b (Nat.lt_of_lt_of_le hb h1.size) (fun e => ?_)]
        · exact h1.block b hb
        · have := (World.ownsRow.lt hown3 b e.symm).1
          omega
      clear hown' hgrow hfr hown3 d0
      go_wp2_with fail
      go_roundw
      case rel => exact ⟨k + 1, by omega, by go_num, HO5, HB5⟩
      case measure => simp [intOf]; omega
    · have j1 : ¬ (k : Int) < (n : Int) := by omega
      have hkn : k = n := by omega
      subst hkn
      go_wp2_with fail
      go_ret
      refine ⟨⟨_, rfl, ?_⟩, unhide HB⟩
      have h := unhide HO
      rw [List.take_of_length_le (by unfold noL litsOf; rw [List.length_map, List.length_map, ← unhide HN]; exact Nat.le_refl _)] at h
      rw [← unhide HN]
      exact h
set_option maxRecDepth 100000 in
set_option maxHeartbeats 4000000 in
theorem firstOpen_any (F : Nat) (K : Nat → Int) (vars : Nat) (hv : vars ≤ 400) (w : World) (hk : KnownAt w F K) :
    Calls Try.prog 44 #[.pointer (some ⟨F, 0, none⟩), .int .i64 (vars : Int)] w fun e w' => e = .returned (.int .i64 (openV K vars : Nat)) ∧ w' = w := by
  have HK := hide hk
  clear hk
  go_enter Try.func44, Try.ntmps44
  go_wp2_with fail
  go_loopw [5] (fun kv wr => ∃ k : Nat, k ≤ vars ∧ kv = .int .i64 ((k + 1 : Nat) : Int) ∧ Hid (openV K vars = openF K (vars - k) (k + 1)) ∧ wr = w) (fun k _ => vars + 1 - (intOf k).toNat)
  case atStart => exact ⟨0, Nat.zero_le _, rfl, rfl, rfl⟩
  case round =>
    rename World => wo
    obtain ⟨k, hkl, rfl, HO, rfl⟩ := hrel
    by_cases hlt : k < vars
    · have j1 : ((k + 1 : Nat) : Int) ≤ (vars : Int) := by omega
      have hc := unhide HK (k + 1) (by omega)
      have hof : openF K (vars - k) (k + 1) = if K (k + 1) = 0 then k + 1 else openF K (vars - (k + 1)) (k + 1 + 1) := by
        rw [show vars - k = (vars - (k + 1)) + 1 by omega, openF]
      obtain ⟨q, hq⟩ : ∃ q, q = k + 1 := ⟨_, rfl⟩
      rw [← hq] at hc hof j1 HO ⊢
      have q0 : (0 : Int) ≤ (q : Int) := by omega
      have q1 : (q : Int) < 401 := by omega
      generalize K q = z at hc hof
      have HQ := hide hq
      by_cases h0 : z = 0
      · subst h0
        rw [if_pos rfl] at hof
        have HE := hide ((unhide HO).trans hof)
        clear hof hq
        go_wp2_with fail
        go_ret
        exact ⟨by rw [unhide HE]; rfl, rfl⟩
      · have hz : ¬ z = 0 := h0
        have hne : (z != 0) = true := by rw [bne_iff_ne]; exact h0
        rw [if_neg h0] at hof
        have hw : IntKind.i64.wrap ((q : Int) + 1) = ((q + 1 : Nat) : Int) := by rw [IntKind.wrap_i64]; omega
        have HE := hide ((unhide HO).trans hof)
        clear hof hq
        go_wp2_with fail
        go_roundw
        case rel => exact ⟨k + 1, by omega, by (have h := unhide HQ; congr 1; omega), by rw [← unhide HQ]; exact HE, trivial⟩
        case measure => have := unhide HQ; simp [intOf]; omega
    · have hkv : k = vars := by omega
      subst hkv
      have j1 : ¬ ((k + 1 : Nat) : Int) ≤ (k : Int) := by omega
      have HE := hide (show openV K k = k + 1 by rw [unhide HO, Nat.sub_self]; rfl)
      obtain ⟨q, hq⟩ : ∃ q, q = k + 1 := ⟨_, rfl⟩
      rw [← hq] at j1 HE ⊢
      clear HO hq
      go_wp2_with fail
      go_ret
      exact ⟨by rw [unhide HE]; rfl, rfl⟩
def bV (l : List Bool) : List Value := l.map .bool
theorem bV_len (l : List Bool) : (bV l).length = l.length := by simp [bV]
theorem Try.infoBool : (Try.prog.info? 4).map (fun i => (i.zero, i.size, i.bytes)) = some (some (.bool false), 1, 1) := by kernel_rfl
theorem modelK_len (K : Nat → Int) (n : Nat) : (modelK K n).length = n := by simp [modelK]
theorem modelK_at (K : Nat → Int) (n : Nat) {k : Nat} (hk : k < n) : (modelK K n)[k]? = some (decide (0 < K (k + 1))) := by simp [modelK, hk]
/-- The first k of a model, and nothing behind. -/
def modelTo (K : Nat → Int) (n k : Nat) : List Bool := (modelK K n).take k ++ List.replicate (n - k) false
theorem modelTo_len (K : Nat → Int) {n k : Nat} (hk : k ≤ n) : (modelTo K n k).length = n := by simp [modelTo, modelK_len]; omega
theorem modelTo_set (K : Nat → Int) {n k : Nat} (hk : k < n) : (modelTo K n k).set k (decide (0 < K (k + 1))) = modelTo K n (k + 1) := by
  apply List.ext_getElem?
  intro i
  unfold modelTo
  have hl : ((modelK K n).take k).length = k := by simp [modelK_len]; omega
  have hl1 : ((modelK K n).take (k + 1)).length = k + 1 := by simp [modelK_len]; omega
  rw [List.getElem?_set]
  by_cases e : k = i
  · subst e
    rw [if_pos rfl, if_pos (by simp [modelK_len]; omega), List.getElem?_append_left (by omega), List.getElem?_take, if_pos (by omega), modelK_at K n hk]
  · rw [if_neg e]
    by_cases h : i < k
    · rw [List.getElem?_append_left (by omega), List.getElem?_append_left (by omega), List.getElem?_take, List.getElem?_take, if_pos h, if_pos (by omega)]
    · rw [List.getElem?_append_right (by omega), List.getElem?_append_right (by omega), hl, hl1, List.getElem?_replicate, List.getElem?_replicate]
      by_cases h2 : i < n
      · rw [if_pos (by omega), if_pos (by omega)]
      · rw [if_neg (by omega), if_neg (by omega)]

set_option maxRecDepth 100000 in
set_option maxHeartbeats 8000000 in
theorem model_any (F : Nat) (K : Nat → Int) (vars : Nat) (hv : vars ≤ 400) (w : World) (hF : F < w.heap.size) (hk : KnownAt w F K) :
    Calls Try.prog 45 #[.pointer (some ⟨F, 0, none⟩), .int .i64 (vars : Int)] w fun e w' => (∃ v, e = .returned v ∧ w'.ownsRow w.heap.size 4 1 v vars (bV (modelK K vars))) ∧ Below w.heap.size w w' := by
  have hmk := make_eq (P := Try.prog) 44 4 _ 1 1 Try.underlying44 Try.infoBool vars (by omega) (by omega)
  have HK := hide hk
  clear hk
  go_enter Try.func45, Try.ntmps45
  go_upto_region 2 with fail
  obtain ⟨w2, hw2⟩ : ∃ w2, w2 = w.alloc (.cells (madeCells #[Value.bool false] vars) 4) := ⟨_, rfl⟩
  have HO1 : Hid (w2.ownsRow w.heap.size 4 1 (.slice (some ⟨w.heap.size, 0, none⟩) vars vars) vars (bV (modelTo K vars 0))) := by
    show World.ownsRow _ _ _ _ _ _ _
    rw [hw2]
    refine ⟨by simp [bV, modelTo], .inr ⟨w.heap.size, vars, _, rfl, Nat.le_refl _, blk_alloc_new _ _, Nat.le_refl _, by unfold maxLen; omega, by rw [size_madeCells]; omega, ?_⟩⟩
    apply List.ext_getElem?
    intro i
    by_cases hi : i < vars
    · simp [madeCells, bV, modelTo, hi, Nat.mod_one]
    · simp [madeCells, bV, modelTo, hi]
  have HB1 : Hid (Below w.heap.size w w2) := by
    show Below _ _ _
    rw [hw2]
    exact (Below.refl _ w).alloc (Nat.le_refl _) _
  clear hmk
  go_wp2_with fail
  rw [← hw2]
  clear hw2
  go_loopw [11] (fun kv wr => ∃ k : Nat, k ≤ vars ∧ kv = .int .i64 k ∧ Hid (wr.ownsRow w.heap.size 4 1 (.slice (some ⟨w.heap.size, 0, none⟩) vars vars) vars (bV (modelTo K vars k))) ∧ Hid (Below w.heap.size w wr)) (fun k _ => vars - (intOf k).toNat)
  case atStart => exact ⟨0, Nat.zero_le _, rfl, HO1, HB1⟩
  case round =>
    rename World => wo
    obtain ⟨k, hkl, rfl, HO, HB⟩ := hrel
    by_cases hlt : k < vars
    · have j1 : (k : Int) < (vars : Int) := by omega
      have j0 : (0 : Int) ≤ (k : Int) := by omega
      have hc := ((unhide HB).cell (p := ⟨F, k + 1, none⟩) hF).trans (unhide HK (k + 1) (by omega))
      have hw : IntKind.i64.wrap ((k : Int) + 1) = ((k + 1 : Nat) : Int) := by rw [IntKind.wrap_i64]; omega
      have hst := (unhide HO).stored k (.bool (decide (0 < K (k + 1))))
      have hset : (bV (modelTo K vars k)).set k (.bool (decide (0 < K (k + 1)))) = bV (modelTo K vars (k + 1)) := by
        rw [← modelTo_set K hlt]
        unfold bV
        rw [List.map_set]
      rw [hset] at hst
      have hfz := (unhide HO).frozenAt k
      have hcb := (unhide HO).cellAt k (by omega)
      obtain ⟨bb, hbb⟩ : ∃ bb, (bV (modelTo K vars k))[k]? = some (.bool bb) := by
        refine ⟨(modelTo K vars k)[k]'(by rw [modelTo_len K hkl]; exact hlt), ?_⟩
        unfold bV
        rw [List.getElem?_map, List.getElem?_eq_getElem (by rw [modelTo_len K hkl]; exact hlt)]
        rfl
      rw [hbb] at hcb
      have HO2 := hide hst.1
      have HB2 := hide ((unhide HB).setCell (p := ⟨w.heap.size, k, none⟩) (Nat.le_refl _) (.bool (decide (0 < K (k + 1)))))
      generalize K (k + 1) = z at hc HO2 HB2
      obtain ⟨q, hq⟩ : ∃ q, q = k + 1 := ⟨_, rfl⟩
      rw [← hq] at hc hw
      have q0 : (0 : Int) ≤ (q : Int) := by omega
      have q1 : (q : Int) < 401 := by omega
      have HQ := hide hq
      clear hst hset hbb hq HO HB
      go_wp2_with fail
      go_roundw
      case rel => exact ⟨k + 1, by omega, by rw [unhide HQ], HO2, HB2⟩
      case measure => have := unhide HQ; simp [intOf]; omega
    · have j1 : ¬ (k : Int) < (vars : Int) := by omega
      have hkv : k = vars := by omega
      subst hkv
      go_wp2_with fail
      go_ret
      refine ⟨⟨_, rfl, ?_⟩, unhide HB⟩
      have h := unhide HO
      unfold modelTo at h
      rw [List.take_of_length_le (by rw [modelK_len]; exact Nat.le_refl _), Nat.sub_self] at h
      simpa using h
end Go.Proofs.Ythkhaemlcmkkjar
