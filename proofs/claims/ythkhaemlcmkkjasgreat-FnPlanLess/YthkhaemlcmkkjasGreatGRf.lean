/- The program's forth and back: a move from a state, and to one. The program's rowsFrom: how far each state is. The program's descent, and its PlanFind. The program's rows, back from a state. The program's PlanFind. -/
import Derived.Test.YthkhaemlcmkkjasGreatMvG
import Derived.Test.YthkhaemlcmkkjasGreatGMw
import Derived.Test.YthkhaemlcmkkjasGreatGPf
import Derived.Maps.OwnOps
import Derived.Maps.OwnSet
import Derived.Maps.Own
import Derived.Maps.AppendAt
import Derived.Test.YthkhaemlcmkkjasGreatGIm
import Derived.WalkMore
import Derived.Deep.LoopGhost
namespace Go.Proofs.YthkhaemlcmkkjasGreat
set_option linter.unusedVariables false
set_option linter.unusedSimpArgs false
open Go.RowKit Go.Deep

/-- All along a statement whose calls leave all as it was. -/
structure CFw (W : World) (b : Bool) (us : List Value) (x : World) : Prop where
  below : Below W.heap.size W x
theorem CFw.on {W : World} {b b' : Bool} {us : List Value} {x y : World} (h : CFw W b us x) (hb : Below x.heap.size x y) : CFw W b' us y := ⟨h.below.trans (hb.mono h.below.size)⟩

set_option maxRecDepth 100000 in
set_option maxHeartbeats 4000000 in
theorem forth_any (l : List PackD) (room : Int) (V : Value) (bits : Nat) (m : MvD) (hs : bits < 65536) (hps : ∀ p ∈ placesTo bits 8, p < l.length) (hmw : m.within l.length) (hok : OkL l) (w : World) (h : Stock w V l room) :
    Calls Tryz.prog 43 #[V, .int .u64 (bits : Int), m.val] w fun e w' => e = .returned (.tuple #[.int .u64 ((behindN bits m : Nat) : Int), .bool (allowsB l room bits m)]) ∧ Below w.heap.size w w' := by
  have HST := hide h
  obtain ⟨a, cap, bm, v, rfl, hP, ⟨⟨xa, xc, rfl⟩, hA⟩⟩ := h
  clear hP hA
  have hv : ∃ T X, m.val = .iface T X := by cases m <;> exact ⟨_, _, rfl⟩
  obtain ⟨T, X, hv⟩ := hv
  obtain ⟨w0, hw0⟩ : ∃ w0, w0 = w.alloc (.cells #[.slice a l.length cap, .int .i64 room, .map (some bm), .slice xa l.length xc] 54) := ⟨_, rfl⟩
  have b0 : Below w.heap.size w w0 := by rw [hw0]; exact (Below.refl _ _).alloc (Nat.le_refl _) _
  have z0 : w0.heap.size = w.heap.size + 1 := by rw [hw0]; simp
  have x0 : w0.cell? ⟨w.heap.size, 0, none⟩ = some (.slice a l.length cap) := by rw [hw0]; simp
  have x1 : w0.cell? ⟨w.heap.size, 1, none⟩ = some (.int .i64 room) := by rw [hw0]; simp
  have x2 : w0.cell? ⟨w.heap.size, 2, none⟩ = some (.map (some bm)) := by rw [hw0]; simp
  have x3 : w0.cell? ⟨w.heap.size, 3, none⟩ = some (.slice xa l.length xc) := by rw [hw0]; simp
  have HB0 := hide b0
  have HW0 := hide hw0
  clear hw0 b0
  have HAL := hide (fun x (hx : Below w0.heap.size w0 x) => allows_any l room _ bits m hs hps hmw hok x ((unhide HST).on ((unhide HB0).trans (hx.mono (unhide HB0).size))))
  have HBH := hide (fun x => behind_any bits m hs (within_fine hmw hok.l8) x)
  rw [hv] at HAL HBH ⊢
  generalize allowsB l room bits m = al at HAL ⊢
  generalize behindN bits m = bh at HBH ⊢
  clear HST hv hmw hps hs hok
  go_enter Tryz.func43, Tryz.ntmps43
  go_upto_region 1 with fail
  rw [← unhide HW0]
  clear HW0
  refine wp_region_mix (k := 100) 7 [] [.int .u64 (bits : Int), .iface T X, .int .u64 ((bh : Nat) : Int), .agg #[.slice a l.length cap, .int .i64 room, .map (some bm), .slice xa l.length xc], .int .u64 (bits : Int), .iface T X, .bool al] (CFw w0) (by kernel_rfl) (by kernel_rfl) (by kernel_rfl) (by kernel_rfl) (by kernel_rfl) (by kernel_rfl) ⟨(Below.refl _ _).drew⟩ ?_ ?_ ?_
  · intro full hfull i oo hi hns ho x fl us hC hb
    simp [putAll, slotOf, Act.put] at hfull
    subst hfull
    have bx := hC.below
    rw [← bx.cell (p := ⟨w.heap.size, _, none⟩) (by simp; omega)] at x0 x1 x2 x3
    have hC0 := hC.on (b' := fl) (Below.refl _ _)
    match i with
    | 0 => simp at ho; subst ho; simp [gwp, Region.wanted, yielded]; go_simp; first | done | exact hC0 | exact ⟨rfl, hC0⟩ | (simp; exact hC0)
    | 1 => simp at ho; subst ho; simp [gwp, Region.wanted, yielded]; go_simp; first | done | exact hC0 | exact ⟨rfl, hC0⟩ | (simp; exact hC0)
    | 2 =>
      simp at ho; subst ho; simp [gwp, Region.wanted, yielded]; go_simp
      refine (unhide HBH x).mono ?_
      rintro e w' ⟨rfl, hb2⟩
      go_simp
      first | done | exact hC.on hb2 | exact ⟨rfl, hC.on hb2⟩ | (simp; exact hC.on hb2)
    | 3 => simp at ho; subst ho; simp [gwp, Region.wanted, yielded]; go_simp; first | done | exact hC0 | exact ⟨rfl, hC0⟩ | (simp; exact hC0)
    | 4 => simp at ho; subst ho; simp [gwp, Region.wanted, yielded]; go_simp; first | done | exact hC0 | exact ⟨rfl, hC0⟩ | (simp; exact hC0)
    | 5 => simp at ho; subst ho; simp [gwp, Region.wanted, yielded]; go_simp; first | done | exact hC0 | exact ⟨rfl, hC0⟩ | (simp; exact hC0)
    | 6 =>
      simp at ho; subst ho; simp [gwp, Region.wanted, yielded]; go_simp
      refine (unhide HAL x bx).mono ?_
      rintro e w' ⟨rfl, hb2⟩
      go_simp
      first | done | exact hC.on hb2 | exact ⟨rfl, hC.on hb2⟩ | (simp; exact hC.on hb2)
    | i + 7 => omega
  · intro full hfull us j hj
    simp at hj
  intro full hfull us w3 hus hC
  simp [putAll, slotOf, Act.put] at hfull
  subst hfull
  match us, hus with
  | [], _ =>
  have HB3 := hide ((unhide HB0).trans (hC.below.mono (unhide HB0).size))
  clear hC HB0 HAL HBH x0 x1 x2 x3
  simp [putP]
  go_wp2_with fail
  exact bodyPost_ret (v := .tuple #[.int .u64 ((bh : Nat) : Int), .bool al]) (by simp [results, Tryz.results43, go_sem]) rfl ⟨rfl, unhide HB3⟩

theorem was_place {m : MvD} {n s : Nat} (h : m.within n) (hs : ∀ p ∈ placesTo s 8, p < n) : ∀ p ∈ placesTo (wasN s m) 8, p < n := fun p hp => by
  obtain ⟨h8, hb⟩ := (mem_places _ _ _).1 hp
  unfold wasN outN at hb
  rw [Nat.testBit_or, Nat.testBit_and, Bool.or_eq_true, Bool.and_eq_true] at hb
  rcases hb with hb | hb
  · exact hs p ((mem_places _ _ _).2 ⟨h8, hb.1⟩)
  · cases m with
    | put i => rw [show (MvD.put i).goes = 0 from rfl] at hb; simp at hb
    | take o =>
      rw [show (MvD.take o).goes = 2 ^ o from rfl, Nat.testBit_two_pow] at hb
      simp at hb
      rw [← hb]; exact h
    | swap i o =>
      rw [show (MvD.swap i o).goes = 2 ^ o from rfl, Nat.testBit_two_pow] at hb
      simp at hb
      rw [← hb]; exact h.2

set_option maxRecDepth 100000 in
set_option maxHeartbeats 4000000 in
theorem back_any (l : List PackD) (room : Int) (V : Value) (bits : Nat) (m : MvD) (hs : bits < 65536) (hps : ∀ p ∈ placesTo bits 8, p < l.length) (hmw : m.within l.length) (hok : OkL l) (w : World) (h : Stock w V l room) :
    Calls Tryz.prog 22 #[V, .int .u64 (bits : Int), m.val] w fun e w' => e = .returned (.tuple #[.int .u64 ((wasN bits m : Nat) : Int), .bool (backB l room bits m)]) ∧ Below w.heap.size w w' := by
  have HST := hide h
  obtain ⟨a, cap, bm, v, rfl, hP, ⟨⟨xa, xc, rfl⟩, hA⟩⟩ := h
  clear hP hA
  have hfine := within_fine hmw hok.l8
  obtain ⟨T, X, Fg, Fc, M⟩ := mv_meth m hfine
  obtain ⟨hg, hc⟩ := fine_bits hfine
  have h1 := bits_not bits m.comes (by omega) (by omega)
  rw [show bits &&& (18446744073709551615 - m.comes) = outN bits m.comes from rfl] at h1
  have hol := outN_lt (g := m.comes) hs
  have h2 := bits_or (outN bits m.comes) m.goes (by omega) (by omega)
  rw [show outN bits m.comes ||| m.goes = wasN bits m from rfl] at h2
  have hwl : wasN bits m < 65536 := or_lt hol hg
  have hwp := was_place hmw hps
  have HBE : Hid (backB l room bits m = (decide (behindN (wasN bits m) m = bits) && (healthB l room (wasN bits m) && allowsB l room (wasN bits m) m))) := rfl
  have HAL := hide (fun x hst => allows_any l room (.agg #[.slice a l.length cap, .int .i64 room, .map (some bm), .slice xa l.length xc]) (wasN bits m) m hwl hwp hmw hok x hst)
  have HHE := hide (fun x hst => healthy_any l room (.agg #[.slice a l.length cap, .int .i64 room, .map (some bm), .slice xa l.length xc]) (wasN bits m) hwl hwp hok x hst)
  have HBH := hide (fun x => behind_any (wasN bits m) m hwl hfine x)
  have HCG := hide M.cg
  have HCC := hide M.cc
  rw [M.val] at HAL HBH ⊢
  have mg := M.mg
  have mc := M.mc
  have eg := M.eg
  have ec := M.ec
  have heq : ((((behindN (wasN bits m) m : Nat) : Int)) == ((bits : Nat) : Int)) = decide (behindN (wasN bits m) m = bits) := by
    rw [Bool.eq_iff_iff, beq_iff_eq, decide_eq_true_eq]
    exact Int.ofNat_inj
  generalize decide (behindN (wasN bits m) m = bits) = eqb at HBE heq
  generalize behindN (wasN bits m) m = bw at HBH heq
  generalize healthB l room (wasN bits m) = hw at HHE HBE
  generalize allowsB l room (wasN bits m) m = al at HAL HBE
  generalize backB l room bits m = bb at HBE ⊢
  generalize wasN bits m = ws at h2 HAL HHE HBH ⊢
  generalize outN bits m.comes = O at h1 h2
  generalize m.goes = g at HCG h2
  generalize m.comes = c at HCC h1
  clear M hg hc hol hwl hwp hps hs hok hmw hfine
  go_enter Tryz.func22, Tryz.ntmps22
  go_upto_region 1 with fail
  obtain ⟨w0, hw0⟩ : ∃ w0, w0 = w.alloc (.cells #[.slice a l.length cap, .int .i64 room, .map (some bm), .slice xa l.length xc] 54) := ⟨_, rfl⟩
  rw [← hw0]
  have b0 : Below w.heap.size w w0 := by rw [hw0]; exact (Below.refl _ _).alloc (Nat.le_refl _) _
  have z0 : w.heap.size < w0.heap.size := by rw [hw0]; simp
  have x0 : w0.cell? ⟨w.heap.size, 0, none⟩ = some (.slice a l.length cap) := by rw [hw0]; simp
  have x1 : w0.cell? ⟨w.heap.size, 1, none⟩ = some (.int .i64 room) := by rw [hw0]; simp
  have x2 : w0.cell? ⟨w.heap.size, 2, none⟩ = some (.map (some bm)) := by rw [hw0]; simp
  have x3 : w0.cell? ⟨w.heap.size, 3, none⟩ = some (.slice xa l.length xc) := by rw [hw0]; simp
  have HB0 := hide b0
  clear hw0 b0
  go_wp2_with fail
  refine (unhide HCC w0).mono ?_
  rintro e w1 ⟨rfl, b1⟩
  have HB1 := hide ((unhide HB0).trans (b1.mono (unhide HB0).size))
  have z1 := Nat.lt_of_lt_of_le z0 b1.size
  rw [← b1.cell (p := ⟨w.heap.size, _, none⟩) z0] at x0 x1 x2 x3
  clear b1 HB0 z0
  go_wp2_with fail
  refine (unhide HCG w1).mono ?_
  rintro e w2 ⟨rfl, b2⟩
  have HB2 := hide ((unhide HB1).trans (b2.mono (unhide HB1).size))
  have z2 := Nat.lt_of_lt_of_le z1 b2.size
  rw [← b2.cell (p := ⟨w.heap.size, _, none⟩) z1] at x0 x1 x2 x3
  clear b2 HB1 z1
  go_wp2_with fail
  refine (unhide HBH w2).mono ?_
  rintro e w3 ⟨rfl, b3⟩
  have HB3 := hide ((unhide HB2).trans (b3.mono (unhide HB2).size))
  have z3 := Nat.lt_of_lt_of_le z2 b3.size
  rw [← b3.cell (p := ⟨w.heap.size, _, none⟩) z2] at x0 x1 x2 x3
  clear b3 HB2 z2 HBH HCC HCG mg mc eg ec
  cases eqb with
  | false =>
    have HR := hide (show bb = false from unhide HBE)
    clear HBE HAL HHE HST
    go_wp2_with fail
    exact bodyPost_ret (v := .tuple #[.int .u64 ((ws : Nat) : Int), .bool false]) (by simp [results, Tryz.results22, go_sem]) rfl ⟨by rw [unhide HR], unhide HB3⟩
  | true =>
    have HHE3 := hide (unhide HHE w3 ((unhide HST).on (unhide HB3)))
    clear HHE
    cases hw with
    | false =>
      have HR := hide (show bb = false from unhide HBE)
      clear HBE HAL HST
      go_wp2_with fail
      refine (unhide HHE3).mono ?_
      rintro e w4 ⟨rfl, b4⟩
      have HB4 := hide ((unhide HB3).trans (b4.mono (unhide HB3).size))
      clear b4 HB3 HHE3
      go_wp2_with fail
      exact bodyPost_ret (v := .tuple #[.int .u64 ((ws : Nat) : Int), .bool false]) (by simp [results, Tryz.results22, go_sem]) rfl ⟨by rw [unhide HR], unhide HB4⟩
    | true =>
      have HR := hide (show bb = al from unhide HBE)
      clear HBE
      go_wp2_with fail
      refine (unhide HHE3).mono ?_
      rintro e w4 ⟨rfl, b4⟩
      have HB4 := hide ((unhide HB3).trans (b4.mono (unhide HB3).size))
      have HAL4 := hide (unhide HAL w4 ((unhide HST).on (unhide HB4)))
      rw [← b4.cell (p := ⟨w.heap.size, _, none⟩) z3] at x0 x1 x2 x3
      clear b4 HB3 HHE3 HAL HST
      go_wp2_with fail
      refine (unhide HAL4).mono ?_
      rintro e w5 ⟨rfl, b5⟩
      have HB5 := hide ((unhide HB4).trans (b5.mono (unhide HB4).size))
      clear b5 HB4 HAL4
      go_wp2_with fail
      exact bodyPost_ret (v := .tuple #[.int .u64 ((ws : Nat) : Int), .bool al]) (by simp [results, Tryz.results22, go_sem]) rfl ⟨by rw [unhide HR], unhide HB5⟩
end Go.Proofs.YthkhaemlcmkkjasGreat

namespace Go.Proofs.YthkhaemlcmkkjasGreat
set_option linter.unusedVariables false
set_option linter.unusedSimpArgs false
open Go.RowKit Go.Deep Go.Maps

theorem wpList_insert_own {H : Type} {P : Program} (w : World) {ops : Array Oper} {rest : List Oper} {o : Oper} {a : Act} {Q : Exit → Act → World → Prop}
    (hg : o.guard = none) (m x v : Operand) (t : TypeId) (hop : o.op = Op.insert t m x v)
    (k e : TypeId) (K : Keyed P k) (ht : P.underlying t = some (.map k e)) (R : Value → Option (DataW H × List MemPlace)) (b n : Nat) (D : DataW H)
    (hm : a.eval m = .map (some b)) (hown : w.ownsMap P k R b n D) (hn : n < maxLen) (key val : Value) (kl : Lit) (hx : a.eval x = key) (hv : a.eval v = val) (hkey : keyOf P k key = some kl)
    (d : DataW H) (ps : List MemPlace) (hval : R val = some (d, ps))
    (hK : ∀ w', w'.ownsMap P k R b (n + 1) (D.put kl d) → w.grownBy w' (some b) → wpList P ops Q rest (a.put o.dst undef) w') :
    wpList P ops Q (o :: rest) a w := by
  refine wpList_plain hg fun K' hK' => ?_
  obtain ⟨w', hrun, r1, r2⟩ := hown.update K ht hn hkey hval
  unfold Oper.wp
  simp [execOp, hop, hm, hx, hv, hrun, Result.andThen]
  exact hK' _ _ (hK w' r1 r2)
theorem lawBits : Keyed Tryz.prog 56 := int_keyed Tryz.underlying56
abbrev skey (s : Nat) : Lit := .int .u64 (s : Int)
theorem key_bits {s : Nat} (h : s < 65536) : keyOf Tryz.prog 56 (.int .u64 (s : Int)) = some (skey s) :=
  keyOf_int_mk Tryz.underlying56 (by simp only [Lit.wf]; simp [IntKind.min, IntKind.max, IntKind.signed, IntKind.bits]; omega)
abbrev FarD (w : World) (bm n : Nat) (D : DataW Unit) : Prop := w.ownsMap Tryz.prog 56 (plainElem (H := Unit) Tryz.prog 3) bm n D
/-- The map of how far states are, at block bm. -/
def FarMap (w : World) (bm n : Nat) (f : Nat → Nat) : Prop := ∃ D : DataW Unit, FarD w bm n D ∧ ∀ s, s < 65536 → D.atKey (skey s) (i64D 0) = i64D ((f s : Nat) : Int)
theorem FarMap.kept {w w' : World} {bm n : Nat} {f : Nat → Nat} {row : Option Nat} (h : FarMap w bm n f) (hg : w.grownBy w' row) (hne : some bm ≠ row) : FarMap w' bm n f := by
  obtain ⟨D, h1, h2⟩ := h
  exact ⟨D, h1.kept hg hne, h2⟩
theorem FarMap.on {w w' : World} {bm n : Nat} {f : Nat → Nat} (h : FarMap w bm n f) (hb : Below w.heap.size w w') : FarMap w' bm n f :=
  h.kept (row := none) ⟨hb.os, hb.tape, hb.output, hb.size, fun b hb' _ => hb.block b hb'⟩ (by simp)
theorem FarMap.lt {w : World} {bm n : Nat} {f : Nat → Nat} (h : FarMap w bm n f) : bm < w.heap.size := by
  obtain ⟨D, h1, _⟩ := h
  exact h1.lt
theorem far_put {w : World} {bm n : Nat} {D : DataW Unit} {f : Nat → Nat} {t num : Nat} (hw : FarD w bm n D) (h : ∀ s, s < 65536 → D.atKey (skey s) (i64D 0) = i64D ((f s : Nat) : Int)) : ∀ s, s < 65536 → (D.put (skey t) (i64D ((num : Nat) : Int))).atKey (skey s) (i64D 0) = i64D (((if s = t then num else f s) : Nat) : Int) := fun s hs => by
  by_cases e : s = t
  · rw [if_pos e, e, atKey_put_same hw.isMap (show WideAt.IsKeyLit (skey t) from trivial)]
  · rw [if_neg e, atKey_put_other (by intro hh; simp [skey] at hh; omega), h s hs]
theorem bits_cell {w : World} {B : Nat} {v : Value} {l : List Nat} (h : w.ownsRow B 56 1 v l.length (bitVs l)) {j : Nat} (hj : j < l.length) : ∃ g cap, v = .slice (some ⟨g, 0, none⟩) l.length cap ∧ B ≤ g ∧ g < w.heap.size ∧ w.cell? ⟨g, j, none⟩ = some (.int .u64 ((l.getD j 0 : Nat) : Int)) := by
  rcases h.2 with ⟨hv, h0⟩ | ⟨g, cap, cur, hv, hB, hc, _, _, hsz, hx⟩
  · omega
  · refine ⟨g, cap, hv, hB, (Array.getElem?_eq_some_iff.1 hc).1, ?_⟩
    rw [cell_of_row w g j cur _ _ hc]
    have : (cur.toList.take (l.length * 1))[j]? = (bitVs l)[j]? := by rw [hx]
    rw [List.getElem?_take, if_pos (by omega)] at this
    simp [bitVs, List.getD, hj] at this ⊢
    exact this
theorem bits_slice {w : World} {B : Nat} {v : Value} {l : List Nat} (h : w.ownsRow B 56 1 v l.length (bitVs l)) : ∃ a c, v = .slice a l.length c := by
  rcases h.2 with ⟨hv, h0⟩ | ⟨g, cap, cur, hv, _⟩
  · exact ⟨none, 0, by rw [hv, h0]⟩
  · exact ⟨_, _, hv⟩
theorem bitVs_snoc (ns : List Nat) (r : Nat) : bitVs (ns ++ [r]) = bitVs ns ++ [.int .u64 (r : Int)] := by simp [bitVs]

set_option maxRecDepth 100000 in
set_option maxHeartbeats 16000000 in
theorem rowsFrom_any (l : List PackD) (room : Int) (V : Value) (g : Nat → MvD → Nat × Bool) (Gd : Nat → Prop) (succ : Nat → List Nat) (s0 : Nat) (hl8 : l.length ≤ 8) (hgd : ∀ s, Gd s → s < 256) (hsucc : ∀ s, Gd s → succ s = ((movesL l).filter (fun m => (g s m).2)).map (fun m => (g s m).1)) (hcl : ∀ s, Gd s → ∀ t ∈ succ s, Gd t) (hN : ∀ s, ∀ t ∈ succ s, t < 256)
    (F : FuncId) (hcf : ∀ (x y : Value) (W : World), Sem.run Tryz.prog (callFunc F #[V, x, y]) W = Result.ok (Next.enter F #[V, x, y]) W) (w : World) (h : Stock w V l room)
    (hcall : ∀ s, Gd s → ∀ m ∈ movesL l, ∀ x, Below w.heap.size w x → Calls Tryz.prog F #[V, .int .u64 (s : Int), m.val] x fun e w' => e = .returned (.tuple #[.int .u64 (((g s m).1 : Nat) : Int), .bool (g s m).2]) ∧ Below x.heap.size x w') (ha : Gd s0) :
    Calls Tryz.prog 21 #[V, .int .u64 (s0 : Int), .func (.func F) #[V] #[]] w fun e w' => (∃ bm, e = .returned (.map (some bm)) ∧ w.heap.size ≤ bm ∧ ∃ n, FarMap w' bm n (farF succ s0)) ∧ Below w.heap.size w w' := by
  obtain ⟨ib, hib, hzb0, hzb1, hzb2⟩ := info_parts Tryz.infoBits
  have hsb := hgd s0 ha
  have HST := hide h
  obtain ⟨a, cap, bm0, v, rfl, hP, ⟨⟨xa, xc, rfl⟩, hA⟩⟩ := h
  clear hP hA
  have HCF := hide hcf
  have HCALL := hide hcall
  have HSUCC := hide hsucc
  have HCL := hide hcl
  have HGD := hide hgd
  have HNN := hide hN
  have HGA := hide ha
  clear hcf hcall hsucc hcl hgd hN ha
  go_enter Tryz.func21, Tryz.ntmps21
  go_upto_region 1 with fail
  obtain ⟨w0, hw0⟩ : ∃ w0, w0 = w.alloc (.cells #[.slice a l.length cap, .int .i64 room, .map (some bm0), .slice xa l.length xc] 54) := ⟨_, rfl⟩
  rw [← hw0]
  have b0 : Below w.heap.size w w0 := by rw [hw0]; exact (Below.refl _ _).alloc (Nat.le_refl _) _
  have z0 : w.heap.size < w0.heap.size := by rw [hw0]; simp
  have x0 : w0.cell? ⟨w.heap.size, 0, none⟩ = some (.slice a l.length cap) := by rw [hw0]; simp
  have x1 : w0.cell? ⟨w.heap.size, 1, none⟩ = some (.int .i64 room) := by rw [hw0]; simp
  have x2 : w0.cell? ⟨w.heap.size, 2, none⟩ = some (.map (some bm0)) := by rw [hw0]; simp
  have x3 : w0.cell? ⟨w.heap.size, 3, none⟩ = some (.slice xa l.length xc) := by rw [hw0]; simp
  have HB0 := hide b0
  have HMV := hide (moves_any l room _ hl8 w0 ((unhide HST).on b0))
  clear hw0 b0
  go_wp2_with fail
  refine (unhide HMV).mono ?_
  rintro e w4 ⟨⟨mv, rfl, hmv⟩, b4⟩
  have HB4 := hide ((unhide HB0).trans (b4.mono (unhide HB0).size))
  have hml := moves_le l
  obtain ⟨qa, qc, hq⟩ : ∃ qa qc, mv = .slice qa (movesL l).length qc := by
    rcases hmv.2 with ⟨hv, h0⟩ | ⟨g, cap, cur, hv, _⟩
    · exact ⟨none, 0, by rw [hv, h0]⟩
    · exact ⟨_, _, hv⟩
  subst hq
  have HM4 := hide hmv
  clear b4 HMV hmv x0 x1 x2 x3 HB0
  have hmm := @run_makeMap Tryz.prog
  have hown0 := World.ownsMap_made w4 Tryz.prog 56 (plainElem (H := Unit) Tryz.prog 3)
  have hkey := key_bits (s := s0) (by omega)
  have hz4 := (unhide HB4).size
  go_upto_region 2 with fail
  go_wp2_with (first
    | (refine wpList_insert_own _ rfl _ _ _ 59 rfl 56 3 lawBits Tryz.underlying59 _ w4.heap.size 0 _ rfl hown0 (by unfold maxLen; omega) _ _ _ rfl rfl hkey _ [] (plainElem_int Tryz.underlying3 (WalkArith.wf_i64 (by omega))) ?_; intro w5 hown5 hgrow5))
  have hzs : w4.heap.size < w5.heap.size := hown5.lt
  have hb5 : Below w4.heap.size w4 w5 := ((Below.refl _ _).alloc (Nat.le_refl _) (.map #[] 0)).grown hgrow5 (by simp) (fun j hj => by simp at hj; omega)
  have hf5 : FarMap w5 w4.heap.size 1 (rowsN succ s0 0).1 := ⟨_, hown5, far_put (num := 1) (f := fun _ => 0) hown0 (fun s _ => rfl)⟩
  have hr5 : (w5.alloc (.cells #[.int .u64 (s0 : Int)] 56)).ownsRow (w4.heap.size + 1) 56 1 (.slice (some ⟨w5.heap.size, 0, none⟩) 1 1) (rowsN succ s0 0).2.length (bitVs (rowsN succ s0 0).2) :=
    ⟨rfl, Or.inr ⟨w5.heap.size, 1, #[.int .u64 (s0 : Int)], rfl, by omega, blk_alloc_new _ _, Nat.le_refl _, by simp [maxLen], rfl, rfl⟩⟩
  have HF5 := hide (hf5.kept (World.grownBy_alloc w5 (.cells #[.int .u64 (s0 : Int)] 56) none) (by simp))
  have HR5 := hide hr5
  have HB5 := hide (hb5.alloc (by omega) (.cells #[.int .u64 (s0 : Int)] 56))
  have HI5 := hide (start_inv hsb)
  clear hown0 hown5 hgrow5 hmm hb5 hf5 hr5 hkey
  generalize hms : movesL l = ms at *
  obtain ⟨bm, hbm⟩ : ∃ bm, bm = w4.heap.size := ⟨_, rfl⟩
  rw [← hbm] at HF5 HR5 HB5 hz4 hzs ⊢
  have HBM := hide hbm
  clear hbm
  go_loopw [9, 10] (fun rv nv wr => ∃ (num N n : Nat), nv = .int .i64 num ∧ Hid (num = N + 2) ∧ Hid ((rowsN succ s0 N).2.length ≤ 256) ∧ N ≤ 257 ∧ Hid (FarMap wr bm n (rowsN succ s0 N).1) ∧ Hid (n + unmet 256 (rowsN succ s0 N).1 ≤ 256) ∧ Hid (wr.ownsRow (bm + 1) 56 1 rv (rowsN succ s0 N).2.length (bitVs (rowsN succ s0 N).2)) ∧ Hid (Below bm w4 wr)) (fun _ nv _ => 400 - (intOf nv).toNat)
  case atStart => exact ⟨2, 0, 1, rfl, rfl, by show _ ≤ _; simp [rowsN], by omega, HF5, HI5, HR5, HB5⟩
  case round =>
    clear HF5 HI5 HR5 HB5
    rename World => wo
    obtain ⟨num, N, n, rfl, HNUM, HRL, hN, HF, HI, HO, HB⟩ := hrel
    have hn1 : 2 ≤ num ∧ num ≤ 259 := by have := unhide HNUM; omega
    have HFEW := hide (fun hne => rowsN_few (a := s0) (unhide HNN) N hne)
    have HALL := hide (rowsN_all (P := Gd) (unhide HGA) (unhide HCL) N)
    have HDONE := hide (fun hd => far_done (a := s0) (unhide HNN) (n := N) hd)
    have HNX : Hid (rowsN succ s0 (N + 1) = (((rowsN succ s0 N).2.flatMap succ).foldl (visit (N + 2)) ((rowsN succ s0 N).1, []))) := rfl
    obtain ⟨f, hf⟩ : ∃ f, f = (rowsN succ s0 N).1 := ⟨_, rfl⟩
    obtain ⟨row, hrow⟩ : ∃ row, row = (rowsN succ s0 N).2 := ⟨_, rfl⟩
    rw [← hf, ← hrow] at HNX
    rw [← hf] at HF HI HFEW HDONE
    rw [← hrow] at HO HFEW HALL HDONE HRL
    clear hf hrow
    have hbo : bm < wo.heap.size := (unhide HF).lt
    by_cases hem : row = []
    · have hl0 : (row.length : Int) = 0 := by rw [hem]; rfl
      have hlt0 : ¬ (0 : Int) < (row.length : Int) := by omega
      have hff := unhide HDONE hem
      obtain ⟨ra, rc, rfl⟩ := bits_slice (unhide HO)
      have HF2 := hide (show FarMap wo bm n (farF succ s0) by rw [← hff]; exact unhide HF)
      have HB2 := hide ((unhide HB4).trans ((unhide HB).mono (by omega)))
      clear hff HDONE HNX HFEW HALL HF HI HO hem HB
      go_wp2_with fail
      go_ret
      exact ⟨⟨bm, rfl, hz4, n, unhide HF2⟩, unhide HB2⟩
    · have hpos : (0 : Int) < (row.length : Int) := by
        have : row.length ≠ 0 := fun e => hem (List.length_eq_zero_iff.1 e)
        omega
      have hposn : 0 < row.length := by omega
      have hNf := unhide HFEW hem
      have hNl : N ≤ 256 := by omega
      obtain ⟨ra, rc, rfl⟩ := bits_slice (unhide HO)
      have hrl : row.length ≤ 256 := unhide HRL
      clear hem HFEW HDONE hNf
      go_wp2_with fail
      go_loopw [11, 32] (fun xv iv ws => ∃ (i n1 : Nat), i ≤ row.length ∧ iv = .int .i64 i ∧ Hid (FarMap ws bm n1 (((row.take i).flatMap succ).foldl (visit num) (f, [])).1) ∧ Hid (PInv (((row.take i).flatMap succ).foldl (visit num) (f, [])) n1) ∧ Hid (ws.ownsRow wo.heap.size 56 1 xv (((row.take i).flatMap succ).foldl (visit num) (f, [])).2.length (bitVs (((row.take i).flatMap succ).foldl (visit num) (f, [])).2)) ∧ Hid (wo.grownBy ws (some bm))) (fun _ i _ => row.length - (intOf i).toNat)
      case atStart => exact ⟨0, n, Nat.zero_le _, rfl, HF, PInv.start (unhide HI), World.ownsRow_nil _ _ _ _, World.grownBy.refl wo _⟩
      case round =>
        rename World => ws
        obtain ⟨i, n1, hi, rfl, HF1, HI1, HO1, HG1⟩ := hrel
        by_cases hlt : i < row.length
        · have j1 : (i : Int) < (row.length : Int) := by omega
          have j0 : (0 : Int) ≤ (i : Int) := by omega
          obtain ⟨rg, rgc, hrv, hrg1, hrg2, rc0⟩ := bits_cell (unhide HO) hlt
          simp at hrv
          obtain ⟨rfl, rfl⟩ := hrv
          rw [← World.cell?_of_block (w := wo) (a := ⟨rg, i, none⟩) ((unhide HG1).block rg hrg2 (by simp; omega))] at rc0
          have hfl := fold_flat succ num (f, []) row hlt
          have hgs : Gd (row.getD i 0) := unhide HALL _ (getD_mem hlt)
          obtain ⟨s, hs⟩ : ∃ s, s = row.getD i 0 := ⟨_, rfl⟩
          rw [← hs] at rc0 hfl hgs
          clear hs
          obtain ⟨p, hp⟩ : ∃ p, p = ((row.take i).flatMap succ).foldl (visit num) (f, []) := ⟨_, rfl⟩
          rw [← hp] at HF1 HI1 HO1 hfl
          clear hp
          have hss := unhide HSUCC s hgs
          have HFS := hide (show ms.foldl (visitG g num s) p = ((row.take (i + 1)).flatMap succ).foldl (visit num) (f, []) by rw [fold_visitG, ← hss, hfl])
          have HTL := hide (fun t (ht : t ∈ succ s) => (⟨unhide HNN s t ht, unhide HCL s hgs t ht⟩ : t < 256 ∧ Gd t))
          have HGS := hide hgs
          have HSS := hide hss
          clear hfl hgs hss
          go_wp2_with fail
          go_loopw [11, 38] (fun xv kv wt => ∃ (k n2 : Nat), k ≤ ms.length ∧ kv = .int .i64 k ∧ Hid (FarMap wt bm n2 ((ms.take k).foldl (visitG g num s) p).1) ∧ Hid (PInv ((ms.take k).foldl (visitG g num s) p) n2) ∧ Hid (wt.ownsRow wo.heap.size 56 1 xv ((ms.take k).foldl (visitG g num s) p).2.length (bitVs ((ms.take k).foldl (visitG g num s) p).2)) ∧ Hid (wo.grownBy wt (some bm))) (fun _ k _ => ms.length - (intOf k).toNat)
          case atStart => exact ⟨0, n1, Nat.zero_le _, rfl, HF1, HI1, HO1, HG1⟩
          case round =>
            clear HF1 HI1 HO1 HG1 rc0
            rename World => wt
            obtain ⟨k, n2, hk, rfl, HF2, HI2, HO2, HG2⟩ := hrel
            have hbw := (unhide HB).grown (unhide HG2) (by omega) (fun j hj => by simp at hj; omega)
            have hbwW := (unhide HB4).trans (hbw.mono (by omega))
            by_cases hlt2 : k < ms.length
            · have jk1 : (k : Int) < (ms.length : Int) := by omega
              have jk0 : (0 : Int) ≤ (k : Int) := by omega
              obtain ⟨mg, mgc, hmgv, hmgl, mc0⟩ := mv_cell (unhide HM4) hlt2
              simp at hmgv
              obtain ⟨rfl, rfl⟩ := hmgv
              rw [← hbw.cell (p := ⟨mg, _, none⟩) (by rw [unhide HBM]; exact hmgl)] at mc0
              have htk := fold_take (visitG g num s) (.put 0) p ms hlt2
              have hmem : ms.getD k (.put 0) ∈ ms := by
                have e : ms.getD k (.put 0) = ms[k] := by simp [List.getD, hlt2]
                rw [e]
                exact List.getElem_mem hlt2
              obtain ⟨m, hm⟩ : ∃ m, m = ms.getD k (.put 0) := ⟨_, rfl⟩
              rw [← hm] at mc0 htk hmem
              clear hm
              obtain ⟨q, hq⟩ : ∃ q, q = (ms.take k).foldl (visitG g num s) p := ⟨_, rfl⟩
              rw [← hq] at HF2 HI2 HO2 htk
              clear hq
              have HBW := hide hbw
              have HC := hide (unhide HCALL s (unhide HGS) m hmem wt hbwW)
              have hcf := unhide HCF
              have HT := hide (fun (h : (g s m).2 = true) => unhide HTL (g s m).1 (by rw [unhide HSS]; exact List.mem_map.2 ⟨m, List.mem_filter.2 ⟨hmem, h⟩, rfl⟩))
              replace htk : (ms.take (k + 1)).foldl (visitG g num s) p = if (g s m).2 then visit num q (g s m).1 else q := htk
              have hv : ∃ T X, m.val = .iface T X := by cases m <;> exact ⟨_, _, rfl⟩
              obtain ⟨T, X, hv⟩ := hv
              rw [hv] at mc0 HC
              obtain ⟨t, ht⟩ : ∃ t, t = (g s m).1 := ⟨_, rfl⟩
              obtain ⟨ok, hok⟩ : ∃ ok, ok = (g s m).2 := ⟨_, rfl⟩
              rw [← ht, ← hok] at HC HT htk
              clear hbw hbwW hmem ht hok hv
              have HTK := hide htk
              clear htk
              go_wp2_with fail
              refine (unhide HC).mono ?_
              rintro e w7 ⟨rfl, b7⟩
              have HG7 := hide (grown_below (unhide HG2) b7)
              have HF7 := hide ((unhide HF2).on b7)
              have HO7 := hide (ownsRow_on (unhide HO2) b7)
              have hz7 := (unhide HG7).size
              clear b7 HC HF2 HO2 HG2 mc0 HBW hcf
              cases ok with
              | false =>
                have HE := hide (show (ms.take (k + 1)).foldl (visitG g num s) p = q from unhide HTK)
                clear HTK HT
                go_wp2_with fail
                go_roundw
                case rel => exact ⟨k + 1, n2, by omega, by go_num, by rw [unhide HE]; exact HF7, by rw [unhide HE]; exact HI2, by rw [unhide HE]; exact HO7, HG7⟩
                case measure => simp [intOf]; omega
              | true =>
                obtain ⟨ht256, _⟩ := unhide HT rfl
                obtain ⟨D, hD, hat⟩ := unhide HF7
                have hkey := key_bits (s := t) (by omega)
                obtain ⟨c, hrun, hat2, hwc⟩ := hD.lookup_int lawBits Tryz.underlying59 Tryz.underlying3 (zeroInt _) hkey
                have hct : c = ((q.1 t : Nat) : Int) := by
                  have := hat t (by omega)
                  rw [hat2] at this
                  simpa using this
                subst hct
                by_cases hq0 : q.1 t = 0
                · have hc0 : (((q.1 t : Nat) : Int) == 0) = true := beq_iff_eq.2 (by omega)
                  have HE := hide (show (ms.take (k + 1)).foldl (visitG g num s) p = (fun x => if x = t then num else q.1 x, q.2 ++ [t]) by
                    rw [unhide HTK, if_pos rfl]
                    unfold visit
                    rw [if_pos hq0])
                  have HI8 := hide ((unhide HI2).visit (num := num) (by omega) hq0 ht256)
                  have hn2 : n2 ≤ 256 := by have := (unhide HI2).map; omega
                  have hq2 : q.2.length ≤ 256 := by have := (unhide HI2).row; omega
                  have hown7 := unhide HO7
                  have HPUT := hide (fun w8 (h8 : FarD w8 bm (n2 + 1) (D.put (skey t) (i64D ((num : Nat) : Int)))) => (⟨_, h8, far_put (num := num) hD hat⟩ : FarMap w8 bm (n2 + 1) (fun x => if x = t then num else q.1 x)))
                  generalize (((q.1 t : Nat) : Int)) = cc at hrun hc0
                  clear HTK HT hat hat2 hwc HF7
                  go_wp2_with (first
                    | (at_builtin; refine wpList_append_own _ rfl _ _ 84 rfl wo.heap.size 56 ib (.int .u64 0) 1 8 Tryz.underlying84 hib hzb0 hzb1 hzb2 rfl (by decide) _ _ _ rfl (hown8n.alloc _) ⟨w8.heap.size, 0, none⟩ 1 1 [.int .u64 (t : Int)] rfl rfl ?cc1 ?cc2 ?cc3 ?cc4 ?cc5 ?_)
                    | (at_mapUpdate; refine wpList_mapUpdate_own _ rfl _ _ _ 59 rfl 56 3 lawBits Tryz.underlying59 _ bm _ _ rfl hD (by unfold maxLen; omega) _ _ _ rfl rfl hkey _ [] (plainElem_int Tryz.underlying3 (WalkArith.wf_i64 (by omega))) ?_; intro w8 hown8 hgrow8; have hown8n := row_other hown7 hgrow8 (fun g hg e => by have h1 := (World.ownsRow.lt hown7 g hg).1; simp at e; omega)))
                  case cc1 =>
                    intro j u hj
                    match j, hj with
                    | 0, hj => simp at hj; subst hj; simp [Addr.add]
                  case cc2 => intro u hu; simp at hu; subst hu; rfl
                  case cc3 => unfold maxLen; omega
                  case cc4 => omega
                  case cc5 => have := hgrow8.size; simp; omega
                  intro v' w9 hown' hgrow9 _
                  have hG8 := (unhide HG7).trans hgrow8
                  have hG8a := grown_app hG8 (World.grownBy_alloc w8 (.cells #[.int .u64 (t : Int)] 56) none) (fun j e => by cases e)
                  have hblk := fun j hj => (World.ownsRow.lt hown7 j hj).1
                  have HG9 := hide (grown_app hG8a hgrow9 (fun j hj => Or.inr (hblk j hj)))
                  have hF8 : FarMap w8 bm (n2 + 1) (fun x => if x = t then num else q.1 x) := unhide HPUT w8 hown8
                  have hF8a := hF8.kept (World.grownBy_alloc w8 (.cells #[.int .u64 (t : Int)] 56) none) (by simp)
                  have HF9 := hide (hF8a.kept hgrow9 (fun e => by have := hblk bm e.symm; omega))
                  have HO9 : Hid (w9.ownsRow wo.heap.size 56 1 v' (q.2 ++ [t]).length (bitVs (q.2 ++ [t]))) := by
                    show World.ownsRow _ _ _ _ _ _ _
                    rw [bitVs_snoc]
                    simpa using hown'
                  clear hown' hgrow9 hgrow8 hown8 hown8n hG8 hG8a hF8 hF8a hblk HPUT hown7 hrun hD HI2 HO7 HG7
                  go_wp2_with fail
                  go_roundw
                  case rel => exact ⟨k + 1, n2 + 1, by omega, by go_num, by rw [unhide HE]; exact HF9, by rw [unhide HE]; exact HI8, by rw [unhide HE]; exact HO9, HG9⟩
                  case measure => simp [intOf]; omega
                · have hc0 : (((q.1 t : Nat) : Int) == 0) = false := beq_eq_false_iff_ne.2 (by omega)
                  have HE := hide (show (ms.take (k + 1)).foldl (visitG g num s) p = q by
                    rw [unhide HTK, if_pos rfl]
                    unfold visit
                    rw [if_neg hq0])
                  generalize (((q.1 t : Nat) : Int)) = cc at hrun hc0
                  clear HTK HT hat hat2 hwc hq0
                  go_wp2_with fail
                  go_roundw
                  case rel => exact ⟨k + 1, n2, by omega, by go_num, by rw [unhide HE]; exact HF7, by rw [unhide HE]; exact HI2, by rw [unhide HE]; exact HO7, HG7⟩
                  case measure => simp [intOf]; omega
            · have jk1 : ¬ (k : Int) < (ms.length : Int) := by omega
              have hke : ms.take k = ms := List.take_of_length_le (by omega)
              rw [hke, unhide HFS] at HF2 HI2 HO2
              clear hke hbw hbwW
              go_wp2_with fail
              go_roundw
              case rel => exact ⟨i + 1, n2, by omega, by go_num, HF2, HI2, HO2, HG2⟩
              case measure => simp [intOf]; omega
        · have j1 : ¬ (i : Int) < (row.length : Int) := by omega
          have hke : row.take i = row := List.take_of_length_le (by omega)
          have hrn : (((row.flatMap succ).foldl (visit num) (f, []))) = rowsN succ s0 (N + 1) := by rw [unhide HNX, unhide HNUM]
          rw [hke, hrn] at HF1 HI1 HO1
          have HB1 := hide ((unhide HB).grown (unhide HG1) (by omega) (fun j hj => by simp at hj; omega))
          have HO2 := hide (row_down (unhide HO1) (show bm + 1 ≤ wo.heap.size by omega))
          clear hke HO1 hrn
          go_wp2_with fail
          go_roundw
          case rel => exact ⟨num + 1, N + 1, n1, by go_num, by show _ = _; have := unhide HNUM; omega, by show _ ≤ _; have := (unhide HI1).row; omega, by have := unhide HNUM; omega, HF1, (unhide HI1).map, HO2, HB1⟩
          case measure => simp [intOf]; omega
end Go.Proofs.YthkhaemlcmkkjasGreat

namespace Go.Proofs.YthkhaemlcmkkjasGreat
set_option linter.unusedVariables false
set_option linter.unusedSimpArgs false
open Go.RowKit Go.Deep Go.Maps

set_option maxRecDepth 100000 in
set_option maxHeartbeats 16000000 in
theorem descent_any (l : List PackD) (room : Int) (V : Value) (b s0 bm n : Nat) (f : Nat → Nat) (hf : ∀ s, GoodS l room s → f s = distB l room s b) (hok : OkL l) (hg : GoodS l room s0) (R : Nat) (hR : f s0 = R + 1) (w : World) (h : Stock w V l room) (hm : FarMap w bm n f) :
    Calls Tryz.prog 23 #[V, .int .u64 (s0 : Int), .map (some bm)] w fun e w' => (∃ v, e = .returned v ∧ w'.ownsRow w.heap.size 50 3 v (planTo l room b R s0).length (stepVs (planTo l room b R s0))) ∧ Below w.heap.size w w' := by
  obtain ⟨i0, hi, hz0, hz1, hz2⟩ := info_parts Tryz.infoStep
  have hl8 := hok.l8
  have HF := hide hf
  have HOK := hide hok
  have HG0 := hide hg
  have HM0 := hide hm
  have HST := hide h
  have hfs := hf s0 hg
  have hfl : f s0 ≤ 301 := by rw [hfs]; exact farF_le _ _ _
  have hs256 := hg.lt
  obtain ⟨a, cap, bm0, v, rfl, hP, ⟨⟨xa, xc, rfl⟩, hA⟩⟩ := h
  clear hP hA hf hok hg hm hfs
  go_enter Tryz.func23, Tryz.ntmps23
  go_wp2_with fail
  go_step3
  go_upto_region 1 with fail
  obtain ⟨w0, hw0⟩ : ∃ w0, w0 = w.alloc (.cells #[.slice a l.length cap, .int .i64 room, .map (some bm0), .slice xa l.length xc] 54) := ⟨_, rfl⟩
  rw [← hw0]
  have b0 : Below w.heap.size w w0 := by rw [hw0]; exact (Below.refl _ _).alloc (Nat.le_refl _) _
  have z0 : w.heap.size < w0.heap.size := by rw [hw0]; simp
  have x0 : w0.cell? ⟨w.heap.size, 0, none⟩ = some (.slice a l.length cap) := by rw [hw0]; simp
  have x1 : w0.cell? ⟨w.heap.size, 1, none⟩ = some (.int .i64 room) := by rw [hw0]; simp
  have x2 : w0.cell? ⟨w.heap.size, 2, none⟩ = some (.map (some bm0)) := by rw [hw0]; simp
  have x3 : w0.cell? ⟨w.heap.size, 3, none⟩ = some (.slice xa l.length xc) := by rw [hw0]; simp
  have HB0 := hide b0
  have HMV := hide (moves_any l room _ hl8 w0 ((unhide HST).on b0))
  clear hw0 b0
  go_wp2_with fail
  refine (unhide HMV).mono ?_
  rintro e w4 ⟨⟨mv, rfl, hmv⟩, b4⟩
  have HB4 := hide ((unhide HB0).trans (b4.mono (unhide HB0).size))
  have hml := moves_le l
  obtain ⟨qa, qc, hq⟩ : ∃ qa qc, mv = .slice qa (movesL l).length qc := by
    rcases hmv.2 with ⟨hv, h0⟩ | ⟨g, cap, cur, hv, _⟩
    · exact ⟨none, 0, by rw [hv, h0]⟩
    · exact ⟨_, _, hv⟩
  subst hq
  have HM4 := hide hmv
  rw [← b4.cell (p := ⟨w.heap.size, _, none⟩) z0] at x0 x1 x2 x3
  have z4 : w.heap.size < w4.heap.size := Nat.lt_of_lt_of_le z0 b4.size
  clear b4 HMV hmv HB0 z0
  obtain ⟨D, hD, hat⟩ := (unhide HM0).on (unhide HB4)
  have hkey := key_bits (s := s0) (by omega)
  obtain ⟨c, hrun, hat2, hwc⟩ := hD.lookup_int lawBits Tryz.underlying59 Tryz.underlying3 (zeroInt _) hkey
  have hct : c = (R : Int) + 1 := by
    have := hat s0 (by omega)
    rw [hat2, hR] at this
    simpa using this
  have hRr : R ≤ 300 := by omega
  have hsub : IntKind.i64.wrap (c - 1) = (R : Int) := by rw [IntKind.wrap_i64]; omega
  clear hat hat2 hwc hfl hD hR hct
  have HWI : Hid (∀ m ∈ movesL l, m.within l.length) := fun m hm => moves_within hl8 hm
  have HPS := hide (fun r s m => @planTo_some l room b r s m)
  have HPN := hide (fun r s => @planTo_none l room b r s)
  have HGF := hide (fun s (hg : GoodS l room s) m (hm : m ∈ movesL l) ha => good_forth hg hm ha)
  generalize movesL l = ms at *
  have hmsl : ms.length ≤ 80 := by omega
  go_wp2_with fail
  go_step3
  go_wp2_with fail
  clear hrun hsub hkey
  go_loopg [1, 7, 9] R (fun g s1 s7 s9 wx => ∃ (s : Nat) (done : List StepD), s9 = .int .i64 (g : Int) ∧ s1 = .int .u64 (s : Int) ∧ Hid (GoodS l room s) ∧ Hid (done ++ planTo l room b g s = planTo l room b R s0) ∧ Hid (done.length + g ≤ 300) ∧ Hid (wx.ownsRow w4.heap.size 50 3 s7 done.length (stepVs done)) ∧ Hid (Below w4.heap.size w4 wx))
  case atStart => exact ⟨s0, [], rfl, rfl, HG0, rfl, by show _ ≤ _; simp; omega, World.ownsRow_nil _ _ _ _, Below.refl _ _⟩
  case round =>
    rename World => wo
    obtain ⟨s, done, rfl, rfl, HG, HPL, HLE, HO, HB⟩ := hrel
    cases gk with
    | zero =>
      have hk0 : ¬ (0 : Int) < ((0 : Nat) : Int) := by omega
      have HE := hide (show done = planTo l room b R s0 by rw [← unhide HPL]; simp [planTo])
      have HB5 := hide ((unhide HB4).trans ((unhide HB).mono (unhide HB4).size))
      have hz4 := (unhide HB4).size
      go_wp2_with fail
      try rw [Exit.noGoto_ret]
      go_ret
      exact ⟨⟨_, rfl, by rw [← unhide HE]; exact row_down (unhide HO) (by omega)⟩, unhide HB5⟩
    | succ g =>
      have hk1 : (0 : Int) < ((g + 1 : Nat) : Int) := by omega
      have hg300 : g < 300 := by have := unhide HLE; omega
      have hsub : IntKind.i64.wrap (((g + 1 : Nat) : Int) - 1) = (g : Int) := by rw [IntKind.wrap_i64]; omega
      obtain ⟨r1, hr1⟩ : ∃ r1, r1 = ((g + 1 : Nat) : Int) := ⟨_, rfl⟩
      rw [← hr1] at hk1 hsub ⊢
      have HR1 := hide hr1
      clear hr1
      go_wp2_with fail
      go_loopg [1, 7, 26] ms.length (fun g2 t1 t7 t26 wy => ∃ k : Nat, k + g2 = ms.length ∧ t26 = .int .i64 (k : Int) ∧ t1 = .int .u64 (s : Int) ∧ Hid ((ms.take k).find? (descB l room b g s) = none) ∧ Hid (wy.ownsRow w4.heap.size 50 3 t7 done.length (stepVs done)) ∧ Hid (Below w4.heap.size w4 wy))
      case atStart => exact ⟨0, by omega, rfl, rfl, rfl, HO, HB⟩
      case round =>
        clear HO HB
        rename World => wt
        obtain ⟨k, hkg, rfl, rfl, HN, HO, HB⟩ := hrel
        cases gk with
        | zero =>
          have hke : ms.take k = ms := List.take_of_length_le (by omega)
          have hn := unhide HN
          rw [hke] at hn
          have HE := hide (show done ++ planTo l room b g s = planTo l room b R s0 by rw [← unhide HPL, unhide HPN g s hn])
          have hk2 : ¬ (k : Int) < (ms.length : Int) := by omega
          clear hke hn HN
          go_wp2_with fail
          go_roundg g
          case measure => omega
          case rel => exact ⟨s, done, rfl, rfl, HG, HE, by show _ ≤ _; have := unhide HLE; omega, HO, HB⟩
        | succ g2 =>
          have hlt : k < ms.length := by omega
          have jk1 : (k : Int) < (ms.length : Int) := by omega
          have jk0 : (0 : Int) ≤ (k : Int) := by omega
          have hzb := (unhide HB).size
          obtain ⟨mg, mgc, hmgv, hmgl, mc0⟩ := mv_cell (unhide HM4) hlt
          simp at hmgv
          obtain ⟨rfl, rfl⟩ := hmgv
          rw [← (unhide HB).cell (p := ⟨mg, _, none⟩) hmgl] at mc0
          have hfs := find_step (descB l room b g s) (.put 0) ms hlt (unhide HN)
          have hmem : ms.getD k (.put 0) ∈ ms := by
            have e : ms.getD k (.put 0) = ms[k] := by simp [List.getD, hlt]
            rw [e]
            exact List.getElem_mem hlt
          obtain ⟨m, hm⟩ : ∃ m, m = ms.getD k (.put 0) := ⟨_, rfl⟩
          rw [← hm] at mc0 hfs hmem
          clear hm
          have q0 := x0
          have q1 := x1
          have q2 := x2
          have q3 := x3
          rw [← (unhide HB).cell (p := ⟨w.heap.size, _, none⟩) z4] at q0 q1 q2 q3
          have hgs := unhide HG
          have hbw := (unhide HB4).trans ((unhide HB).mono (unhide HB4).size)
          have HFO := hide (forth_any l room (.agg #[.slice a l.length cap, .int .i64 room, .map (some bm0), .slice xa l.length xc]) s m (Nat.lt_trans hgs.lt (by decide)) hgs.pl (unhide HWI m hmem) (unhide HOK) wt ((unhide HST).on hbw))
          have HGL := hide (fun ha => unhide HGF s hgs m hmem ha)
          have HDB : Hid (descB l room b g s m = (allowsB l room s m && decide (distB l room (behindN s m) b = g + 1))) := rfl
          have HPM := hide (unhide HPS g s m)
          obtain ⟨al, hal⟩ : ∃ al, al = allowsB l room s m := ⟨_, rfl⟩
          obtain ⟨lo, hlo⟩ : ∃ lo, lo = behindN s m := ⟨_, rfl⟩
          rw [← hal, ← hlo] at HFO HDB
          rw [← hal, ← hlo] at HGL
          rw [← hlo] at HPM
          have HFS := hide hfs
          clear hal hlo hfs hmem hgs hbw
          go_wp2_with fail
          refine (unhide HFO).mono ?_
          rintro e w7 ⟨rfl, b7⟩
          have HB7 := hide ((unhide HB).trans (b7.mono (unhide HB).size))
          have HO7 := hide (ownsRow_on (unhide HO) b7)
          clear b7 HFO HB HO q0 q1 q2 q3 mc0
          cases al with
          | false =>
            have HN2 := hide (show (ms.take (k + 1)).find? (descB l room b g s) = none by rw [unhide HFS, show descB l room b g s m = false from unhide HDB]; rfl)
            clear HFS HDB HGL HPM
            go_wp2_with fail
            go_roundg g2
            case measure => omega
            case rel => exact ⟨k + 1, by omega, by go_num, rfl, HN2, HO7, HB7⟩
          | true =>
            have hgl := unhide HGL rfl
            have hl256 := hgl.lt
            have hfl := unhide HF lo hgl
            obtain ⟨D, hD, hat⟩ := (unhide HM0).on ((unhide HB4).trans ((unhide HB7).mono (unhide HB4).size))
            have hkey := key_bits (s := lo) (by omega)
            obtain ⟨c, hrun, hat2, hwc⟩ := hD.lookup_int lawBits Tryz.underlying59 Tryz.underlying3 (zeroInt _) hkey
            have hct : c = ((distB l room lo b : Nat) : Int) := by
              have := hat lo (by omega)
              rw [hat2, hfl] at this
              simpa using this
            have heq : (c == r1) = decide (distB l room lo b = g + 1) := by
              rw [Bool.eq_iff_iff, beq_iff_eq, decide_eq_true_eq, hct, unhide HR1]
              exact Int.ofNat_inj
            have HGLO := hide hgl
            obtain ⟨eqd, heqd⟩ : ∃ eqd, eqd = decide (distB l room lo b = g + 1) := ⟨_, rfl⟩
            rw [← heqd] at heq HDB
            clear hat hat2 hwc hct hfl hgl HGL hD heqd hkey
            cases eqd with
            | false =>
              have HN2 := hide (show (ms.take (k + 1)).find? (descB l room b g s) = none by rw [unhide HFS, show descB l room b g s m = false from unhide HDB]; rfl)
              clear HFS HDB HPM
              go_wp2_with fail
              go_roundg g2
              case measure => omega
              case rel => exact ⟨k + 1, by omega, by go_num, rfl, HN2, HO7, HB7⟩
            | true =>
              have hfd : ms.find? (descB l room b g s) = some m := find_more _ _ (show (ms.take (k + 1)).find? (descB l room b g s) = some m by rw [unhide HFS, show descB l room b g s m = true from unhide HDB]; rfl)
              have HE := hide (show (done ++ [m.step]) ++ planTo l room b g lo = planTo l room b R s0 by rw [← unhide HPL, unhide HPM hfd]; simp)
              have hdl : done.length ≤ 300 := by have := unhide HLE; omega
              clear HFS HDB HPM hfd
              go_wp2_with fail
              refine (stepOf_any m w7).mono ?_
              rintro e w8 ⟨rfl, b8⟩
              have HB8 := hide ((unhide HB7).trans (b8.mono (unhide HB7).size))
              have hown := ownsRow_on (unhide HO7) b8
              have hz8 := (unhide HB8).size
              clear b8 HB7 HO7 hrun
              unfold stepV
              go_wp2_with (first
                | (at_builtin; refine wpList_append_own _ rfl _ _ 29 rfl w4.heap.size 50 i0 (.agg #[.int .i64 0, .int .i64 0, .int .i64 0]) 3 24 Tryz.underlying29 hi hz0 hz1 hz2 rfl (by decide) _ _ _ rfl (hown.alloc _) ⟨w8.heap.size, 0, none⟩ 1 1 (stepVs [m.step]) rfl rfl ?cc1 ?cc2 ?cc3 ?cc4 ?cc5 ?_))
              case cc1 =>
                intro j u hj
                match j, hj with
                | 0, hj => simp [stepVs] at hj; subst hj; simp [Addr.add]
                | 1, hj => simp [stepVs] at hj; subst hj; simp [Addr.add]
                | 2, hj => simp [stepVs] at hj; subst hj; simp [Addr.add]
              case cc2 => intro u hu; simp [stepVs] at hu; rcases hu with rfl | rfl | rfl <;> rfl
              case cc3 => unfold maxLen; omega
              case cc4 => omega
              case cc5 => simp; omega
              intro v' w9 hown' hgrow _
              have hb9 := ((unhide HB8).alloc (by omega) (.cells #[.int .i64 m.step.kind, .int .i64 m.step.inn, .int .i64 m.step.out] 50)).grown hgrow (by simp; omega) (fun j hj => (World.ownsRow.lt hown j hj).1)
              have HO9 : Hid (w9.ownsRow w4.heap.size 50 3 v' (done ++ [m.step]).length (stepVs (done ++ [m.step]))) := by
                show World.ownsRow _ _ _ _ _ _ _
                have es : stepVs (done ++ [m.step]) = stepVs done ++ stepVs [m.step] := by simp [stepVs]
                rw [es]
                simpa using hown'
              have HB9 := hide hb9
              clear hown hown' hgrow hb9 HB8
              go_wp2_with fail
              go_roundg g
              case measure => omega
              case rel => exact ⟨lo, done ++ [m.step], rfl, rfl, HGLO, HE, by show _ ≤ _; have := unhide HLE; simp; omega, HO9, HB9⟩

end Go.Proofs.YthkhaemlcmkkjasGreat

namespace Go.Proofs.YthkhaemlcmkkjasGreat
set_option linter.unusedVariables false
set_option linter.unusedSimpArgs false
open Go.RowKit Go.Deep Go.Maps

def backG (l : List PackD) (room : Int) (s : Nat) (m : MvD) : Nat × Bool := (wasN s m, backB l room s m)
theorem pred_eq {l : List PackD} {room : Int} {s : Nat} (hs : GoodS l room s) : predB l room s = ((movesL l).filter (fun m => (backG l room s m).2)).map (fun m => (backG l room s m).1) := by
  unfold predB
  rw [if_pos ⟨hs.l8, hs.1, hs.repo⟩]
  rfl
theorem enter_back (V x y : Value) (W : World) : Sem.run Tryz.prog (callFunc 22 #[V, x, y]) W = Result.ok (Next.enter 22 #[V, x, y]) W := by kernel_rfl
theorem backRows_any (l : List PackD) (room : Int) (V : Value) (Z : Nat) (hokl : OkL l) (hg : GoodS l room Z) (w : World) (h : Stock w V l room) :
    Calls Tryz.prog 21 #[V, .int .u64 (Z : Int), .func (.func 22) #[V] #[]] w fun e w' => (∃ bm, e = .returned (.map (some bm)) ∧ w.heap.size ≤ bm ∧ ∃ n, FarMap w' bm n (farF (predB l room) Z)) ∧ Below w.heap.size w w' := by
  refine rowsFrom_any l room V (backG l room) (GoodS l room) (predB l room) Z hokl.l8 ?_ ?_ ?_ ?_ 22 ?_ w h ?_ hg
  · exact fun s hs => hs.lt
  · exact fun s hs => pred_eq hs
  · exact fun s _ t ht => (pred_good s t ht).1
  · exact fun s => pred_lt l room s
  · exact fun x y W => enter_back V x y W
  · intro s hs m hm x hx
    exact back_any l room V s m (Nat.lt_trans hs.lt (by decide)) hs.pl (moves_within hokl.l8 hm) hokl x (h.on hx)

end Go.Proofs.YthkhaemlcmkkjasGreat

namespace Go.Proofs.YthkhaemlcmkkjasGreat
set_option linter.unusedVariables false
set_option linter.unusedSimpArgs false
open Go.RowKit Go.Deep Go.Maps

/-- What PlanFind answers, in memory. -/
def FindOut (B : Nat) (w' : World) (o : Option (List StepD)) (e : Ending) : Prop := ∃ v, e = .returned (.tuple #[v, .bool o.isSome]) ∧ w'.ownsRow B 50 3 v (o.getD []).length (stepVs (o.getD []))
theorem FindOut.none (B : Nat) (w : World) {o : Option (List StepD)} (h : o = none) : FindOut B w o (.returned (.tuple #[.slice none 0 0, .bool false])) := by
  subst h
  exact ⟨_, rfl, World.ownsRow_nil _ _ _ _⟩

set_option maxRecDepth 100000 in
set_option maxHeartbeats 8000000 in
theorem implPlanFind_any (a : Option Addr) (l : List PackD) (cap : Nat) (room : Int) (sa : Option Addr) (set : List Int) (sc : Nat) (ta : Option Addr) (dst : List Int) (tc : Nat) (w : World) (h : PacksAt (Old w) w a l) (hs : SetAt w sa set) (ht : SetAt w ta dst) :
    Calls Tryz.prog 6 #[.agg #[.slice a l.length cap, .int .i64 room], .slice sa set.length sc, .slice ta dst.length tc] w fun e w' => FindOut w.heap.size w' (findZ l room set dst) e ∧ Below w.heap.size w w' := by
  have b1 := (Below.refl w.heap.size w).alloc (Nat.le_refl _) (.cells #[.slice a l.length cap, .int .i64 room] 25)
  have HC := hide (inHealth_any a l cap room sa set sc _ (h.on b1) (hs.on b1))
  have HP := hide h
  have HT := hide ht
  clear h hs ht
  go_enter Tryz.func6, Tryz.ntmps6
  go_upto_region 1 with fail
  obtain ⟨w1, hw1⟩ : ∃ w1, w1 = w.alloc (.cells #[.slice a l.length cap, .int .i64 room] 25) := ⟨_, rfl⟩
  rw [← hw1] at b1 HC ⊢
  have y0 : w1.cell? ⟨w.heap.size, 0, none⟩ = some (.slice a l.length cap) := by rw [hw1]; simp
  have y1 : w1.cell? ⟨w.heap.size, 1, none⟩ = some (.int .i64 room) := by rw [hw1]; simp
  have z1 : w.heap.size < w1.heap.size := by rw [hw1]; simp
  have HB1 := hide b1
  clear hw1 b1
  go_wp2_with fail
  refine (unhide HC).mono ?_
  rintro e w2 ⟨⟨xa, xn, xc, ro, mp, ya, yn, yc, n, rfl, hst⟩, b2⟩
  have HB2 := hide ((unhide HB1).trans (b2.mono (unhide HB1).size))
  rw [← b2.cell (p := ⟨w.heap.size, _, none⟩) z1] at y0 y1
  have z2 : w.heap.size < w2.heap.size := Nat.lt_of_lt_of_le z1 b2.size
  have HSTK := hide hst
  clear b2 HC HB1 z1 hst
  obtain ⟨w3, hw3⟩ : ∃ w3, w3 = w2.alloc (.cells #[.slice xa xn xc, .int .i64 ro, .map mp, .slice ya yn yc] 54) := ⟨_, rfl⟩
  have b3 : Below w2.heap.size w2 w3 := by rw [hw3]; exact (Below.refl _ _).alloc (Nat.le_refl _) _
  have k0 : w3.cell? ⟨w2.heap.size, 0, none⟩ = some (.slice xa xn xc) := by rw [hw3]; simp
  have k1 : w3.cell? ⟨w2.heap.size, 1, none⟩ = some (.int .i64 ro) := by rw [hw3]; simp
  have k2 : w3.cell? ⟨w2.heap.size, 2, none⟩ = some (.map mp) := by rw [hw3]; simp
  have k3 : w3.cell? ⟨w2.heap.size, 3, none⟩ = some (.slice ya yn yc) := by rw [hw3]; simp
  have z3 : w2.heap.size < w3.heap.size := by rw [hw3]; simp
  have HB3 := hide ((unhide HB2).trans (b3.mono (unhide HB2).size))
  have HB23 := hide b3
  rw [← b3.cell (p := ⟨w.heap.size, _, none⟩) z2] at y0 y1
  have HC2 := hide (inHealth_any a l cap room ta dst tc w3 ((unhide HP).on (unhide HB3)) ((unhide HT).on (unhide HB3)))
  clear b3 HB2
  go_upto_region 2 with fail
  rw [← hw3]
  clear hw3
  go_wp2_with fail
  refine (unhide HC2).mono ?_
  rintro e w4 ⟨⟨xa', xn', xc', ro', mp', ya', yn', yc', n', rfl, hst'⟩, b4⟩
  have HB4 := hide ((unhide HB3).trans (b4.mono (unhide HB3).size))
  have HB24 := hide ((unhide HB23).trans (b4.mono (unhide HB23).size))
  rw [← b4.cell (p := ⟨w2.heap.size, _, none⟩) z3] at k0 k1 k2 k3
  have z4 : w2.heap.size < w4.heap.size := Nat.lt_of_lt_of_le z3 b4.size
  have HSTK' := hide hst'
  clear b4 HC2 HB3 HB23 y0 y1 z2 z3 hst'
  obtain ⟨w5, hw5⟩ : ∃ w5, w5 = w4.alloc (.cells #[.slice xa' xn' xc', .int .i64 ro', .map mp', .slice ya' yn' yc'] 54) := ⟨_, rfl⟩
  have b5 : Below w4.heap.size w4 w5 := by rw [hw5]; exact (Below.refl _ _).alloc (Nat.le_refl _) _
  have HB5 := hide ((unhide HB4).trans (b5.mono (unhide HB4).size))
  have HB25 := hide ((unhide HB24).trans (b5.mono (unhide HB24).size))
  rw [← b5.cell (p := ⟨w2.heap.size, _, none⟩) z4] at k0 k1 k2 k3
  have z5 : w2.heap.size < w5.heap.size := Nat.lt_of_lt_of_le z4 b5.size
  clear b5 HB4 HB24 z4
  go_upto_region 3 with fail
  rw [← hw5]
  clear hw5
  cases hok : okZ l room set with
  | false =>
    have HE := hide (show findZ l room set dst = none by unfold findZ; rw [hok, Bool.false_and, if_neg (by decide)])
    clear hok HSTK HSTK'
    go_wp2_with fail
    exact bodyPost_ret (v := .tuple #[.slice none 0 0, .bool false]) (by simp [results, Tryz.results6, go_sem]) rfl ⟨FindOut.none _ _ (unhide HE), unhide HB5⟩
  | true =>
    cases hok' : okZ l room dst with
    | false =>
      have HE := hide (show findZ l room set dst = none by unfold findZ; rw [hok, hok', Bool.and_false, if_neg (by decide)])
      clear hok hok' HSTK HSTK'
      go_wp2_with fail
      exact bodyPost_ret (v := .tuple #[.slice none 0 0, .bool false]) (by simp [results, Tryz.results6, go_sem]) rfl ⟨FindOut.none _ _ (unhide HE), unhide HB5⟩
    | true =>
      obtain ⟨rfl, hstk⟩ := unhide HSTK hok
      obtain ⟨rfl, _⟩ := unhide HSTK' hok'
      have hg1 := (good_of hok).1
      have hg2 := (good_of hok').1
      have HEZ := hide (show findZ l room set dst = if distB l room (setBits set) (setBits dst) = 0 then none else some (planTo l room (setBits dst) (distB l room (setBits set) (setBits dst) - 1) (setBits set)) by unfold findZ; rw [hok, hok', Bool.and_self, if_pos rfl])
      have HST5 := hide (hstk.on (unhide HB25))
      have hokl := form_ok (okz_form hok)
      clear hok hok' hstk HSTK HSTK'
      generalize setBits set = A at *
      generalize setBits dst = Z at *
      have hA256 := hg1.lt
      have hZ256 := hg2.lt
      have HRF := hide (backRows_any l room (.agg #[.slice xa xn xc, .int .i64 ro, .map mp, .slice ya yn yc]) Z hokl hg2 w5 (unhide HST5))
      have HG1 := hide hg1
      have HOKL := hide hokl
      clear hg1 hg2 hokl
      go_wp2_with fail
      refine (unhide HRF).mono ?_
      rintro e w6 ⟨⟨bm, rfl, hbm, nn, hfm⟩, b6⟩
      have HB6 := hide ((unhide HB5).trans (b6.mono (unhide HB5).size))
      have HST6 := hide ((unhide HST5).on b6)
      rw [← b6.cell (p := ⟨w2.heap.size, _, none⟩) z5] at k0 k1 k2 k3
      have hdb : ∀ s, GoodS l room s → farF (predB l room) Z s = distB l room s Z := fun s hs => dist_back hs
      have HDB := hide hdb
      have HFM := hide hfm
      obtain ⟨D, hD, hat⟩ := hfm
      have hkey := key_bits (s := A) (by omega)
      obtain ⟨c, hrun, hat2, hwc⟩ := hD.lookup_int lawBits Tryz.underlying59 Tryz.underlying3 (zeroInt _) hkey
      have hct : c = ((distB l room A Z : Nat) : Int) := by
        have := hat A (by omega)
        rw [hat2, hdb A (unhide HG1)] at this
        simpa using this
      clear b6 HRF HB5 HST5 z5 hat hat2 hwc hD hkey hdb hbm
      by_cases hd0 : distB l room A Z = 0
      · have hc0 : (c == 0) = true := by rw [hct, hd0]; rfl
        have HE := hide (show findZ l room set dst = none by rw [unhide HEZ, if_pos hd0])
        clear hd0 hct HEZ
        go_wp2_with fail
        exact bodyPost_ret (v := .tuple #[.slice none 0 0, .bool false]) (by simp [results, Tryz.results6, go_sem]) rfl ⟨FindOut.none _ _ (unhide HE), unhide HB6⟩
      · have hc0 : (c == 0) = false := by rw [beq_eq_false_iff_ne, hct]; omega
        have HE := hide (show findZ l room set dst = some (planTo l room Z (distB l room A Z - 1) A) by rw [unhide HEZ, if_neg hd0])
        have HDE := hide (descent_any l room (.agg #[.slice xa xn xc, .int .i64 ro, .map mp, .slice ya yn yc]) Z A bm nn (farF (predB l room) Z) (unhide HDB) (unhide HOKL) (unhide HG1) (distB l room A Z - 1) (by rw [unhide HDB A (unhide HG1)]; omega) w6 (unhide HST6) (unhide HFM))
        clear hd0 hct HEZ
        generalize planTo l room Z (distB l room A Z - 1) A = PL at HE HDE
        go_wp2_with fail
        refine (unhide HDE).mono ?_
        rintro e w7 ⟨⟨v, rfl, hrow⟩, b7⟩
        have hz6 := (unhide HB6).size
        have HB7 := hide ((unhide HB6).trans (b7.mono hz6))
        have HRW := hide (row_down hrow hz6)
        obtain ⟨qa, qc, hq⟩ : ∃ qa qc, v = .slice qa PL.length qc := by
          rcases hrow.2 with ⟨hv, h0⟩ | ⟨g, cap, cur, hv, _⟩
          · exact ⟨none, 0, by rw [hv, h0]⟩
          · exact ⟨_, _, hv⟩
        subst hq
        clear hrow b7 HDE HB6
        go_wp2_with fail
        refine bodyPost_ret (v := .tuple #[.slice qa PL.length qc, .bool true]) (by simp [results, Tryz.results6, go_sem]) rfl ⟨⟨_, by rw [unhide HE]; rfl, ?_⟩, unhide HB7⟩
        rw [unhide HE]
        exact unhide HRW
end Go.Proofs.YthkhaemlcmkkjasGreat
