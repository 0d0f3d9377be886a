/- DrawSatProof: drawn clauses, and what may be a refutation of them. -/
import Derived.Test.YthkhaemlcmkkjarSpA
import Derived.Test.YthkhaemlcmkkjarGReg
import Derived.Test.YthkhaemlcmkkjarGGrow
import Derived.Maps.AppendAt
import Derived.Deep.QuietTactic
import Derived.BigQuiet
namespace Go.Proofs.Ythkhaemlcmkkjar
set_option linter.unusedVariables false
set_option linter.unusedSimpArgs false
open Go.RowKit Go.Deep

/-- Rows of which one is left out. -/
def RLess (s : Nat) (p q : List Value) (us : List Value) (x : World) : Prop :=
  (∀ y, us = [y] → x.ownsRow s 26 1 y 0 []) ∧ (∀ y z, us = [y, z] → x.ownsRow s 26 1 z p.length p) ∧ ∀ y z u, us = [y, z, u] → x.ownsRow s 26 1 u (p ++ q).length (p ++ q)
theorem RLess.on {s : Nat} {p q us : List Value} {x y : World} (h : RLess s p q us x) (hb : Below x.heap.size x y) : RLess s p q us y :=
  ⟨fun a e => ownsRow_on (h.1 a e) hb, fun a b e => ownsRow_on (h.2.1 a b e) hb, fun a b c e => ownsRow_on (h.2.2 a b c e) hb⟩
theorem RLess.var {s rs : Nat} {p q us : List Value} {x y : World} (h : RLess s p q us x) (hg : x.grownBy y (some rs)) (hr : rs < s) : RLess s p q us y :=
  ⟨fun a e => own_var (h.1 a e) hg hr, fun a b e => own_var (h.2.1 a b e) hg hr, fun a b c e => own_var (h.2.2 a b c e) hg hr⟩
/-- A row of nothing put behind. -/
def RMore (s P : Nat) (pv : Value) (ps : List (List Int)) (qs : List Value) (us : List Value) (x : World) : Prop :=
  (us = [] → LstI P x pv ps qs) ∧ (∀ y, us = [y] → LstI P x pv ps qs ∧ RowI s x y []) ∧ (∀ y z, us = [y, z] → LstI P x pv ps qs ∧ RowI s x y [] ∧ ∃ g, z = .slice (some ⟨g, 0, none⟩) 1 1 ∧ s ≤ g ∧ x.heap[g]? = some (.cells #[y] 26 (0, 0))) ∧ ∀ y z u, us = [y, z, u] → LstI P x u (ps ++ [[]]) (qs ++ [y])
theorem RMore.on {s P : Nat} {pv : Value} {ps : List (List Int)} {qs us : List Value} {x y : World} (h : RMore s P pv ps qs us x) (hb : Below x.heap.size x y) : RMore s P pv ps qs us y :=
  ⟨fun e => (h.1 e).on hb, fun a e => ⟨(h.2.1 a e).1.on hb, ownsRow_on (h.2.1 a e).2 hb⟩, fun a b e => by
    obtain ⟨h1, h2, g, h3, h4, h5⟩ := h.2.2.1 a b e
    exact ⟨h1.on hb, ownsRow_on h2 hb, g, h3, h4, (hb.block g (Array.getElem?_eq_some_iff.1 h5).1).trans h5⟩, fun a b c e => (h.2.2.2 a b c e).on hb⟩
theorem LstI.var {B rs : Nat} {x y : World} {v : Value} {ls : List (List Int)} {vs : List Value} (h : LstI B x v ls vs) (hg : x.grownBy y (some rs)) (hr : rs < B) : LstI B y v ls vs :=
  ⟨h.len, own_var h.own hg hr, fun i hi => own_var (h.row i hi) hg hr, h.apart⟩
theorem RMore.var {s P rs : Nat} {pv : Value} {ps : List (List Int)} {qs us : List Value} {x y : World} (h : RMore s P pv ps qs us x) (hg : x.grownBy y (some rs)) (hr : rs < P) (hs : rs < s) : RMore s P pv ps qs us y :=
  ⟨fun e => (h.1 e).var hg hr, fun a e => ⟨(h.2.1 a e).1.var hg hr, own_var (h.2.1 a e).2 hg hs⟩, fun a b e => by
    obtain ⟨h1, h2, g, h3, h4, h5⟩ := h.2.2.1 a b e
    exact ⟨h1.var hg hr, own_var h2 hg hs, g, h3, h4, (hg.block g (Array.getElem?_eq_some_iff.1 h5).1 (by simp; omega)).trans h5⟩, fun a b c e => (h.2.2.2 a b c e).var hg hr⟩
/-- A row grows: it alone is another. -/
def RRow (B P rb rs : Nat) (w0 : World) (m : Int) (cb : Nat) (vars : Int) (V : Value) (ls : List (List Int)) (vs : List Value) (sg k : Nat) (U pv : Value) (ps : List (List Int)) (qs : List Value) (r : List Int) (us : List Value) (x : World) : Prop :=
  x.cell? ⟨sg, k, none⟩ = some U ∧ (us = [] → DR B rb cb rs P w0 m vars V ls vs x ∧ LstI P x pv ps qs) ∧ (∀ y, us = [y] → DR B rb cb rs P w0 (m + 20) vars V ls vs x ∧ LstI P x pv ps qs ∧ ∃ set, RowI P x y set ∧ set.length ≤ 3) ∧
  ∀ y z, us = [y, z] → DR B rb cb rs P w0 (m + 20) vars V ls vs x ∧ (∃ set, RowI P x z (r ++ set) ∧ set.length ≤ 3) ∧ x.ownsRow P 26 1 pv ps.length qs ∧ ∀ i, i < ps.length → i ≠ k → RowI P x (qs.getD i undef) (ps.getD i [])
/-- A row has grown: the others stay. -/
theorem RRow.grown {B P rb rs : Nat} {w0 : World} {m : Int} {cb : Nat} {vars : Int} {V : Value} {ls : List (List Int)} {vs : List Value} {sg k pc : Nat} {U : Value} {ps : List (List Int)} {qs : List Value} {r set : List Int} {y z : Value} {x x' : World}
    (hD : DR B rb cb rs P w0 (m + 20) vars V ls vs x) (hL : LstI P x (.slice (some ⟨sg, 0, none⟩) ps.length pc) ps qs) (hk : k < ps.length) (hU : qs.getD k undef = U) (hc : x.cell? ⟨sg, k, none⟩ = some U) (hg : x.grownBy x' U.ownBlock) (hz : RowI P x' z (r ++ set)) (hs : set.length ≤ 3) (hrb : rb < P) (hcb : cb < P) (hrs : rs < P) :
    RRow B P rb rs w0 m cb vars V ls vs sg k U (.slice (some ⟨sg, 0, none⟩) ps.length pc) ps qs r [y, z] x' := by
  have hrowk := hL.row k hk
  rw [hU] at hrowk
  have hUlt : ∀ b, U.ownBlock = some b → P ≤ b ∧ b < x.heap.size := fun b hb => hrowk.lt b hb
  have hown := hL.own
  have hne : some sg ≠ U.ownBlock := fun e => by
    rcases hown.2 with ⟨_, h0⟩ | ⟨g, cap, cur, hv, hg', hc', _⟩
    · omega
    · rcases hrowk.2 with ⟨hv2, _⟩ | ⟨g2, cap2, cur2, hv2, _, hc2, _⟩
      · rw [hv2] at e; cases e
      · rw [hv2] at e
        simp only [Value.slice.injEq, Option.some.injEq, Addr.mk.injEq, true_and, and_true] at hv
        have e' : sg = g2 := by
          have : (Value.slice (some ⟨g2, 0, none⟩) (List.length r) cap2).ownBlock = some g2 := rfl
          simpa [Value.ownBlock] using e
        rw [← hv.1, e', hc2] at hc'
        simp at hc'
  have hsz := (hown.lt sg rfl).2
  have hb : Below P x x' := ⟨hg.os, hg.tape, hg.output, hg.size, fun g hgl => hg.block g (by have := hD.past; omega) (fun e => by have := (hUlt g e.symm).1; omega)⟩
  have keep : ∀ {e : TypeId} {u : Value} {n : Nat} {xs : List Value}, x.ownsRow P e 1 u n xs → (∀ b, U.ownBlock = some b → u.ownBlock ≠ some b) → x'.ownsRow P e 1 u n xs := fun {e u n xs} ho hu => by
    refine ⟨ho.1, ho.2.imp id ?_⟩
    rintro ⟨g, cap, cur, hv, hB, hc', rest⟩
    refine ⟨g, cap, cur, hv, hB, (hg.block g (Array.getElem?_eq_some_iff.1 hc').1 (fun e2 => ?_)).trans hc', rest⟩
    exact hu g e2.symm (by rw [hv]; rfl)
  refine ⟨(World.cell?_of_block (w := x) (a := ⟨sg, k, none⟩) (hg.block sg hsz hne)).trans hc, (fun h => by cases h), (fun _ h => by cases h), fun y' z' h => ?_⟩
  cases h
  refine ⟨hD.far hb hrb hcb hrs, ⟨set, hz, hs⟩, keep hown (fun b hb2 e => hne (by rw [hb2]; exact e)), fun i hi hik => keep (hL.row i hi) (fun b hb2 e => ?_)⟩
  rcases Nat.lt_or_ge i k with h1 | h1
  · rcases hL.apart i k h1 hk with h2 | h2
    · rw [h2] at e; cases e
    · rw [hU, hb2] at h2; exact h2 e
  · rcases hL.apart k i (by omega) hi with h2 | h2
    · rw [hU, hb2] at h2; cases h2
    · rw [hU, hb2] at h2; exact h2 e.symm
theorem RowI.setN {B g : Nat} {x : World} {v : Value} {l : List Int} {C : Array Value} (h : RowI B x v l) (hl : l.length ≤ 1048576) (hg : x.heap[g]? = some (.cells C 26 (0, 0))) : ∃ a c, v = .slice a l.length c ∧ SetB B x a l ∧ ∀ b o, a = some ⟨b, o, none⟩ → l ≠ [] → b ≠ g := by
  obtain ⟨a, c, e, hs⟩ := h.setB hl
  refine ⟨a, c, e, hs, fun b o ea hne e2 => ?_⟩
  rcases h.2 with ⟨hv, h0⟩ | ⟨g', cap, cur, hv, hB, hc, _⟩
  · exact hne (List.length_eq_zero_iff.1 h0)
  · rw [e, ea] at hv
    simp only [Value.slice.injEq, Option.some.injEq, Addr.mk.injEq] at hv
    obtain ⟨⟨hb, _⟩, _⟩ := hv
    subst hb
    subst e2
    rw [hg] at hc
    simp at hc
/-- One of the rows is another one. -/
theorem clsB_set {P g cap k : Nat} {x : World} {ps : List (List Int)} {qs : List Value} {u : Value} {r : List Int} (ho : x.ownsRow P 26 1 (.slice (some ⟨g, 0, none⟩) ps.length cap) ps.length qs) (hk : k < ps.length) (hlen : qs.length = ps.length) (hl : ps.length ≤ 1048576)
    (hrow : ∀ i, i < ps.length → i ≠ k → ∃ a' c', qs.getD i undef = .slice a' (ps.getD i []).length c' ∧ SetB P x a' (ps.getD i []) ∧ ∀ b o, a' = some ⟨b, o, none⟩ → ps.getD i [] ≠ [] → b ≠ g)
    (hu : ∃ a' c', u = .slice a' r.length c' ∧ SetB P x a' r ∧ ∀ b o, a' = some ⟨b, o, none⟩ → r ≠ [] → b ≠ g) : ClsB P (x.setCell ⟨g, k, none⟩ u) (some ⟨g, 0, none⟩) (ps.set k r) ∧ (x.setCell ⟨g, k, none⟩ u).heap.size = x.heap.size := by
  have hz : (x.setCell ⟨g, k, none⟩ u).heap.size = x.heap.size := nblk_setCell _ _ _
  refine ⟨?_, hz⟩
  have hlt := ho.lt g rfl
  have hS : ∀ {a' : Option Addr} {l : List Int}, SetB P x a' l → (∀ b o, a' = some ⟨b, o, none⟩ → l ≠ [] → b ≠ g) → SetB P (x.setCell ⟨g, k, none⟩ u) a' l := fun {a' l} h hne => by
    refine ⟨h.1, h.2.imp id fun ⟨b, o, e, hP, h1, h2⟩ => ⟨b, o, e, hP, by omega, fun i hi => ?_⟩⟩
    rw [World.cell?_of_block (w := x) (a := ⟨b, o + i, none⟩) (blk_setCell_other _ _ _ _ (hne b o e (fun e0 => by rw [e0] at hi; simp at hi)))]
    exact h2 i hi
  refine ⟨by simpa using hl, .inr ⟨g, 0, rfl, hlt.1, by omega, fun i hi => ?_⟩⟩
  rw [List.length_set] at hi
  have hcell := World.ownsRow.cellAt ho i (by omega)
  have hiq : i < qs.length := by omega
  rw [Nat.zero_add]
  by_cases e : i = k
  · subst e
    obtain ⟨a', c', e1, e2, e3⟩ := hu
    have hg2 : (ps.set i r).getD i [] = r := by simp [List.getD, hi]
    rw [hg2]
    refine ⟨a', c', ?_, hS e2 e3⟩
    rw [← e1]
    have hcs : ∃ v, x.cell? ⟨g, i, none⟩ = some v := ⟨_, by rw [hcell]; exact List.getElem?_eq_getElem hiq⟩
    obtain ⟨v, hv⟩ := hcs
    exact World.cell?_setCell_same _ _ _ hv
  · obtain ⟨a', c', e1, e2, e3⟩ := hrow i hi e
    have hg2 : (ps.set k r).getD i [] = ps.getD i [] := by simp [List.getD, List.getElem?_set, Ne.symm e]
    rw [hg2]
    refine ⟨a', c', ?_, hS e2 e3⟩
    rw [World.cell?_setCell_other _ _ _ _ (by intro h; apply e; simpa using h.symm), hcell, ← e1]
    simp [List.getD, hiq]

set_option maxRecDepth 100000 in
set_option maxHeartbeats 16000000 in
theorem DrawSatProof_V (a : Option Addr) (n c : Nat) (w : World) (h : CodeAt w.heap.size w a n) (hn : n ≤ 1048576) (hc : n ≤ c) (hc2 : c ≤ maxLen) :
    Calls Try.prog 16 #[.slice a n c] w fun e w' => DrawnProof w' e ∧ Below w.heap.size w w' := by
  obtain ⟨i0, hi, hz0, hz1, hz2⟩ := info_parts Try.infoLL
  obtain ⟨i1, hj, hy0, hy1, hy2⟩ := info_parts Try.infoJ
  have b0 := (Below.refl w.heap.size w).alloc (Nat.le_refl _) (.cells #[.int .i64 0, .slice none 0 0] 41)
  have hcode := h.below b0 (Nat.le_refl _)
  have HF0 := hide (show (w.alloc (.cells #[.int .i64 0, .slice none 0 0] 41)).heap[w.heap.size]? = some (cnfCells 0 (.slice none 0 0)) from blk_alloc_new _ _)
  go_enter Try.func16, Try.ntmps16
  go_wp2_with fail
  refine (l6Open_any a n c _ hcode hn hc hc2).mono ?_
  rintro e w1 ⟨rfl, R1, b1⟩
  simp only [nblk_alloc] at R1 b1
  have hz1' := b1.size
  simp at hz1'
  have res1 := (b1.block w.heap.size (by omega)).trans (unhide HF0)
  have B1 : Below w.heap.size w w1 := b0.trans (b1.mono (by omega))
  have hrl := R1.lt
  clear b0 b1 hcode HF0 h
  go_wp2_with fail
  refine (l71Cnf_V (w.heap.size + 1) (w.heap.size + 1) 0 _ R1 (by omega)).mono ?_
  rintro e w2 ⟨⟨vars, v, ls, vs, rfl, hL, hll, hsh⟩, R2, W2⟩
  obtain ⟨va, vc, hv⟩ := hL.slice
  subst hv
  have hz2' := W2.size
  have res2 := W2.blk res1 cnfNoRd
  have B2 := B1.trans (W2.bel (B' := w.heap.size) (by omega) (by omega))
  have bp := (Below.refl w2.heap.size w2).alloc (Nat.le_refl _) (.cells #[.int .i64 vars, .slice va ls.length vc] 41)
  have hcl : (w2.alloc (.cells #[.int .i64 vars, .slice va ls.length vc] 41)).heap[w2.heap.size]? = some (cnfCells vars (.slice va ls.length vc)) := blk_alloc_new _ _
  have hsz3 : (w2.alloc (.cells #[.int .i64 vars, .slice va ls.length vc] 41)).heap.size = w2.heap.size + 1 := by simp
  have hLlt : (∀ j, (Value.slice va ls.length vc).ownBlock = some j → j < w2.heap.size) ∧ ∀ i j, i < ls.length → (vs.getD i undef).ownBlock = some j → j < w2.heap.size := ⟨fun j hj => (World.ownsRow.lt hL.own j hj).2, hL.lt⟩
  have hD3 : DR (w.heap.size + 1) (w.heap.size + 1) w2.heap.size w.heap.size (w2.heap.size + 1) w (0 + 400) vars (.slice va ls.length vc) ls vs (w2.alloc (.cells #[.int .i64 vars, .slice va ls.length vc] 41)) :=
    ⟨R2.below bp, B2.trans (bp.mono (by omega)), hcl, (bp.block _ (by omega)).trans res2, lst_lowD (hL.on bp) (by omega), fun j hj => by have := hLlt.1 j hj; omega, fun i j hi hj => by have := hLlt.2 i j hi hj; omega, by omega⟩
  have HD3 := hide hD3
  have HSH := hide hsh
  obtain ⟨va', vc', hv', hcls⟩ := (unhide HD3).rows.cls (by omega) hsh
  simp only [Value.slice.injEq, true_and] at hv'
  obtain ⟨rfl, rfl⟩ := hv'
  have HC3 := hide hcls
  obtain ⟨kz, mz, p, hr⟩ : ∃ kz mz p, satZ vars ls 200 = (kz, mz, p) := ⟨_, _, _, rfl⟩
  obtain ⟨_, sm2, sm3, _, _, _⟩ := sat_small hr
  have HS3 := hide sm3
  have HSF := hide (specSatFind_any vars va ls vc 200 _ (unhide HC3))
  rw [hr] at HSF
  obtain ⟨x0, x1, xf⟩ := two hcl
  have hcbl : w.heap.size + 1 < w2.heap.size := by omega
  clear R1 W2 res1 B1 hL R2 res2 B2 bp hsh hcls hD3 hLlt hr sm3 HC3 xf hcl
  go_upto_region 3 with fail
  generalize w2.alloc (.cells #[.int .i64 vars, .slice va ls.length vc] 41) = w3 at HD3 HSF hsz3 x0 x1 ⊢
  generalize w2.heap.size = cb at HD3 hcbl hsz3 x0 x1 ⊢
  go_wp2_with fail
  refine (unhide HSF).mono ?_
  rintro e w4 ⟨⟨mv, pv, qs, rfl, hm4, hp4⟩, b4⟩
  rw [hsz3] at b4 hp4
  obtain ⟨pa, pc, hpv⟩ := hp4.slice
  subst hpv
  have HD4 := hide ((unhide HD3).far b4 (by omega) (by omega) (by omega))
  have HP4 := hide hp4
  clear HSF HD3 hm4 hp4 b4 x0 x1 hsz3 hrl hz1' hz2'
  have hP0 : w.heap.size < cb + 1 := by omega
  by_cases hp0 : p.length = 0
  · have hpn : p = [] := List.length_eq_zero_iff.1 hp0
    subst hpn
    go_wp2_with fail
    refine (pick_any (w.heap.size + 1) (w.heap.size + 1) _ 3 _ (unhide HD4).rd (by omega) (by omega) (by omega)).mono ?_
    rintro e w5 ⟨⟨j, rfl, j0, j1⟩, R5, W5⟩
    have HD5 := hide ((unhide HD4).picked R5 W5 (by omega))
    have HP5 := hide ((unhide HP4).wrote W5)
    clear HD4 HP4 R5 W5
    obtain ⟨j, rfl⟩ : ∃ n : Nat, j = n := ⟨j.toNat, by omega⟩
    go_wp2_with fail
    go_loopw [8, 10] (fun v i wr => ∃ (k : Nat) (ps : List (List Int)) (qs' : List Value), k + ps.length ≤ 3 ∧ i = .int .i64 k ∧ Hid (LstI (cb + 1) wr v ps qs') ∧ Hid (∀ c, c ∈ ps → c.length ≤ 3) ∧ Hid (DR (w.heap.size + 1) (w.heap.size + 1) cb w.heap.size (cb + 1) w (0 + 400 + 1 + 20 * ps.length) vars (.slice va ls.length vc) ls vs wr)) (fun _ i _ => (intOf i).toNat)
    case atStart => exact ⟨j, [], qs, by simp; omega, rfl, HP5, (fun c hc => by cases hc), (unhide HD5).more (by simp)⟩
    case round =>
      rename World => wo
      obtain ⟨k, ps, qs', hk, rfl, HL, HSR, HD⟩ := hrel
      clear HD5 HP5
      obtain ⟨qa, qc, hqv⟩ := (unhide HL).slice
      subst hqv
      have hpast := (unhide HD).past
      by_cases hk0 : 0 < k
      · have hk1 : (0 : Int) < (k : Int) := by omega
        go_wp2_with fail
        refine (l71Lits_N (w.heap.size + 1) (w.heap.size + 1) _ 3 _ (unhide HD).rd (by omega) (by omega) (by omega)).mono ?_
        rintro e w6 ⟨⟨u, rfl, set, hset, hsl⟩, hR, hW⟩
        have HLT := hide (unhide HL).lt
        have HD6 := hide ((unhide HD).picked hR hW (by omega))
        have HL6 := hide ((unhide HL).wrote hW)
        obtain ⟨ua, uc, hu, _⟩ := RowI.set hset (by omega)
        subst hu
        have HS6 := hide hset
        have hz6 := hW.size
        clear HD HL hR hW hset
        have hown := (unhide HL6).own
        have ba := (Below.refl w6.heap.size w6).alloc (Nat.le_refl _) (.cells #[.slice ua set.length uc] 26)
        have HBA := hide ba
        clear ba
        go_wp2_with (first
          | (at_builtin; refine wpList_append_own _ rfl _ _ 39 rfl (cb + 1) 26 i0 (.slice none 0 0) 1 24 Try.underlying39 hi hz0 hz1 hz2 rfl (by decide) _ _ _ rfl (hown.alloc _) ⟨w6.heap.size, 0, none⟩ 1 1 [.slice ua set.length uc] rfl rfl ?da1 ?da2 ?da3 ?da4 ?da5 ?_))
        case da1 =>
          intro j u hj
          match j, hj with
          | 0, hj => simp at hj; subst hj; simp [Addr.add]
        case da2 => intro u hu; simp at hu; subst hu; rfl
        case da3 => unfold maxLen; omega
        case da4 => omega
        case da5 => simp; omega
        intro v' w7 hown' hgrow _
        have hn := LstI.snoc (v' := v') (w' := w7) ((unhide HL6).on (unhide HBA)) (ownsRow_on (unhide HS6) (unhide HBA)) hpast (unhide HLT) (by simpa using hown') hgrow
        have HL7 := hide hn
        have HD7 := hide ((unhide HD6).far (y := w7) ⟨hgrow.os, hgrow.tape, hgrow.output, Nat.le_trans (unhide HBA).size hgrow.size, fun g hg => (hgrow.block g (by simp; omega) (fun e => by have := (World.ownsRow.lt hown g e.symm).1; omega)).trans ((unhide HBA).block g (by omega))⟩ (by omega) (by omega) (by omega))
        obtain ⟨qa', qc', hqv'⟩ := hn.slice
        rw [show (ps ++ [set]).length = ps.length + 1 by simp] at hqv'
        subst hqv'
        have HSR7 := hide (fun c (hc : c ∈ ps ++ [set]) => show c.length ≤ 3 by
          rcases List.mem_append.1 hc with hc | hc
          · exact unhide HSR c hc
          · rw [List.mem_singleton] at hc; rw [hc]; exact hsl)
        clear hown hown' hgrow hn HL6 HD6 HS6 HSR HLT HBA
        go_wp2_with fail
        go_roundw
        case rel => exact ⟨k - 1, ps ++ [set], _, by simp; omega, by go_num, HL7, HSR7, (unhide HD7).more (by simp; omega)⟩
        case measure => simp [intOf]; omega
      · have hk1 : ¬ (0 : Int) < (k : Int) := by omega
        obtain ⟨x0, x1, xf⟩ := two (unhide HD).cell
        have hcbo : cb < wo.heap.size := (Array.getElem?_eq_some_iff.1 (unhide HD).cell).1
        have hresO : wo.drew.heap[w.heap.size]? = some (if false then cnfCells vars (.slice va ls.length vc) else cnfCells 0 (.slice none 0 0)) := (unhide HD).res
        have HLT := hide (unhide HL).lt
        have HC6 : Hid (CD wo (cb + 1) w.heap.size vars (.slice va ls.length vc) (RMore wo.heap.size (cb + 1) (.slice qa ps.length qc) ps qs') false [] wo.drew) := ⟨(OldB.refl _ _ _).below (Below.refl wo.heap.size _).drew hpast, hresO, ⟨fun _ => (unhide HL).on (Below.refl _ _).drew, (fun _ h => by cases h), (fun _ _ h => by cases h), (fun _ _ _ h => by cases h)⟩⟩
        clear xf hresO
        go_upto_region 19 with fail
        refine wp_region_mix (k := 5) 6 [2, 3, 4] [.agg #[.int .i64 vars, .slice va ls.length vc], .slice qa ps.length qc, undef, undef, undef, undef] (CD wo (cb + 1) w.heap.size vars (.slice va ls.length vc) (RMore wo.heap.size (cb + 1) (.slice qa ps.length qc) ps qs')) (by kernel_rfl) (by kernel_rfl) (by kernel_rfl) (by kernel_rfl) (by kernel_rfl) (by kernel_rfl) (unhide HC6) ?_ ?_ ?_
        · intro full hfull i oo hi' hns ho x fl us hC hb
          simp [putAll, slotOf, Act.put] at hfull
          subst hfull
          have y0 := (hC.keep.cell (p := ⟨cb, 0, none⟩) (by show cb < cb + 1; omega) (by show cb ≠ w.heap.size; omega)).trans x0
          have y1 := (hC.keep.cell (p := ⟨cb, 1, none⟩) (by show cb < cb + 1; omega) (by show cb ≠ w.heap.size; omega)).trans x1
          have hC0 := hC.stay (us' := us) (Below.refl _ _) hC.rows (by omega) hpast
          match i with
          | 0 => simp at ho; subst ho; simp [gwp, Region.wanted, yielded]; go_simp; first | done | exact hC0 | exact ⟨rfl, hC0⟩ | (simp; exact hC0) | (refine ⟨by simp <;> omega, hC0⟩)
          | 1 => simp at ho; subst ho; simp [gwp, Region.wanted, yielded]; go_simp; first | done | exact hC0 | exact ⟨rfl, hC0⟩ | (simp; exact hC0) | (refine ⟨by simp <;> omega, hC0⟩)
          | 2 => simp at hns
          | 3 => simp at hns
          | 4 => simp at hns
          | 5 =>
            simp at ho; subst ho; simp [gwp, Region.wanted, yielded]
            have hbf := hb rfl
            subst hbf
            have hres := hC.res
            simp only [Bool.false_eq_true, if_false] at hres
            obtain ⟨r0, r1, rf⟩ := two hres
            have rf0 := rf 0
            have rf1 := rf 1
            clear rf
            have HC9 := hide (hC.store rfl hpast (fun y hy => hC.rows.var hy (by omega) (by omega)))
            clear hC hres
            go_simp
            first | done | exact unhide HC9 | exact ⟨rfl, unhide HC9⟩ | (simp; exact unhide HC9)
          | i + 6 => omega
        · intro full hfull us j hj' oo ho x fl hC
          simp [putAll, slotOf, Act.put] at hfull
          subst hfull
          have hxs := hC.keep.size
          match us with
          | [] =>
            simp at hj'
            subst hj'
            simp at ho
            subst ho
            simp [gwp, Region.wanted, yielded, putP]
            go_simp
            have bn := (Below.refl x.heap.size x).alloc (Nat.le_refl _) (.cells #[] 3)
            refine hC.stay bn ⟨(fun h => by cases h), fun y hy => ?_, (fun y z h => by cases h), (fun y z u h => by cases h)⟩ (by omega) hpast
            cases hy
            exact ⟨(hC.rows.1 rfl).on bn, row_base (RowI.nil x) hxs⟩
          | [y] =>
            simp at hj'
            subst hj'
            simp at ho
            subst ho
            obtain ⟨hL1, hR1⟩ := hC.rows.2.1 y rfl
            obtain ⟨ya, yc, hy, _⟩ := RowI.set hR1 (by simp)
            subst hy
            have bn := (Below.refl x.heap.size x).alloc (Nat.le_refl _) (.cells #[.slice ya ([] : List Int).length yc] 26)
            have hCN := hC.stay (us' := [.slice ya ([] : List Int).length yc, .slice (some ⟨x.heap.size, 0, none⟩) 1 1]) bn ⟨(fun h => by cases h), (fun y h => by cases h), (fun y z h => by
              cases h
              exact ⟨hL1.on bn, ownsRow_on hR1 bn, x.heap.size, rfl, hxs, blk_alloc_new _ _⟩), (fun y z u h => by cases h)⟩ (by omega) hpast
            have HCN := hide hCN
            clear hC hCN hL1 hR1 bn
            simp [gwp, Region.wanted, yielded, putP, slotOf, Act.put]
            go_simp
            first | done | exact unhide HCN | (simp; exact unhide HCN)
          | [y, z] =>
            simp at hj'
            subst hj'
            simp at ho
            subst ho
            obtain ⟨hL1, hR1, g, hzv, hg, hgc⟩ := hC.rows.2.2.1 y z rfl
            subst hzv
            have hown := hL1.own
            obtain ⟨v', w', hr, h2, h3, _, _⟩ := run_append_own_at (P := Try.prog) (w := x) (cb + 1) 39 39 26 i0 (.slice none 0 0) 1 24 Try.underlying39 hi hz0 hz1 hz2 rfl (by decide) _ ps.length qs' hown ⟨g, 0, none⟩ 1 1 [y] rfl (fun j u hju => by
              match j, hju with
              | 0, hju => simp at hju; subst hju; simp [Addr.add, World.cell?, hgc]) (fun u hu => by
              simp at hu
              subst hu
              obtain ⟨ya, yc, hy, _⟩ := RowI.set hR1 (by simp)
              rw [hy]; rfl) (by unfold maxLen; omega) (by omega) (by omega)
            simp only [gwp, Region.wanted, yielded, if_true]
            refine wp_append_runV _ _ 39 rfl (.slice qa ps.length qc) (.slice (some ⟨g, 0, none⟩) 1 1) v' w' ?_ ?_ hr ⟨v', rfl, hC.grow h3 (fun j hj => (World.ownsRow.lt hown j hj).1) ⟨(fun h => by cases h), (fun y h => by cases h), (fun a z h => by cases h), fun a b u h => ?_⟩ (by omega) hpast⟩
            · simp [putP, slotOf, Act.put, Act.eval]
            · simp [putP, slotOf, Act.put, Act.eval]
            · cases h
              exact LstI.snoc hL1 hR1 hpast (unhide HLT) (by simpa using h2) h3
          | _ :: _ :: _ :: _ => simp at hj'
        intro full hfull us x hus hC
        simp [putAll, slotOf, Act.put] at hfull
        subst hfull
        match us, hus with
        | [y, z, u], _ =>
        have hC' : CD wo (cb + 1) w.heap.size vars (.slice va ls.length vc) (RMore wo.heap.size (cb + 1) (.slice qa ps.length qc) ps qs') true [y, z, u] x := hC
        have hLF := hC'.rows.2.2.2 y z u rfl
        have hres := hC'.res
        simp only [if_true] at hres
        obtain ⟨q0, q1, _⟩ := two hres
        have hpl : (ps ++ [([] : List Int)]).length ≤ 4 := by simp; omega
        obtain ⟨oa, oc, hu, c1, c2, c3, hcb⟩ := hLF.clsB (by omega) (fun c hc => by
          rcases List.mem_append.1 hc with hc | hc
          · have := unhide HSR c hc; omega
          · rw [List.mem_singleton] at hc; rw [hc]; simp)
        subst hu
        have HF := hide ((unhide HD).fin2 hP0 (y := x) hC'.keep hll (unhide HSH) hcb c1 c2 c3 (by omega))
        generalize ps ++ [([] : List Int)] = ps2 at HF
        clear hC hC' hLF hres hcb
        simp [putP, slotOf, Act.put]
        go_wp2_with fail
        obtain ⟨f1, f2⟩ := unhide HF
        exact bodyPost_ret (v := .tuple #[.agg #[.int .i64 vars, .slice va ls.length vc], .slice oa ps2.length oc]) (by simp [results, Try.results16, go_sem, q0, q1]) rfl ⟨f1, f2⟩
  · have hp1 : (0 : Int) < (p.length : Int) := by omega
    go_wp2_with fail
    refine (pick_any (w.heap.size + 1) (w.heap.size + 1) _ (p.length : Int) _ (unhide HD4).rd (by omega) (by omega) (by omega)).mono ?_
    rintro e w5 ⟨⟨k, rfl, k0, k1⟩, R5, W5⟩
    have HD5 := hide ((unhide HD4).picked R5 W5 (by omega))
    have HP5 := hide ((unhide HP4).wrote W5)
    clear HD4 HP4 R5 W5
    obtain ⟨k, rfl⟩ : ∃ n : Nat, k = n := ⟨k.toNat, by omega⟩
    have hkp : k < p.length := by omega
    go_wp2_with fail
    refine (pick_any (w.heap.size + 1) (w.heap.size + 1) _ 6 _ (unhide HD5).rd (by omega) (by omega) (by omega)).mono ?_
    rintro e w6 ⟨⟨q, rfl, q0, q1⟩, R6, W6⟩
    have HD6 := hide ((unhide HD5).picked R6 W6 (by omega))
    have HP6 := hide ((unhide HP5).wrote W6)
    clear HD5 HP5 R6 W6
    by_cases hq0 : q = 0
    · subst hq0
      obtain ⟨sg, hpa, hsb0, hsb1, hpc0, hpc1⟩ : ∃ sg, pa = some ⟨sg, 0, none⟩ ∧ cb + 1 ≤ sg ∧ sg < w6.heap.size ∧ p.length ≤ pc ∧ pc ≤ maxLen := by
        rcases (unhide HP6).own.2 with ⟨_, h0⟩ | ⟨g, cap, cur, hv, hg, hc, h1, h2, _⟩
        · omega
        · simp only [Value.slice.injEq, true_and] at hv
          exact ⟨g, hv.1, hg, (Array.getElem?_eq_some_iff.1 hc).1, by rw [hv.2]; exact h1, by rw [hv.2]; exact h2⟩
      subst hpa
      have hpcm := hpc1
      unfold maxLen at hpcm
      have hql := (unhide HP6).len
      have HQC := hide (fun (j : Nat) (u : Value) (hju : qs[j]? = some u) => show w6.cell? ⟨sg, j, none⟩ = some u by
        have hjq := (List.getElem?_eq_some_iff.1 hju).1
        obtain ⟨g, c', e, _, _, hc'⟩ := (unhide HP6).cell (i := j) (by omega)
        simp only [Value.slice.injEq, Option.some.injEq, Addr.mk.injEq, and_true] at e
        rw [e.1, hc', ← hju]
        simp [List.getD, hjq])
      have HONE := hide (fun (u : Value) (hu : u ∈ qs) => show u.oneCell' = true by
        obtain ⟨i, hi', he⟩ := List.mem_iff_getElem.1 hu
        obtain ⟨a', c', e, _⟩ := RowI.set ((unhide HP6).row i (by omega)) (by have := unhide HS3 _ (getD_mem (d := ([] : List Int)) (show i < p.length by omega)); omega)
        rw [show qs.getD i undef = u by simp [List.getD, hi', he]] at e
        rw [e]
        rfl)
      have j1 : (k : Int) < (p.length : Int) := by omega
      have j1' : (k : Int) ≤ (p.length : Int) := by omega
      have j0 : (0 : Int) ≤ (k : Int) := by omega
      have j3 : (k : Int) ≤ (pc : Int) := by omega
      have j4 : (k : Int) + 1 ≤ (p.length : Int) := by omega
      have j5 : (0 : Int) ≤ (k : Int) + 1 := by omega
      have j6 : (k : Int) + 1 ≤ (pc : Int) := by omega
      have j7 : (p.length : Int) ≤ (pc : Int) := by omega
      have js : pc ≠ k := by omega
      have hw1 : IntKind.i64.wrap ((k : Int) + 1) = (k : Int) + 1 := by rw [IntKind.wrap_i64]; omega
      obtain ⟨x0, x1, xf⟩ := two (unhide HD6).cell
      have hcb6 : cb < w6.heap.size := (Array.getElem?_eq_some_iff.1 (unhide HD6).cell).1
      have hres6 : w6.drew.heap[w.heap.size]? = some (if false then cnfCells vars (.slice va ls.length vc) else cnfCells 0 (.slice none 0 0)) := (unhide HD6).res
      clear xf
      by_cases hsc : pc = k + 1
      · have hn0 : p.length - (k + 1) = 0 := by omega
        subst hsc
        have j8 : (k : Int) ≤ (k : Int) + 1 := by omega
        have j8' : (k : Int) ≤ ((k + 1 : Nat) : Int) := by omega
        go_upto_region 8 with fail
        refine wp_region_mix (k := 11) 12 [1, 5, 10] [.agg #[.int .i64 vars, .slice va ls.length vc], undef, .slice (some ⟨sg, 0, none⟩) p.length (k + 1), .int .i64 (k : Int), .slice (some ⟨sg, 0, none⟩) k (k + 1), undef, .slice (some ⟨sg, 0, none⟩) p.length (k + 1), .int .i64 (k : Int), .int .i64 ((k : Int) + 1), .slice (some ⟨sg, 0, none⟩) (0) (0), undef, undef] (CD w6 w6.heap.size w.heap.size vars (.slice va ls.length vc) (RLess w6.heap.size (qs.take k) (qs.drop (k + 1)))) (by kernel_rfl) (by kernel_rfl) (by kernel_rfl) (by kernel_rfl) (by kernel_rfl) (by kernel_rfl) ⟨(OldB.refl _ _ _).below (Below.refl w6.heap.size _).drew (Nat.le_refl _), hres6, (fun _ h => by cases h), (fun _ _ h => by cases h), (fun _ _ _ h => by cases h)⟩ ?_ ?_ ?_
        · intro full hfull i oo hi' hns ho x fl us hC hb
          simp [putAll, slotOf, Act.put] at hfull
          subst hfull
          have y0 := (hC.keep.cell (p := ⟨cb, 0, none⟩) (by show cb < w6.heap.size; omega) (by show cb ≠ w.heap.size; omega)).trans x0
          have y1 := (hC.keep.cell (p := ⟨cb, 1, none⟩) (by show cb < w6.heap.size; omega) (by show cb ≠ w.heap.size; omega)).trans x1
          have hC0 := hC.stay (us' := us) (Below.refl _ _) hC.rows (by omega) (Nat.le_refl _)
          match i with
          | 0 => simp at ho; subst ho; simp [gwp, Region.wanted, yielded]; go_simp; first | done | exact hC0 | exact ⟨rfl, hC0⟩ | (simp; exact hC0) | (refine ⟨by simp <;> omega, hC0⟩)
          | 1 => simp at hns
          | 2 => simp at ho; subst ho; simp [gwp, Region.wanted, yielded]; go_simp; first | done | exact hC0 | exact ⟨rfl, hC0⟩ | (simp; exact hC0) | (refine ⟨by simp <;> omega, hC0⟩)
          | 3 => simp at ho; subst ho; simp [gwp, Region.wanted, yielded]; go_simp; first | done | exact hC0 | exact ⟨rfl, hC0⟩ | (simp; exact hC0) | (refine ⟨by simp <;> omega, hC0⟩)
          | 4 => simp at ho; subst ho; simp [gwp, Region.wanted, yielded]; go_simp; first | done | exact hC0 | exact ⟨rfl, hC0⟩ | (simp; exact hC0) | (refine ⟨by simp <;> omega, hC0⟩)
          | 5 => simp at hns
          | 6 => simp at ho; subst ho; simp [gwp, Region.wanted, yielded]; go_simp; first | done | exact hC0 | exact ⟨rfl, hC0⟩ | (simp; exact hC0) | (refine ⟨by simp <;> omega, hC0⟩)
          | 7 => simp at ho; subst ho; simp [gwp, Region.wanted, yielded]; go_simp; first | done | exact hC0 | exact ⟨rfl, hC0⟩ | (simp; exact hC0) | (refine ⟨by simp <;> omega, hC0⟩)
          | 8 => simp at ho; subst ho; simp [gwp, Region.wanted, yielded]; go_simp; first | done | exact hC0 | exact ⟨rfl, hC0⟩ | (simp; exact hC0) | (refine ⟨by simp <;> omega, hC0⟩)
          | 9 => simp at ho; subst ho; simp [gwp, Region.wanted, yielded]; go_simp; first | done | exact hC0 | exact ⟨rfl, hC0⟩ | (simp; exact hC0) | (refine ⟨by simp <;> omega, hC0⟩)
          | 10 => simp at hns
          | 11 =>
            simp at ho; subst ho; simp [gwp, Region.wanted, yielded]
            have hbf := hb rfl
            subst hbf
            have hres := hC.res
            simp only [Bool.false_eq_true, if_false] at hres
            obtain ⟨r0, r1, rf⟩ := two hres
            have rf0 := rf 0
            have rf1 := rf 1
            clear rf
            have HC9 := hide (hC.store rfl (Nat.le_refl _) (fun y hy => hC.rows.var hy (by omega)))
            clear hC hres
            go_simp
            first | done | exact unhide HC9 | exact ⟨rfl, unhide HC9⟩ | (simp; exact unhide HC9)
          | i + 12 => omega
        · intro full hfull us j hj oo ho x fl hC
          simp [putAll, slotOf, Act.put] at hfull
          subst hfull
          have hxs := hC.keep.size
          have hxc2 : ∀ j u, qs[j]? = some u → x.cell? ⟨sg, j, none⟩ = some u := fun j u hju => (hC.keep.cell (p := ⟨sg, j, none⟩) (by show sg < w6.heap.size; omega) (by show sg ≠ w.heap.size; omega)).trans (unhide HQC j u hju)
          match us with
          | [] =>
            simp at hj
            subst hj
            simp at ho
            subst ho
            simp [gwp, Region.wanted, yielded, putP]
            go_simp
            have bn := (Below.refl x.heap.size x).alloc (Nat.le_refl _) (.cells #[] 26)
            refine hC.stay bn ⟨fun y hy => ?_, (fun y z h => by cases h), (fun y z u h => by cases h)⟩ (by omega) (Nat.le_refl _)
            cases hy
            have := World.ownsRow_lit (base := w6.heap.size) (e := 26) (size := 1) x #[] 0 hxs (Nat.zero_le _) rfl
            simpa using this
          | [y] =>
            simp at hj
            subst hj
            simp at ho
            subst ho
            have hown := hC.rows.1 y rfl
            obtain ⟨v', w', hr, h2, h3, _, _⟩ := run_append_own_at (P := Try.prog) (w := x) w6.heap.size 39 39 26 i0 (.slice none 0 0) 1 24 Try.underlying39 hi hz0 hz1 hz2 rfl (by decide) y 0 [] hown ⟨sg, 0, none⟩ k (k + 1) (qs.take k) (by simp; omega) (fun j u hju => by
              rw [List.getElem?_take] at hju
              split at hju
              · have := hxc2 j u hju
                by_cases h0 : j = 0
                · subst h0; simpa [Addr.add] using this
                · simpa [Addr.add, h0] using this
              · cases hju) (fun u hu => unhide HONE u (List.mem_of_mem_take hu)) (by unfold maxLen; omega) (by omega) hxs
            simp only [gwp, Region.wanted, yielded, if_true]
            refine wp_append_runV _ _ 39 rfl y (.slice (some ⟨sg, 0, none⟩) k (k + 1)) v' w' ?_ ?_ hr ⟨v', rfl, hC.grow h3 (fun j hj => (World.ownsRow.lt hown j hj).1) ⟨(fun y h => by cases h), fun a z h => ?_, (fun a z u h => by cases h)⟩ (by omega) (Nat.le_refl _)⟩
            · simp [putP, slotOf, Act.put, Act.eval]
            · simp [putP, slotOf, Act.put, Act.eval]
            · cases h
              have e : (qs.take k).length = 0 + k := by simp; omega
              rw [e]
              simpa using h2
          | [y, z] =>
            simp at hj
            subst hj
            simp at ho
            subst ho
            have hown := hC.rows.2.1 y z rfl
            have e0 : (qs.take k).length = k := by simp; omega
            rw [e0] at hown
            obtain ⟨v', w', hr, h2, h3, _, _⟩ := run_append_own_at (P := Try.prog) (w := x) w6.heap.size 39 39 26 i0 (.slice none 0 0) 1 24 Try.underlying39 hi hz0 hz1 hz2 rfl (by decide) z k (qs.take k) hown ⟨sg, 0, none⟩ (0) (0) (qs.drop (k + 1)) (by simp; omega) (fun j u hju => by rw [List.drop_eq_nil_of_le (by omega)] at hju; simp at hju) (fun u hu => unhide HONE u (List.mem_of_mem_drop hu)) (by unfold maxLen; omega) (by omega) hxs
            simp only [gwp, Region.wanted, yielded, if_true]
            refine wp_append_runV _ _ 39 rfl z (.slice (some ⟨sg, 0, none⟩) (0) (0)) v' w' ?_ ?_ hr ⟨v', rfl, hC.grow h3 (fun j hj => (World.ownsRow.lt hown j hj).1) ⟨(fun y h => by cases h), (fun a z h => by cases h), fun a b u h => ?_⟩ (by omega) (Nat.le_refl _)⟩
            · simp [putP, slotOf, Act.put, Act.eval]
            · simp [putP, slotOf, Act.put, Act.eval]
            · cases h
              have e : (qs.take k ++ qs.drop (k + 1)).length = k + (0) := by simp; omega
              rw [e]
              exact h2
          | _ :: _ :: _ :: _ => simp at hj
        intro full hfull us x hus hC
        simp [putAll, slotOf, Act.put] at hfull
        subst hfull
        match us, hus with
        | [y, z, u], _ =>
        have hC' : CD w6 w6.heap.size w.heap.size vars (.slice va ls.length vc) (RLess w6.heap.size (qs.take k) (qs.drop (k + 1))) true [y, z, u] x := hC
        have hrow := hC'.rows.2.2 y z u rfl
        have hres := hC'.res
        simp only [if_true] at hres
        obtain ⟨q0, q1, _⟩ := two hres
        have hlen : (qs.take k ++ qs.drop (k + 1)).length = (lessL p k).length := by rw [lessL_len hkp]; simp; omega
        rw [hlen] at hrow
        obtain ⟨oa, oc, hu, c1, c2, c3, hcb⟩ := clsB_of (P := cb + 1) (lessL p k) hrow (unhide HD6).past (by rw [lessL_len hkp]; omega) (fun i hi => by
          rw [lessL_len hkp] at hi
          have hgx := getD_less (l := qs) (d := undef) (k := k) (i := i) (by omega)
          have hgc := getD_less (l := p) (d := []) (k := k) (i := i) hkp
          have hjl : (if i < k then i else i + 1) < p.length := by split <;> omega
          obtain ⟨a1, d1, e1, e2⟩ := RowI.setB ((unhide HP6).row _ hjl) (by have := unhide HS3 _ (getD_mem (d := ([] : List Int)) hjl); omega)
          show ∃ a' c', (lessL qs k).getD i undef = _ ∧ _
          rw [hgx, hgc]
          exact ⟨a1, d1, e1, e2.kept hC'.keep.size (fun g hg hgl => hC'.keep.old g hgl (by omega))⟩)
        subst hu
        have HF := hide ((unhide HD6).fin2 hP0 (y := x) ⟨hC'.keep.os, hC'.keep.tape, hC'.keep.output, hC'.keep.size, fun g hg hne => hC'.keep.old g (by have := (unhide HD6).past; omega) hne⟩ hll (unhide HSH) hcb c1 c2 c3 (by rw [lessL_len hkp]; omega))
        clear hC hC' hrow hres hcb
        simp [putP, slotOf, Act.put]
        go_wp2_with fail
        obtain ⟨f1, f2⟩ := unhide HF
        exact bodyPost_ret (v := .tuple #[.agg #[.int .i64 vars, .slice va ls.length vc], .slice oa (lessL p k).length oc]) (by simp [results, Try.results16, go_sem, q0, q1]) rfl ⟨f1, f2⟩
      · go_upto_region 8 with fail
        refine wp_region_mix (k := 11) 12 [1, 5, 10] [.agg #[.int .i64 vars, .slice va ls.length vc], undef, .slice (some ⟨sg, 0, none⟩) p.length (pc), .int .i64 (k : Int), .slice (some ⟨sg, 0, none⟩) k (pc), undef, .slice (some ⟨sg, 0, none⟩) p.length (pc), .int .i64 (k : Int), .int .i64 ((k : Int) + 1), .slice (some ⟨sg, k + 1, none⟩) (p.length - (k + 1)) (pc - (k + 1)), undef, undef] (CD w6 w6.heap.size w.heap.size vars (.slice va ls.length vc) (RLess w6.heap.size (qs.take k) (qs.drop (k + 1)))) (by kernel_rfl) (by kernel_rfl) (by kernel_rfl) (by kernel_rfl) (by kernel_rfl) (by kernel_rfl) ⟨(OldB.refl _ _ _).below (Below.refl w6.heap.size _).drew (Nat.le_refl _), hres6, (fun _ h => by cases h), (fun _ _ h => by cases h), (fun _ _ _ h => by cases h)⟩ ?_ ?_ ?_
        · intro full hfull i oo hi' hns ho x fl us hC hb
          simp [putAll, slotOf, Act.put] at hfull
          subst hfull
          have y0 := (hC.keep.cell (p := ⟨cb, 0, none⟩) (by show cb < w6.heap.size; omega) (by show cb ≠ w.heap.size; omega)).trans x0
          have y1 := (hC.keep.cell (p := ⟨cb, 1, none⟩) (by show cb < w6.heap.size; omega) (by show cb ≠ w.heap.size; omega)).trans x1
          have hC0 := hC.stay (us' := us) (Below.refl _ _) hC.rows (by omega) (Nat.le_refl _)
          match i with
          | 0 => simp at ho; subst ho; simp [gwp, Region.wanted, yielded]; go_simp; first | done | exact hC0 | exact ⟨rfl, hC0⟩ | (simp; exact hC0) | (refine ⟨by simp <;> omega, hC0⟩)
          | 1 => simp at hns
          | 2 => simp at ho; subst ho; simp [gwp, Region.wanted, yielded]; go_simp; first | done | exact hC0 | exact ⟨rfl, hC0⟩ | (simp; exact hC0) | (refine ⟨by simp <;> omega, hC0⟩)
          | 3 => simp at ho; subst ho; simp [gwp, Region.wanted, yielded]; go_simp; first | done | exact hC0 | exact ⟨rfl, hC0⟩ | (simp; exact hC0) | (refine ⟨by simp <;> omega, hC0⟩)
          | 4 => simp at ho; subst ho; simp [gwp, Region.wanted, yielded]; go_simp; first | done | exact hC0 | exact ⟨rfl, hC0⟩ | (simp; exact hC0) | (refine ⟨by simp <;> omega, hC0⟩)
          | 5 => simp at hns
          | 6 => simp at ho; subst ho; simp [gwp, Region.wanted, yielded]; go_simp; first | done | exact hC0 | exact ⟨rfl, hC0⟩ | (simp; exact hC0) | (refine ⟨by simp <;> omega, hC0⟩)
          | 7 => simp at ho; subst ho; simp [gwp, Region.wanted, yielded]; go_simp; first | done | exact hC0 | exact ⟨rfl, hC0⟩ | (simp; exact hC0) | (refine ⟨by simp <;> omega, hC0⟩)
          | 8 => simp at ho; subst ho; simp [gwp, Region.wanted, yielded]; go_simp; first | done | exact hC0 | exact ⟨rfl, hC0⟩ | (simp; exact hC0) | (refine ⟨by simp <;> omega, hC0⟩)
          | 9 => simp at ho; subst ho; simp [gwp, Region.wanted, yielded]; go_simp; first | done | exact hC0 | exact ⟨rfl, hC0⟩ | (simp; exact hC0) | (refine ⟨by simp <;> omega, hC0⟩)
          | 10 => simp at hns
          | 11 =>
            simp at ho; subst ho; simp [gwp, Region.wanted, yielded]
            have hbf := hb rfl
            subst hbf
            have hres := hC.res
            simp only [Bool.false_eq_true, if_false] at hres
            obtain ⟨r0, r1, rf⟩ := two hres
            have rf0 := rf 0
            have rf1 := rf 1
            clear rf
            have HC9 := hide (hC.store rfl (Nat.le_refl _) (fun y hy => hC.rows.var hy (by omega)))
            clear hC hres
            go_simp
            first | done | exact unhide HC9 | exact ⟨rfl, unhide HC9⟩ | (simp; exact unhide HC9)
          | i + 12 => omega
        · intro full hfull us j hj oo ho x fl hC
          simp [putAll, slotOf, Act.put] at hfull
          subst hfull
          have hxs := hC.keep.size
          have hxc2 : ∀ j u, qs[j]? = some u → x.cell? ⟨sg, j, none⟩ = some u := fun j u hju => (hC.keep.cell (p := ⟨sg, j, none⟩) (by show sg < w6.heap.size; omega) (by show sg ≠ w.heap.size; omega)).trans (unhide HQC j u hju)
          match us with
          | [] =>
            simp at hj
            subst hj
            simp at ho
            subst ho
            simp [gwp, Region.wanted, yielded, putP]
            go_simp
            have bn := (Below.refl x.heap.size x).alloc (Nat.le_refl _) (.cells #[] 26)
            refine hC.stay bn ⟨fun y hy => ?_, (fun y z h => by cases h), (fun y z u h => by cases h)⟩ (by omega) (Nat.le_refl _)
            cases hy
            have := World.ownsRow_lit (base := w6.heap.size) (e := 26) (size := 1) x #[] 0 hxs (Nat.zero_le _) rfl
            simpa using this
          | [y] =>
            simp at hj
            subst hj
            simp at ho
            subst ho
            have hown := hC.rows.1 y rfl
            obtain ⟨v', w', hr, h2, h3, _, _⟩ := run_append_own_at (P := Try.prog) (w := x) w6.heap.size 39 39 26 i0 (.slice none 0 0) 1 24 Try.underlying39 hi hz0 hz1 hz2 rfl (by decide) y 0 [] hown ⟨sg, 0, none⟩ k (pc) (qs.take k) (by simp; omega) (fun j u hju => by
              rw [List.getElem?_take] at hju
              split at hju
              · have := hxc2 j u hju
                by_cases h0 : j = 0
                · subst h0; simpa [Addr.add] using this
                · simpa [Addr.add, h0] using this
              · cases hju) (fun u hu => unhide HONE u (List.mem_of_mem_take hu)) (by unfold maxLen; omega) (by omega) hxs
            simp only [gwp, Region.wanted, yielded, if_true]
            refine wp_append_runV _ _ 39 rfl y (.slice (some ⟨sg, 0, none⟩) k (pc)) v' w' ?_ ?_ hr ⟨v', rfl, hC.grow h3 (fun j hj => (World.ownsRow.lt hown j hj).1) ⟨(fun y h => by cases h), fun a z h => ?_, (fun a z u h => by cases h)⟩ (by omega) (Nat.le_refl _)⟩
            · simp [putP, slotOf, Act.put, Act.eval]
            · simp [putP, slotOf, Act.put, Act.eval]
            · cases h
              have e : (qs.take k).length = 0 + k := by simp; omega
              rw [e]
              simpa using h2
          | [y, z] =>
            simp at hj
            subst hj
            simp at ho
            subst ho
            have hown := hC.rows.2.1 y z rfl
            have e0 : (qs.take k).length = k := by simp; omega
            rw [e0] at hown
            obtain ⟨v', w', hr, h2, h3, _, _⟩ := run_append_own_at (P := Try.prog) (w := x) w6.heap.size 39 39 26 i0 (.slice none 0 0) 1 24 Try.underlying39 hi hz0 hz1 hz2 rfl (by decide) z k (qs.take k) hown ⟨sg, k + 1, none⟩ (p.length - (k + 1)) (pc - (k + 1)) (qs.drop (k + 1)) (by simp; omega) (fun j u hju => by
              rw [List.getElem?_drop] at hju
              have := hxc2 (k + 1 + j) u hju
              by_cases h0 : j = 0
              · subst h0; simpa [Addr.add] using this
              · simpa [Addr.add, h0] using this) (fun u hu => unhide HONE u (List.mem_of_mem_drop hu)) (by unfold maxLen; omega) (by omega) hxs
            simp only [gwp, Region.wanted, yielded, if_true]
            refine wp_append_runV _ _ 39 rfl z (.slice (some ⟨sg, k + 1, none⟩) (p.length - (k + 1)) (pc - (k + 1))) v' w' ?_ ?_ hr ⟨v', rfl, hC.grow h3 (fun j hj => (World.ownsRow.lt hown j hj).1) ⟨(fun y h => by cases h), (fun a z h => by cases h), fun a b u h => ?_⟩ (by omega) (Nat.le_refl _)⟩
            · simp [putP, slotOf, Act.put, Act.eval]
            · simp [putP, slotOf, Act.put, Act.eval]
            · cases h
              have e : (qs.take k ++ qs.drop (k + 1)).length = k + (p.length - (k + 1)) := by simp; omega
              rw [e]
              exact h2
          | _ :: _ :: _ :: _ => simp at hj
        intro full hfull us x hus hC
        simp [putAll, slotOf, Act.put] at hfull
        subst hfull
        match us, hus with
        | [y, z, u], _ =>
        have hC' : CD w6 w6.heap.size w.heap.size vars (.slice va ls.length vc) (RLess w6.heap.size (qs.take k) (qs.drop (k + 1))) true [y, z, u] x := hC
        have hrow := hC'.rows.2.2 y z u rfl
        have hres := hC'.res
        simp only [if_true] at hres
        obtain ⟨q0, q1, _⟩ := two hres
        have hlen : (qs.take k ++ qs.drop (k + 1)).length = (lessL p k).length := by rw [lessL_len hkp]; simp; omega
        rw [hlen] at hrow
        obtain ⟨oa, oc, hu, c1, c2, c3, hcb⟩ := clsB_of (P := cb + 1) (lessL p k) hrow (unhide HD6).past (by rw [lessL_len hkp]; omega) (fun i hi => by
          rw [lessL_len hkp] at hi
          have hgx := getD_less (l := qs) (d := undef) (k := k) (i := i) (by omega)
          have hgc := getD_less (l := p) (d := []) (k := k) (i := i) hkp
          have hjl : (if i < k then i else i + 1) < p.length := by split <;> omega
          obtain ⟨a1, d1, e1, e2⟩ := RowI.setB ((unhide HP6).row _ hjl) (by have := unhide HS3 _ (getD_mem (d := ([] : List Int)) hjl); omega)
          show ∃ a' c', (lessL qs k).getD i undef = _ ∧ _
          rw [hgx, hgc]
          exact ⟨a1, d1, e1, e2.kept hC'.keep.size (fun g hg hgl => hC'.keep.old g hgl (by omega))⟩)
        subst hu
        have HF := hide ((unhide HD6).fin2 hP0 (y := x) ⟨hC'.keep.os, hC'.keep.tape, hC'.keep.output, hC'.keep.size, fun g hg hne => hC'.keep.old g (by have := (unhide HD6).past; omega) hne⟩ hll (unhide HSH) hcb c1 c2 c3 (by rw [lessL_len hkp]; omega))
        clear hC hC' hrow hres hcb
        simp [putP, slotOf, Act.put]
        go_wp2_with fail
        obtain ⟨f1, f2⟩ := unhide HF
        exact bodyPost_ret (v := .tuple #[.agg #[.int .i64 vars, .slice va ls.length vc], .slice oa (lessL p k).length oc]) (by simp [results, Try.results16, go_sem, q0, q1]) rfl ⟨f1, f2⟩
    · have q0b : (q == 0) = false := by rw [beq_eq_false_iff_ne]; exact hq0
      by_cases hq1 : q = 1
      · subst hq1
        obtain ⟨sg, hpa, hsb0, hsb1, hpc0, hpc1⟩ : ∃ sg, pa = some ⟨sg, 0, none⟩ ∧ cb + 1 ≤ sg ∧ sg < w6.heap.size ∧ p.length ≤ pc ∧ pc ≤ maxLen := by
          rcases (unhide HP6).own.2 with ⟨_, h0⟩ | ⟨g, cap, cur, hv, hg, hc, h1, h2, _⟩
          · omega
          · simp only [Value.slice.injEq, true_and] at hv
            exact ⟨g, hv.1, hg, (Array.getElem?_eq_some_iff.1 hc).1, by rw [hv.2]; exact h1, by rw [hv.2]; exact h2⟩
        subst hpa
        have hpcm := hpc1
        unfold maxLen at hpcm
        obtain ⟨cur6, hsgC⟩ : ∃ cur, w6.heap[sg]? = some (.cells cur 26 (0, 0)) := by
          rcases (unhide HP6).own.2 with ⟨_, h0⟩ | ⟨g, cap, cur, hv, hg, hc, _⟩
          · omega
          · simp only [Value.slice.injEq, Option.some.injEq, Addr.mk.injEq, true_and, and_true] at hv
            rw [← hv.1] at hc
            exact ⟨cur, hc⟩
        have hql := (unhide HP6).len
        have c0 : w6.cell? ⟨sg, k, none⟩ = some (qs.getD k undef) := by
          obtain ⟨g, c', e, _, _, hc'⟩ := (unhide HP6).cell hkp
          simp only [Value.slice.injEq, Option.some.injEq, Addr.mk.injEq, and_true] at e
          rw [e.1]
          exact hc'
        have hrk : (p.getD k []).length ≤ 400 := unhide HS3 _ (getD_mem (d := ([] : List Int)) hkp)
        have hrowk := (unhide HP6).row k hkp
        have hfz : w6.frozen? ⟨sg, k, none⟩ = false := by unfold World.frozen?; rw [hsgC]; simp
        obtain ⟨r, hrr⟩ : ∃ r, r = p.getD k [] := ⟨_, rfl⟩
        rw [← hrr] at hrk hrowk
        have HRR := hide hrr
        clear hrr
        obtain ⟨ua, uc, hu, hset, hub⟩ := RowI.setN hrowk (by omega) hsgC
        rw [hu] at c0
        have j1 : (k : Int) < (p.length : Int) := by omega
        have j0 : (0 : Int) ≤ (k : Int) := by omega
        by_cases hr0 : r.length = 0
        · have hr1 : ¬ (0 : Int) < (r.length : Int) := by omega
          generalize r.length = rl at c0 hr0 hr1 hrk
          obtain ⟨pa', pc', e1, q1, q2, q3, hcb⟩ := (unhide HP6).clsB (by omega) (fun c hc => by have := unhide HS3 c hc; omega)
          simp only [Value.slice.injEq, true_and] at e1
          obtain ⟨rfl, rfl⟩ := e1
          have hfin := (unhide HD6).fin hP0 hll (unhide HSH) hcb q1 q2 q3 (by omega)
          obtain ⟨x0, x1, xf⟩ := two (unhide HD6).cell
          obtain ⟨r0, r1, rf⟩ := two (unhide HD6).res
          have rf0 := rf 0
          have rf1 := rf 1
          have HF := hide hfin
          clear hfin xf rf HD6
          go_wp2_with fail
          obtain ⟨⟨f1, f2⟩, R0, R1⟩ := unhide HF
          exact bodyPost_ret (v := .tuple #[.agg #[.int .i64 vars, .slice va ls.length vc], .slice (some ⟨sg, 0, none⟩) p.length pc]) (by simp [results, Try.results16, go_sem, R0, R1]) rfl ⟨f1, f2⟩
        · have hr1 : (0 : Int) < (r.length : Int) := by omega
          obtain ⟨ub, hua, huc0, huc1⟩ : ∃ ub, ua = some ⟨ub, 0, none⟩ ∧ r.length ≤ uc ∧ uc ≤ maxLen := by
            rcases hrowk.2 with ⟨_, h0⟩ | ⟨g, cap, cur, hv, _, _, h1, h2, _⟩
            · omega
            · rw [hu] at hv
              simp only [Value.slice.injEq, true_and] at hv
              exact ⟨g, hv.1, by rw [hv.2]; exact h1, by rw [hv.2]; exact h2⟩
          subst hua
          have hucm := huc1
          unfold maxLen at hucm
          have hne : r ≠ [] := fun e => hr0 (by rw [e]; rfl)
          have hds : SetB (cb + 1) w6 (some ⟨ub, 1, none⟩) (r.drop 1) := by
            rcases hset.2 with h0 | ⟨b, o, e, h1, h2, h3⟩
            · exact absurd h0 hne
            · simp only [Option.some.injEq, Addr.mk.injEq, and_true] at e
              obtain ⟨rfl, rfl⟩ := e
              refine ⟨by rw [List.length_drop]; omega, .inr ⟨ub, 1, rfl, h1, h2, fun i hi => ?_⟩⟩
              have hi2 : 1 + i < r.length := by rw [List.length_drop] at hi; omega
              have := h3 (1 + i) hi2
              rw [Nat.zero_add] at this
              rw [this]
              simp only [List.getD, List.getElem?_drop]
          have hub1 : ub ≠ sg := hub ub 0 rfl hne
          have hdl : (r.drop 1).length = r.length - 1 := by simp
          have j2 : (1 : Int) ≤ (r.length : Int) := by omega
          have j3 : (1 : Int) ≤ (uc : Int) := by omega
          have j4 : (r.length : Int) ≤ (uc : Int) := by omega
          by_cases hsc : uc = 1
          · subst hsc
            have hn1 : r.length = 1 := by omega
            have hn0 : r.drop 1 = [] := List.drop_eq_nil_of_le (by omega)
            have hcs := clsB_set (u := .slice (some ⟨ub, 0, none⟩) 0 0) (r := r.drop 1) (unhide HP6).own hkp hql (by omega) (fun i hi hne => RowI.setN ((unhide HP6).row i hi) (by have := unhide HS3 _ (getD_mem (d := ([] : List Int)) hi); omega) hsgC) ⟨some ⟨ub, 0, none⟩, 0, by rw [hn0]; rfl, by rw [hn0]; exact SetB.nil _ _ _, fun b o e he => by rw [hn0] at he; exact absurd rfl he⟩
            rw [hn1] at c0 hr1 j2 j4
            go_upto_region 14 with fail
            obtain ⟨w7, hw7⟩ : ∃ w7, w7 = w6.setCell ⟨sg, k, none⟩ (.slice (some ⟨ub, 0, none⟩) 0 0) := ⟨_, rfl⟩
            rw [← hw7] at hcs ⊢
            have HD7 := hide ((unhide HD6).far (y := w7) (by rw [hw7]; exact Below.setCell (Below.refl _ _) (by exact hsb0) _) (by omega) (by omega) (by omega))
            obtain ⟨hcb, _⟩ := hcs
            have hl7 : (p.set k (r.drop 1)).length = p.length := by simp
            clear hw7 c0 hsgC HP6 HD6
            have hfin := (unhide HD7).fin hP0 hll (unhide HSH) hcb (by rw [hl7]; exact hpc0) hpc1 (fun e => by cases e) (by rw [hl7]; omega)
            rw [hl7] at hfin
            obtain ⟨x0, x1, xf⟩ := two (unhide HD7).cell
            obtain ⟨r0, r1, rf⟩ := two (unhide HD7).res
            have rf0 := rf 0
            have rf1 := rf 1
            have HF := hide hfin
            clear hfin xf rf HD7
            go_wp2_with fail
            obtain ⟨⟨f1, f2⟩, R0, R1⟩ := unhide HF
            exact bodyPost_ret (v := .tuple #[.agg #[.int .i64 vars, .slice va ls.length vc], .slice (some ⟨sg, 0, none⟩) p.length pc]) (by simp [results, Try.results16, go_sem, R0, R1]) rfl ⟨f1, f2⟩
          · have hsc1 : ¬ (1 : Int) = (uc : Int) := by omega
            have hcs := clsB_set (u := .slice (some ⟨ub, 1, none⟩) (r.length - 1) (uc - 1)) (r := r.drop 1) (unhide HP6).own hkp hql (by omega) (fun i hi hne => RowI.setN ((unhide HP6).row i hi) (by have := unhide HS3 _ (getD_mem (d := ([] : List Int)) hi); omega) hsgC) ⟨some ⟨ub, 1, none⟩, uc - 1, by rw [hdl], hds, fun b o e he => by simp only [Option.some.injEq, Addr.mk.injEq] at e; rw [← e.1]; exact hub1⟩
            go_upto_region 14 with fail
            obtain ⟨w7, hw7⟩ : ∃ w7, w7 = w6.setCell ⟨sg, k, none⟩ (.slice (some ⟨ub, 1, none⟩) (r.length - 1) (uc - 1)) := ⟨_, rfl⟩
            rw [← hw7] at hcs ⊢
            have HD7 := hide ((unhide HD6).far (y := w7) (by rw [hw7]; exact Below.setCell (Below.refl _ _) (by exact hsb0) _) (by omega) (by omega) (by omega))
            obtain ⟨hcb, _⟩ := hcs
            have hl7 : (p.set k (r.drop 1)).length = p.length := by simp
            clear hw7 c0 hsgC HP6 HD6
            have hfin := (unhide HD7).fin hP0 hll (unhide HSH) hcb (by rw [hl7]; exact hpc0) hpc1 (fun e => by cases e) (by rw [hl7]; omega)
            rw [hl7] at hfin
            obtain ⟨x0, x1, xf⟩ := two (unhide HD7).cell
            obtain ⟨r0, r1, rf⟩ := two (unhide HD7).res
            have rf0 := rf 0
            have rf1 := rf 1
            have HF := hide hfin
            clear hfin xf rf HD7
            go_wp2_with fail
            obtain ⟨⟨f1, f2⟩, R0, R1⟩ := unhide HF
            exact bodyPost_ret (v := .tuple #[.agg #[.int .i64 vars, .slice va ls.length vc], .slice (some ⟨sg, 0, none⟩) p.length pc]) (by simp [results, Try.results16, go_sem, R0, R1]) rfl ⟨f1, f2⟩
      · have q1b : (q == 1) = false := by rw [beq_eq_false_iff_ne]; exact hq1
        by_cases hq2 : q = 2
        · subst hq2
          obtain ⟨sg, hpa, hsb0, hsb1, hpc0, hpc1⟩ : ∃ sg, pa = some ⟨sg, 0, none⟩ ∧ cb + 1 ≤ sg ∧ sg < w6.heap.size ∧ p.length ≤ pc ∧ pc ≤ maxLen := by
            rcases (unhide HP6).own.2 with ⟨_, h0⟩ | ⟨g, cap, cur, hv, hg, hc, h1, h2, _⟩
            · omega
            · simp only [Value.slice.injEq, true_and] at hv
              exact ⟨g, hv.1, hg, (Array.getElem?_eq_some_iff.1 hc).1, by rw [hv.2]; exact h1, by rw [hv.2]; exact h2⟩
          subst hpa
          have hpcm := hpc1
          unfold maxLen at hpcm
          obtain ⟨cur6, hsgC⟩ : ∃ cur, w6.heap[sg]? = some (.cells cur 26 (0, 0)) := by
            rcases (unhide HP6).own.2 with ⟨_, h0⟩ | ⟨g, cap, cur, hv, hg, hc, _⟩
            · omega
            · simp only [Value.slice.injEq, Option.some.injEq, Addr.mk.injEq, true_and, and_true] at hv
              rw [← hv.1] at hc
              exact ⟨cur, hc⟩
          have hql := (unhide HP6).len
          have c0 : w6.cell? ⟨sg, k, none⟩ = some (qs.getD k undef) := by
            obtain ⟨g, c', e, _, _, hc'⟩ := (unhide HP6).cell hkp
            simp only [Value.slice.injEq, Option.some.injEq, Addr.mk.injEq, and_true] at e
            rw [e.1]
            exact hc'
          have hrk : (p.getD k []).length ≤ 400 := unhide HS3 _ (getD_mem (d := ([] : List Int)) hkp)
          have hrowk := (unhide HP6).row k hkp
          have hfz : w6.frozen? ⟨sg, k, none⟩ = false := by unfold World.frozen?; rw [hsgC]; simp
          obtain ⟨r, hrr⟩ : ∃ r, r = p.getD k [] := ⟨_, rfl⟩
          rw [← hrr] at hrk hrowk
          have HRR := hide hrr
          clear hrr
          obtain ⟨ua, uc, hu, hset, hub⟩ := RowI.setN hrowk (by omega) hsgC
          rw [hu] at c0
          have HU := hide hu
          have j1 : (k : Int) < (p.length : Int) := by omega
          have j0 : (0 : Int) ≤ (k : Int) := by omega
          have HC6 : Hid (RRow (w.heap.size + 1) (cb + 1) (w.heap.size + 1) w.heap.size w (0 + 400 + 1 + 1) cb vars (.slice va ls.length vc) ls vs sg k (.slice ua r.length uc) (.slice (some ⟨sg, 0, none⟩) p.length pc) p qs r [] w6.drew) := ⟨c0, fun _ => ⟨(unhide HD6).far (Below.refl _ _).drew (by omega) (by omega) (by omega), (unhide HP6).on (Below.refl _ _).drew⟩, (fun _ h => by cases h), (fun _ _ h => by cases h)⟩
          clear hset hub hrowk hsgC hu
          go_upto_region 13 with fail
          refine wp_region_mix (k := 100) 10 [7, 8] [.slice (some ⟨sg, 0, none⟩) p.length pc, .int .i64 (k : Int), .slice (some ⟨sg, 0, none⟩) p.length pc, .int .i64 (k : Int), .pointer (some ⟨sg, k, none⟩), .slice ua r.length uc, .pointer (some ⟨w.heap.size + 1, 0, none⟩), undef, undef, .pointer (some ⟨sg, k, none⟩)] (fun _ us x => RRow (w.heap.size + 1) (cb + 1) (w.heap.size + 1) w.heap.size w (0 + 400 + 1 + 1) cb vars (.slice va ls.length vc) ls vs sg k (.slice ua r.length uc) (.slice (some ⟨sg, 0, none⟩) p.length pc) p qs r us x) (by kernel_rfl) (by kernel_rfl) (by kernel_rfl) (by kernel_rfl) (by kernel_rfl) (by kernel_rfl) (unhide HC6) ?_ ?_ ?_
          · intro full hfull i oo hi' hns ho x fl us hC hb
            simp [putAll, slotOf, Act.put] at hfull
            subst hfull
            have hC0 : RRow (w.heap.size + 1) (cb + 1) (w.heap.size + 1) w.heap.size w (0 + 400 + 1 + 1) cb vars (.slice va ls.length vc) ls vs sg k (.slice ua r.length uc) (.slice (some ⟨sg, 0, none⟩) p.length pc) p qs r us x := hC
            have y0 := hC0.1
            match i with
            | 0 => simp at ho; subst ho; simp [gwp, Region.wanted, yielded]; go_simp; first | done | exact hC0 | exact ⟨rfl, hC0⟩ | (simp; exact hC0) | (refine ⟨by simp <;> omega, hC0⟩)
            | 1 => simp at ho; subst ho; simp [gwp, Region.wanted, yielded]; go_simp; first | done | exact hC0 | exact ⟨rfl, hC0⟩ | (simp; exact hC0) | (refine ⟨by simp <;> omega, hC0⟩)
            | 2 => simp at ho; subst ho; simp [gwp, Region.wanted, yielded]; go_simp; first | done | exact hC0 | exact ⟨rfl, hC0⟩ | (simp; exact hC0) | (refine ⟨by simp <;> omega, hC0⟩)
            | 3 => simp at ho; subst ho; simp [gwp, Region.wanted, yielded]; go_simp; first | done | exact hC0 | exact ⟨rfl, hC0⟩ | (simp; exact hC0) | (refine ⟨by simp <;> omega, hC0⟩)
            | 4 => simp at ho; subst ho; simp [gwp, Region.wanted, yielded]; go_simp; first | done | exact hC0 | exact ⟨rfl, hC0⟩ | (simp; exact hC0) | (refine ⟨by simp <;> omega, hC0⟩)
            | 5 => simp at ho; subst ho; simp [gwp, Region.wanted, yielded]; go_simp; first | done | exact hC0 | exact ⟨rfl, hC0⟩ | (simp; exact hC0) | (refine ⟨by simp <;> omega, hC0⟩)
            | 6 => simp at ho; subst ho; simp [gwp, Region.wanted, yielded]; go_simp; first | done | exact hC0 | exact ⟨rfl, hC0⟩ | (simp; exact hC0) | (refine ⟨by simp <;> omega, hC0⟩)
            | 7 => simp at hns
            | 8 => simp at hns
            | 9 => simp at ho; subst ho; simp [gwp, Region.wanted, yielded]; go_simp; first | done | exact hC0 | exact ⟨rfl, hC0⟩ | (simp; exact hC0) | (refine ⟨by simp <;> omega, hC0⟩)
            | i + 10 => omega
          · intro full hfull us j hj' oo ho x fl hC
            simp [putAll, slotOf, Act.put] at hfull
            subst hfull
            match us with
            | [] =>
              simp at hj'
              subst hj'
              simp at ho
              subst ho
              obtain ⟨hD, hL⟩ := hC.2.1 rfl
              have y0 := hC.1
              have HLX := hide hL
              have HDX := hide hD
              clear hC hL
              simp [gwp, Region.wanted, yielded, putP]
              go_simp
              refine (l71Lits_N (w.heap.size + 1) (w.heap.size + 1) _ 3 x hD.rd (by omega) (by omega) (by omega)).mono ?_
              rintro e y ⟨⟨v, rfl, set, hset, hsl⟩, hR, hW⟩
              have hC1 : RRow (w.heap.size + 1) (cb + 1) (w.heap.size + 1) w.heap.size w (0 + 400 + 1 + 1) cb vars (.slice va ls.length vc) ls vs sg k (.slice ua r.length uc) (.slice (some ⟨sg, 0, none⟩) p.length pc) p qs r [v] y := ⟨?hcc, (fun h => by cases h), fun a h => ?hab, (fun _ _ h => by cases h)⟩
              case hcc =>
                obtain ⟨g, cap, e, _, hgl, hc'⟩ := ((unhide HLX).wrote hW).cell hkp
                simp only [Value.slice.injEq, Option.some.injEq, Addr.mk.injEq, and_true] at e
                rw [e.1, hc', unhide HU]
              case hab =>
                cases h
                exact ⟨(unhide HDX).picked hR hW (by omega), (unhide HLX).wrote hW, set, row_base hset (unhide HDX).past, hsl⟩
              clear hD
              go_simp
              first | done | exact hC1 | exact ⟨rfl, hC1⟩ | (simp; exact hC1)
            | [y] =>
              simp at hj'
              subst hj'
              simp at ho
              subst ho
              obtain ⟨hD, hL, set, hset, hsl⟩ := hC.2.2.1 y rfl
              have y0 := hC.1
              have hown := hL.row k hkp
              rw [unhide HU, ← unhide HRR] at hown
              have hrl : r.length ≤ 400 := hrk
              obtain ⟨v', x', hr, h2, h3⟩ : ∃ v' x', (Builtin.append_ #[26, 26] 26 #[.slice ua r.length uc, y]).run Try.prog x = .ok v' x' ∧ RowI (cb + 1) x' v' (r ++ set) ∧ x.grownBy x' (Value.ownBlock (.slice ua r.length uc)) := by
                rcases hset.2 with ⟨hv, h0⟩ | ⟨g, cap, cur, hv, hB, hc', hcap, hcm, hsz, htk⟩
                · have : set = [] := List.length_eq_zero_iff.1 h0
                  subst this
                  rw [hv, List.append_nil]
                  exact ⟨_, x, run_append_owned_none x (cb + 1) 26 26 3 i1 1 Try.underlying26 hj _ r.length (r.map fun i => .int .i64 i) hown, hown, World.grownBy.refl _ _⟩
                · rw [hv]
                  have hset' := hset
                  rw [hv] at hset'
                  obtain ⟨v', x', hr, h2, h3, _, _⟩ := run_append_own_at (P := Try.prog) (w := x) (cb + 1) 26 26 3 i1 (.int .i64 0) 1 8 Try.underlying26 hj hy0 hy1 hy2 rfl (by decide) _ r.length (r.map fun i => .int .i64 i) hown ⟨g, 0, none⟩ set.length cap (set.map fun i => .int .i64 i) (by simp) (fun j u hju => by
                    have hjl : j < set.length := by have := (List.getElem?_eq_some_iff.1 hju).1; simpa using this
                    have hcell := World.ownsRow.cellAt hset' j (by omega)
                    rw [hju] at hcell
                    by_cases h0 : j = 0
                    · subst h0; simpa [Addr.add] using hcell
                    · simpa [Addr.add, h0] using hcell) (fun u hu => by obtain ⟨z, _, rfl⟩ := List.mem_map.1 hu; rfl) (by unfold maxLen; omega) (by omega) hD.past
                  refine ⟨v', x', hr, ?_, h3⟩
                  unfold RowI
                  rw [List.length_append, List.map_append]
                  exact h2
              simp only [gwp, Region.wanted, yielded, if_true]
              refine wp_append_runV _ _ 26 rfl (.slice ua r.length uc) y v' x' ?_ ?_ hr ⟨v', rfl, RRow.grown hD hL hkp (unhide HU) y0 h3 h2 hsl (by omega) (by omega) (by omega)⟩
              · simp [putP, slotOf, Act.put, Act.eval]
              · simp [putP, slotOf, Act.put, Act.eval]
            | _ :: _ :: _ => simp at hj'
          intro full hfull us x hus hC
          simp [putAll, slotOf, Act.put] at hfull
          subst hfull
          match us, hus with
          | [y, z], _ =>
          obtain ⟨hD7, ⟨set, hz7, hsl⟩, hown7, hrows7⟩ := hC.2.2.2 y z rfl
          have y0 := hC.1
          obtain ⟨za, zc, hzv, _⟩ := RowI.set hz7 (by rw [List.length_append]; omega)
          obtain ⟨zn, hzn⟩ : ∃ zn, zn = (r ++ set).length := ⟨_, rfl⟩
          rw [← hzn] at hzv
          subst hzv
          clear hzn
          obtain ⟨cur7, hsg7⟩ : ∃ cur, x.heap[sg]? = some (.cells cur 26 (0, 0)) := by
            rcases hown7.2 with ⟨_, h0⟩ | ⟨g, cap, cur, hv, hg, hc, _⟩
            · omega
            · simp only [Value.slice.injEq, Option.some.injEq, Addr.mk.injEq, true_and, and_true] at hv
              rw [← hv.1] at hc
              exact ⟨cur, hc⟩
          have hfz7 : x.frozen? ⟨sg, k, none⟩ = false := by unfold World.frozen?; rw [hsg7]; simp
          have hcs := clsB_set (u := .slice za zn zc) (r := r ++ set) hown7 hkp hql (by omega) (fun i hi hne => RowI.setN (hrows7 i hi hne) (by have := unhide HS3 _ (getD_mem (d := ([] : List Int)) hi); omega) hsg7) (RowI.setN hz7 (by rw [List.length_append]; omega) hsg7)
          have HD6' := hide hD7
          clear hC hz7 hown7 hrows7 hsg7 hD7 HC6 c0
          simp [putP, slotOf, Act.put]
          go_upto_region 14 with fail
          obtain ⟨w7, hw7⟩ : ∃ w7, w7 = x.setCell ⟨sg, k, none⟩ (.slice za zn zc) := ⟨_, rfl⟩
          rw [← hw7] at hcs ⊢
          have HD7 := hide ((unhide HD6').far (y := w7) (by rw [hw7]; exact Below.setCell (Below.refl _ _) (by exact hsb0) _) (by omega) (by omega) (by omega))
          obtain ⟨hcb, _⟩ := hcs
          have hl7 : (p.set k (r ++ set)).length = p.length := by simp
          clear hw7 HP6 HD6 HD6'
          have hfin := (unhide HD7).fin hP0 hll (unhide HSH) hcb (by rw [hl7]; exact hpc0) hpc1 (fun e => by cases e) (by rw [hl7]; omega)
          rw [hl7] at hfin
          obtain ⟨x0, x1, xf⟩ := two (unhide HD7).cell
          obtain ⟨r0, r1, rf⟩ := two (unhide HD7).res
          have rf0 := rf 0
          have rf1 := rf 1
          have HF := hide hfin
          clear hfin xf rf HD7
          go_wp2_with fail
          obtain ⟨⟨f1, f2⟩, R0, R1⟩ := unhide HF
          exact bodyPost_ret (v := .tuple #[.agg #[.int .i64 vars, .slice va ls.length vc], .slice (some ⟨sg, 0, none⟩) p.length pc]) (by simp [results, Try.results16, go_sem, R0, R1]) rfl ⟨f1, f2⟩
        · have q2b : (q == 2) = false := by rw [beq_eq_false_iff_ne]; exact hq2
          obtain ⟨pa', pc', e1, q1, q2, q3, hcb⟩ := (unhide HP6).clsB (by omega) (fun c hc => by have := unhide HS3 c hc; omega)
          simp only [Value.slice.injEq, true_and] at e1
          obtain ⟨rfl, rfl⟩ := e1
          have hfin := (unhide HD6).fin hP0 hll (unhide HSH) hcb q1 q2 q3 (by omega)
          obtain ⟨x0, x1, xf⟩ := two (unhide HD6).cell
          obtain ⟨r0, r1, rf⟩ := two (unhide HD6).res
          have rf0 := rf 0
          have rf1 := rf 1
          have HF := hide hfin
          clear hfin xf rf HD6
          go_wp2_with fail
          obtain ⟨⟨f1, f2⟩, R0, R1⟩ := unhide HF
          exact bodyPost_ret (v := .tuple #[.agg #[.int .i64 vars, .slice va ls.length vc], .slice (pa) p.length pc]) (by simp [results, Try.results16, go_sem, R0, R1]) rfl ⟨f1, f2⟩
end Go.Proofs.Ythkhaemlcmkkjar
