/- The laws' ldFree: packs that ask for nothing. -/
import Derived.Test.YthkhaemlcmkkjasGreatGGrow
import Derived.Test.YthkhaemlcmkkjasGreatGGood
import Derived.Test.YthkhaemlcmkkjasGreatGReg
import Derived.Test.YthkhaemlcmkkjasGreatGSpecP
namespace Go.Proofs.YthkhaemlcmkkjasGreat
set_option linter.unusedVariables false
set_option linter.unusedSimpArgs false
open Go.RowKit Go.Deep

def freeP (p : PackD) : PackD := ⟨p.name, p.ver, p.size, [], [], []⟩
def freeV (p : PackD) : List Value := [.string p.name, .int .i64 p.ver, .int .i64 p.size, .slice none 0 0, .slice none 0 0, .slice none 0 0]
def freeVs (l : List PackD) : List Value := l.flatMap freeV
theorem freeVs_at : ∀ (l : List PackD) (i j : Nat), i < l.length → j < 6 → (freeVs l)[i * 6 + j]? = (freeV (l.getD i dPack))[j]?
  | [], i, j, h, _ => by simp at h
  | p :: l, 0, j, _, hj => by
    unfold freeVs
    simp only [List.flatMap_cons, Nat.zero_mul, Nat.zero_add]
    rw [List.getElem?_append_left (by simpa [freeV] using hj)]
    rfl
  | p :: l, i + 1, j, h, hj => by
    have ih := freeVs_at l i j (by simpa using h) hj
    unfold freeVs at ih ⊢
    simp only [List.flatMap_cons]
    rw [List.getElem?_append_right (by simp [freeV]; omega)]
    rw [show (i + 1) * 6 + j - (freeV p).length = i * 6 + j by simp [freeV]; omega, ih]
    simp [List.getD]
theorem freeVs_take {l : List PackD} {k : Nat} (h : k < l.length) : freeVs (l.take (k + 1)) = freeVs (l.take k) ++ freeV (l.getD k dPack) := by
  unfold freeVs
  rw [List.take_succ_eq_append_getElem h, List.flatMap_append]
  simp [List.getD, h]
/-- Packs whose cells are the ones of packs that ask for nothing. -/
theorem PacksAt.free {B : Nat} {w : World} {v : Value} {l : List PackD} (h : w.ownsRow B 66 6 v l.length (freeVs l)) (hn : ∀ i, i < l.length → (l.getD i dPack).name.size ≤ maxLen) (hl : l.length ≤ 1000) : ∃ a c, v = .slice a l.length c ∧ PacksAt (Old w) w a (l.map freeP) := by
  obtain ⟨h1, h2⟩ := h
  rcases h2 with ⟨hv, h0⟩ | ⟨g, cap, cur, hv, hB, hc, hcap, hcm, hsz, hx⟩
  · have : l = [] := List.length_eq_zero_iff.1 h0
    subst this
    exact ⟨none, 0, hv, by simp, Or.inl rfl⟩
  · refine ⟨some ⟨g, 0, none⟩, cap, hv, by simp [maxLen]; omega, Or.inr ⟨g, 0, rfl, (Array.getElem?_eq_some_iff.1 hc).1, fun i hi => ?_⟩⟩
    simp at hi
    have key : ∀ j, j < 6 → w.cell? ⟨g, 0 + i * 6 + j, none⟩ = (freeV (l.getD i dPack))[j]? := fun j hj => by
      rw [cell_of_row w g _ cur _ _ hc, Nat.zero_add]
      rw [← freeVs_at l i j hi hj, ← hx, List.getElem?_take, if_pos (by omega)]
      simp
    have e : (l.map freeP).getD i dPack = freeP (l.getD i dPack) := by simp [List.getD, hi]
    rw [e]
    refine ⟨none, 0, none, 0, none, 0, ⟨?_, ?_, ?_, ?_, ?_, ?_⟩, ⟨hn i hi, ⟨by simp [freeP], Or.inl rfl⟩, ⟨by simp [freeP], Or.inl rfl⟩, ⟨by simp [freeP], Or.inl rfl⟩⟩⟩
    · exact key 0 (by omega)
    · exact key 1 (by omega)
    · exact key 2 (by omega)
    · exact key 3 (by omega)
    · exact key 4 (by omega)
    · exact key 5 (by omega)

theorem ownsRow_block {B : Nat} {w w' : World} {e : TypeId} {s : Nat} {v : Value} {n : Nat} {xs : List Value} (h : w.ownsRow B e s v n xs) (hb : ∀ b, B ≤ b → w'.heap[b]? = w.heap[b]?) : w'.ownsRow B e s v n xs := by
  obtain ⟨h1, h2⟩ := h
  refine ⟨h1, h2.imp id ?_⟩
  rintro ⟨g, cap, cur, hv, hg, hc, r⟩
  exact ⟨g, cap, cur, hv, hg, (hb g hg).trans hc, r⟩
/-- The class of worlds of the append: the new one's cells lie in a block of their own. -/
structure CF (W : World) (p : PackD) (b : Bool) (us : List Value) (x : World) : Prop where
  below : Below W.heap.size W x
  one : ∀ u, us = [u] → ∃ g, u = .slice (some ⟨g, 0, none⟩) 1 1 ∧ W.heap.size ≤ g ∧ x.heap[g]? = some (.cells (freeV p).toArray 66 (0, 0))
theorem CF.flag {W : World} {p : PackD} {b b' : Bool} {us : List Value} {x : World} (h : CF W p b us x) : CF W p b' us x := ⟨h.below, h.one⟩

set_option maxRecDepth 100000 in
set_option maxHeartbeats 8000000 in
theorem ldFree_any (va : Option Addr) (l : List PackD) (vc : Nat) (room : Int) (w : World) (h : PacksAt (Old w) w va l) (hl8 : l.length ≤ 1000) :
    Calls Tryz.prog 8 #[.agg #[.slice va l.length vc, .int .i64 room]] w fun e w' => (∃ a c, e = .returned (.agg #[.slice a l.length c, .int .i64 room]) ∧ PacksAt (Old w') w' a (l.map freeP)) ∧ Below w.heap.size w w' := by
  obtain ⟨i0, hi, hz0, hz1, hz2⟩ := info_parts Tryz.infoPack
  have HP := hide h
  have HNM : Hid (∀ i, i < l.length → (l.getD i dPack).name.size ≤ maxLen) := fun i hi => by
    rcases h.2 with hnil | ⟨b, o, _, _, hk⟩
    · rw [hnil] at hi; simp at hi
    · obtain ⟨_, _, _, _, _, _, _, hv⟩ := hk i hi
      exact hv.len
  clear h
  go_enter Tryz.func8, Tryz.ntmps8
  go_wp2_with fail
  obtain ⟨w0, hw0⟩ : ∃ w0, w0 = ((w.alloc (.cells #[.slice va l.length vc, .int .i64 room] 25)).alloc (.cells #[.slice none 0 0, .int .i64 0] 25)).alloc (.cells #[.slice none 0 0, .int .i64 room] 25) := ⟨_, rfl⟩
  obtain ⟨t1, t2, t3⟩ := three_alloc w (.cells #[.slice va l.length vc, .int .i64 room] 25) (.cells #[.slice none 0 0, .int .i64 0] 25) (.cells #[.slice none 0 0, .int .i64 room] 25)
  have b0 : Below w.heap.size w w0 := by rw [hw0]; exact (((Below.refl _ _).alloc (Nat.le_refl _) _).alloc (by simp) _).alloc (by simp; omega) _
  have z0 : w0.heap.size = w.heap.size + 3 := by rw [hw0]; simp
  rw [← hw0] at t1 t2 t3 ⊢
  have HB0 := hide b0
  have HT := hide (And.intro t1 (And.intro t2 t3))
  clear hw0 b0 t1 t2 t3
  go_loopw [4] (fun i wr => ∃ (k : Nat) (v : Value), k ≤ l.length ∧ i = .int .i64 k ∧ Hid (wr.ownsRow (w.heap.size + 3) 66 6 v k (freeVs (l.take k))) ∧ Hid (wr.heap[w.heap.size]? = some (.cells #[.slice va l.length vc, .int .i64 room] 25 (0, 0)) ∧ wr.heap[w.heap.size + 1]? = some (.cells #[.slice none 0 0, .int .i64 0] 25 (0, 0)) ∧ wr.heap[w.heap.size + 1 + 1]? = some (.cells #[v, .int .i64 room] 25 (0, 0))) ∧ Hid (Below w.heap.size w wr)) (fun i _ => l.length - (intOf i).toNat)
  case atStart => exact ⟨0, .slice none 0 0, Nat.zero_le _, rfl, World.ownsRow_nil _ _ _ _, unhide HT, unhide HB0⟩
  case round =>
    rename World => wo
    obtain ⟨k, v, hk, rfl, HO, HX, HB⟩ := hrel
    obtain ⟨t1, t2, t3⟩ := unhide HX
    have hzo : w.heap.size + 1 + 1 < wo.heap.size := (Array.getElem?_eq_some_iff.1 t3).1
    obtain ⟨r0, r1, _⟩ := two t1
    obtain ⟨x0, x1, xf⟩ := two t3
    obtain ⟨s0, s1, sf⟩ := two t2
    by_cases hlt : k < l.length
    · have j1 : (k : Int) < (l.length : Int) := by omega
      have j0 : (0 : Int) ≤ (k : Int) := by omega
      have hPx := (unhide HP).on (unhide HB)
      rcases hPx.2 with hnil | ⟨pb, po, rfl, hpS, hpk⟩
      · rw [hnil] at hlt; simp at hlt
      obtain ⟨a1, d1, a2, d2, a3, d3, hce, _⟩ := hpk k hlt
      have n0 := hce.name
      have n1 := hce.ver
      have n2 := hce.size
      have htk := freeVs_take hlt
      generalize l.getD k dPack = p at n0 n1 n2 htk
      have HTK := hide htk
      have hpw : pb < wo.heap.size := hpS
      obtain ⟨ga, gc, hv⟩ : ∃ ga gc, v = .slice ga k gc := by
        rcases (unhide HO).2 with ⟨hv, h0⟩ | ⟨g, cap, cur, hv, _⟩
        · exact ⟨none, 0, by rw [hv, h0]⟩
        · exact ⟨_, _, hv⟩
      subst hv
      clear hPx hpk hce htk t1 t2 t3 s0 s1 sf
      go_upto_region 5 with fail
      refine wp_region_mix (k := 100) 22 [21] [.pointer (some ⟨w.heap.size + 1 + 1, 0, none⟩), .slice ga k gc, .pointer (some ⟨w.heap.size, 0, none⟩), .slice (some ⟨pb, po, none⟩) l.length vc, .int .i64 (k : Int), .pointer (some ⟨pb, po + k * 6, none⟩), .pointer (some ⟨pb, po + k * 6, none⟩), .string p.name, .pointer (some ⟨w.heap.size, 0, none⟩), .slice (some ⟨pb, po, none⟩) l.length vc, .int .i64 (k : Int), .pointer (some ⟨pb, po + k * 6, none⟩), .pointer (some ⟨pb, po + k * 6 + 1, none⟩), .int .i64 p.ver, .pointer (some ⟨w.heap.size, 0, none⟩), .slice (some ⟨pb, po, none⟩) l.length vc, .int .i64 (k : Int), .pointer (some ⟨pb, po + k * 6, none⟩), .pointer (some ⟨pb, po + k * 6 + 2, none⟩), .int .i64 p.size, .agg #[.string p.name, .int .i64 p.ver, .int .i64 p.size, .slice none 0 0, .slice none 0 0, .slice none 0 0], undef] (CF wo p) (by kernel_rfl) (by kernel_rfl) (by kernel_rfl) (by kernel_rfl) (by kernel_rfl) (by kernel_rfl) ⟨(Below.refl _ _).drew, (fun y h => by cases h)⟩ ?_ ?_ ?_
      · intro full hfull i oo hi hns ho x fl us hC hb
        simp [putAll, slotOf, Act.put] at hfull
        subst hfull
        have bx := hC.below
        rw [← bx.cell (p := ⟨w.heap.size, _, none⟩) (by simp; omega)] at r0 r1
        rw [← bx.cell (p := ⟨w.heap.size + 1 + 1, _, none⟩) (by simp; omega)] at x0 x1
        rw [← bx.cell (p := ⟨pb, _, none⟩) hpw] at n0 n1 n2
        have hC0 := hC.flag (b' := fl)
        match i with
        | 0 => simp at ho; subst ho; simp [gwp, Region.wanted, yielded]; go_simp; first | done | exact hC0 | exact ⟨rfl, hC0⟩ | (simp; exact hC0)
        | 1 => simp at ho; subst ho; simp [gwp, Region.wanted, yielded]; go_simp; first | done | exact hC0 | exact ⟨rfl, hC0⟩ | (simp; exact hC0)
        | 2 => simp at ho; subst ho; simp [gwp, Region.wanted, yielded]; go_simp; first | done | exact hC0 | exact ⟨rfl, hC0⟩ | (simp; exact hC0)
        | 3 => simp at ho; subst ho; simp [gwp, Region.wanted, yielded]; go_simp; first | done | exact hC0 | exact ⟨rfl, hC0⟩ | (simp; exact hC0)
        | 4 => simp at ho; subst ho; simp [gwp, Region.wanted, yielded]; go_simp; first | done | exact hC0 | exact ⟨rfl, hC0⟩ | (simp; exact hC0)
        | 5 => simp at ho; subst ho; simp [gwp, Region.wanted, yielded]; go_simp; first | done | exact hC0 | exact ⟨rfl, hC0⟩ | (simp; exact hC0)
        | 6 => simp at ho; subst ho; simp [gwp, Region.wanted, yielded]; go_simp; first | done | exact hC0 | exact ⟨rfl, hC0⟩ | (simp; exact hC0)
        | 7 => simp at ho; subst ho; simp [gwp, Region.wanted, yielded]; go_simp; first | done | exact hC0 | exact ⟨rfl, hC0⟩ | (simp; exact hC0)
        | 8 => simp at ho; subst ho; simp [gwp, Region.wanted, yielded]; go_simp; first | done | exact hC0 | exact ⟨rfl, hC0⟩ | (simp; exact hC0)
        | 9 => simp at ho; subst ho; simp [gwp, Region.wanted, yielded]; go_simp; first | done | exact hC0 | exact ⟨rfl, hC0⟩ | (simp; exact hC0)
        | 10 => simp at ho; subst ho; simp [gwp, Region.wanted, yielded]; go_simp; first | done | exact hC0 | exact ⟨rfl, hC0⟩ | (simp; exact hC0)
        | 11 => simp at ho; subst ho; simp [gwp, Region.wanted, yielded]; go_simp; first | done | exact hC0 | exact ⟨rfl, hC0⟩ | (simp; exact hC0)
        | 12 => simp at ho; subst ho; simp [gwp, Region.wanted, yielded]; go_simp; first | done | exact hC0 | exact ⟨rfl, hC0⟩ | (simp; exact hC0)
        | 13 => simp at ho; subst ho; simp [gwp, Region.wanted, yielded]; go_simp; first | done | exact hC0 | exact ⟨rfl, hC0⟩ | (simp; exact hC0)
        | 14 => simp at ho; subst ho; simp [gwp, Region.wanted, yielded]; go_simp; first | done | exact hC0 | exact ⟨rfl, hC0⟩ | (simp; exact hC0)
        | 15 => simp at ho; subst ho; simp [gwp, Region.wanted, yielded]; go_simp; first | done | exact hC0 | exact ⟨rfl, hC0⟩ | (simp; exact hC0)
        | 16 => simp at ho; subst ho; simp [gwp, Region.wanted, yielded]; go_simp; first | done | exact hC0 | exact ⟨rfl, hC0⟩ | (simp; exact hC0)
        | 17 => simp at ho; subst ho; simp [gwp, Region.wanted, yielded]; go_simp; first | done | exact hC0 | exact ⟨rfl, hC0⟩ | (simp; exact hC0)
        | 18 => simp at ho; subst ho; simp [gwp, Region.wanted, yielded]; go_simp; first | done | exact hC0 | exact ⟨rfl, hC0⟩ | (simp; exact hC0)
        | 19 => simp at ho; subst ho; simp [gwp, Region.wanted, yielded]; go_simp; first | done | exact hC0 | exact ⟨rfl, hC0⟩ | (simp; exact hC0)
        | 20 => simp at ho; subst ho; simp [gwp, Region.wanted, yielded]; go_simp; first | done | exact hC0 | exact ⟨rfl, hC0⟩ | (simp; exact hC0)
        | 21 => simp at hns
        | i + 22 => omega
      · intro full hfull us j hj oo ho x fl hC
        simp [putAll, slotOf, Act.put] at hfull
        subst hfull
        match us with
        | [] =>
          simp at hj
          subst hj
          simp at ho
          subst ho
          simp [gwp, Region.wanted, yielded, putP]
          go_simp
          refine ⟨hC.below.alloc (by have := hC.below.size; omega) _, fun u hu => ?_⟩
          cases hu
          exact ⟨x.heap.size, rfl, hC.below.size, blk_alloc_new _ _⟩
        | _ :: _ => simp at hj
      · intro full hfull us x hus hC
        simp [putAll, slotOf, Act.put] at hfull
        subst hfull
        match us, hus with
        | [yv], _ =>
        obtain ⟨g, rfl, hg1, hg2⟩ := hC.one yv rfl
        have bx := hC.below
        have hown := ownsRow_on (unhide HO) bx
        have hnews : ∀ j u, (freeV p)[j]? = some u → x.cell? ((⟨g, 0, none⟩ : Addr).add j) = some u := fun j u hj => by
          have : (⟨g, 0, none⟩ : Addr).add j = ⟨g, j, none⟩ := by simp [Addr.add]; intro h; exact h.symm
          rw [this, cell_of_row x g j _ _ _ hg2]
          simpa using hj
        have hxz := bx.size
        have HX2 := hide (And.intro ((bx.block w.heap.size (by omega)).trans (unhide HX).1) (And.intro ((bx.block (w.heap.size + 1) (by omega)).trans (unhide HX).2.1) ((bx.block (w.heap.size + 1 + 1) (by omega)).trans (unhide HX).2.2)))
        have HBX := hide ((unhide HB).trans (bx.mono (unhide HB).size))
        clear hC bx HX r0 r1 x0 x1 n0 n1 n2
        simp [putP, slotOf, Act.put]
        go_wp2_with (first
          | (at_builtin; refine wpList_append_two rfl _ _ 23 rfl (w.heap.size + 3) 66 i0 _ 6 104 Tryz.underlying23 hi hz0 hz1 hz2 rfl (by decide) _ _ _ rfl hown ⟨g, 0, none⟩ 1 (freeV p) rfl rfl hnews ?c2 ?c3 ?c4 ?c5 ?_))
        case c2 => intro u hu; simp [freeV] at hu; rcases hu with rfl | rfl | rfl | rfl <;> rfl
        case c3 => unfold maxLen; omega
        case c4 => omega
        case c5 => omega
        intro v' w3 hown' hgrow _
        have hnb : ∀ b, b < w.heap.size + 3 → some b ≠ (Value.slice ga k gc).ownBlock := fun b hb e => by
          have := (World.ownsRow.lt hown b e.symm).1
          omega
        have hbk : ∀ b, b < w.heap.size + 3 → w3.heap[b]? = x.heap[b]? := fun b hb => hgrow.block b (by omega) (hnb b hb)
        have u1 := (hbk _ (by omega)).trans (unhide HX2).1
        have u2 := (hbk _ (by omega)).trans (unhide HX2).2.1
        have u3 := (hbk _ (by omega)).trans (unhide HX2).2.2
        have hb1 := (unhide HBX).grown hgrow (by omega) (fun j hj => by have := (World.ownsRow.lt hown j hj).1; omega)
        have HT4 : Hid ((w3.setCell ⟨w.heap.size + 1 + 1, 0, none⟩ v').ownsRow (w.heap.size + 3) 66 6 v' (k + 1) (freeVs (l.take (k + 1)))) := by
          show World.ownsRow _ _ _ _ _ _ _
          rw [unhide HTK]
          exact ownsRow_block hown' fun b hb => blk_setCell_other _ ⟨w.heap.size + 1 + 1, 0, none⟩ _ _ (by show b ≠ w.heap.size + 1 + 1; omega)
        have HX4 := hide (And.intro ((blk_setCell_other w3 ⟨w.heap.size + 1 + 1, 0, none⟩ v' w.heap.size (show w.heap.size ≠ w.heap.size + 1 + 1 by omega)).trans u1) (And.intro ((blk_setCell_other w3 ⟨w.heap.size + 1 + 1, 0, none⟩ v' (w.heap.size + 1) (show w.heap.size + 1 ≠ w.heap.size + 1 + 1 by omega)).trans u2) (show (w3.setCell ⟨w.heap.size + 1 + 1, 0, none⟩ v').heap[w.heap.size + 1 + 1]? = some (.cells #[v', .int .i64 room] 25 (0, 0)) by rw [blk_set u3 0 v']; rfl)))
        have HB4 : Hid (Below w.heap.size w (w3.setCell ⟨w.heap.size + 1 + 1, 0, none⟩ v')) := Below.setCell hb1 (Nat.le_of_lt (show w.heap.size < w.heap.size + 1 + 1 by omega)) v'
        obtain ⟨x0, x1, xf⟩ := two u3
        have xf0 := xf 0
        obtain ⟨ga', gc', hv'⟩ : ∃ ga gc, v' = .slice ga (k + 1) gc := by
          rcases hown'.2 with ⟨hv, h0⟩ | ⟨g, cap, cur, hv, _⟩
          · omega
          · exact ⟨_, _, hv⟩
        subst hv'
        clear hown hown' hgrow hbk hnb u1 u2 u3 hb1 HX2 HBX hnews xf
        go_wp2_with fail
        go_roundw
        case rel => exact ⟨k + 1, _, by omega, by go_num, HT4, HX4, HB4⟩
        case measure => simp [intOf]; omega
    · have j1 : ¬ (k : Int) < (l.length : Int) := by omega
      have hke : k = l.length := by omega
      have hown := unhide HO
      rw [hke, List.take_length] at hown
      obtain ⟨fa, fc, hv, hPF⟩ := PacksAt.free hown (unhide HNM) hl8
      subst hv
      have sf0 := sf 0
      have sf1 := sf 1
      have y0 : ((wo.setCell ⟨w.heap.size + 1, 0, none⟩ (.slice fa l.length fc)).setCell ⟨w.heap.size + 1, 1, none⟩ (.int .i64 room)).heap[w.heap.size + 1]? = some (.cells #[.slice fa l.length fc, .int .i64 room] 25 (0, 0)) := by
        rw [blk_set (blk_set t2 0 _) 1 _]; rfl
      obtain ⟨Y0, Y1, _⟩ := two y0
      have HPF : Hid (PacksAt (Old ((wo.setCell ⟨w.heap.size + 1, 0, none⟩ (.slice fa l.length fc)).setCell ⟨w.heap.size + 1, 1, none⟩ (.int .i64 room))) ((wo.setCell ⟨w.heap.size + 1, 0, none⟩ (.slice fa l.length fc)).setCell ⟨w.heap.size + 1, 1, none⟩ (.int .i64 room)) fa (l.map freeP)) := by
        have hown2 := ownsRow_block (w' := (wo.setCell ⟨w.heap.size + 1, 0, none⟩ (.slice fa l.length fc)).setCell ⟨w.heap.size + 1, 1, none⟩ (.int .i64 room)) hown fun b hb => (blk_setCell_other _ ⟨w.heap.size + 1, 1, none⟩ _ _ (by show b ≠ w.heap.size + 1; omega)).trans (blk_setCell_other _ ⟨w.heap.size + 1, 0, none⟩ _ _ (by show b ≠ w.heap.size + 1; omega))
        obtain ⟨fa2, fc2, he, hP2⟩ := PacksAt.free hown2 (unhide HNM) hl8
        simp at he
        obtain ⟨rfl, rfl⟩ := he
        exact hP2
      have HB5 : Hid (Below w.heap.size w ((wo.setCell ⟨w.heap.size + 1, 0, none⟩ (.slice fa l.length fc)).setCell ⟨w.heap.size + 1, 1, none⟩ (.int .i64 room))) := Below.setCell (Below.setCell (unhide HB) (Nat.le_succ _) _) (Nat.le_succ _) _
      clear hPF hown HO HX t1 t2 t3 y0 sf xf
      go_wp2_with fail
      exact bodyPost_ret (v := .agg #[.slice fa l.length fc, .int .i64 room]) (by simp [results, Tryz.results8, go_sem, Y0, Y1]) rfl ⟨⟨_, ⟨_, rfl⟩, unhide HPF⟩, unhide HB5⟩
end Go.Proofs.YthkhaemlcmkkjasGreat
