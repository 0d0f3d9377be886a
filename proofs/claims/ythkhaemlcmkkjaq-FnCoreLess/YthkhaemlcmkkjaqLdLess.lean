/- Clauses without one: the law's own ldLess. -/
import Derived.Test.YthkhaemlcmkkjaqGReg
import Derived.Test.YthkhaemlcmkkjaqSatE
import Derived.Test.YthkhaemlcmkkjaqGGrow
import Derived.Test.YthkhaemlcmkkjaqSuG
import Derived.Test.YthkhaemlcmkkjaqGDcn
import Derived.Maps.AppendAt
import Derived.Deep.QuietTactic
import Derived.BigQuiet
namespace Go.Proofs.Ythkhaemlcmkkjaq
set_option linter.unusedVariables false
set_option linter.unusedSimpArgs false
open Go.RowKit Go.Deep

theorem Try.infoLL : (Try.prog.info? 33).map (fun i => (i.zero, i.size, i.bytes)) = some (some (.slice none 0 0), 1, 24) := by kernel_rfl
/-- Rows laid one behind the other by two appends. -/
structure CLs (W : World) (p q : List Value) (b : Bool) (us : List Value) (x : World) : Prop where
  below : Below W.heap.size W x
  r0 : ∀ y, us = [y] → x.ownsRow W.heap.size 33 1 y 0 []
  r1 : ∀ y z, us = [y, z] → x.ownsRow W.heap.size 33 1 z p.length p
  r2 : ∀ y z u, us = [y, z, u] → x.ownsRow W.heap.size 33 1 u (p ++ q).length (p ++ q)
theorem CLs.on {W : World} {p q : List Value} {b b' : Bool} {us : List Value} {x y : World} (h : CLs W p q b us x) (hb : Below x.heap.size x y) : CLs W p q b' us y :=
  ⟨h.below.trans (hb.mono h.below.size), fun _ hz => ownsRow_on (h.r0 _ hz) hb, fun _ _ hz => ownsRow_on (h.r1 _ _ hz) hb, fun _ _ _ hz => ownsRow_on (h.r2 _ _ _ hz) hb⟩
theorem getD_less {α : Type} {l : List α} {d : α} {k i : Nat} (hk : k < l.length) : (lessL l k).getD i d = l.getD (if i < k then i else i + 1) d := by
  unfold lessL
  by_cases h : i < k
  · rw [if_pos h]
    simp [List.getD, List.getElem?_append, List.length_take, show i < min k l.length by omega, List.getElem?_take, h, show i < l.length by omega]
  · rw [if_neg h]
    have e : min k l.length = k := by omega
    simp [List.getD, List.getElem?_append, List.length_take, e, h, List.getElem?_drop]
    rw [show k + 1 + (i - k) = i + 1 by omega]

/-- What ldLess answers: some of the clauses. -/
def LessOut (vars : Int) (cs : List (List Int)) (w' : World) (e : Ending) : Prop := ∃ (a' : Option Addr) (cs' : List (List Int)) (c' : Nat), e = .returned (.agg #[.int .i64 vars, .slice a' cs'.length c']) ∧ ClsAt w' a' cs' ∧ cs'.length ≤ cs.length ∧ ∀ c, c ∈ cs' → c ∈ cs

set_option maxRecDepth 100000 in
set_option maxHeartbeats 8000000 in
theorem ldLess_any (vars : Int) (a : Option Addr) (cs : List (List Int)) (cap : Nat) (hcap : cs = [] ∨ ∃ g, a = some ⟨g, 0, none⟩ ∧ cs.length ≤ cap ∧ cap ≤ maxLen) (n : Nat) (hn : n ≤ maxLen) (w : World) (h : ClsAt w a cs) (hl : cs.length ≤ 100000) :
    Calls Try.prog 14 #[.agg #[.int .i64 vars, .slice a cs.length cap], .int .i64 (n : Int)] w fun e w' => LessOut vars cs w' e ∧ Below w.heap.size w w' := by
  have hmx := hn
  unfold maxLen at hmx
  obtain ⟨w3, hw3⟩ : ∃ w3, w3 = (w.alloc (.cells #[.int .i64 vars, .slice a cs.length cap] 25)).alloc (.cells #[.int .i64 0, .slice none 0 0] 25) := ⟨_, rfl⟩
  have z3 : w3.heap.size = w.heap.size + 2 := by rw [hw3]; simp
  have s1 : (w.alloc (.cells #[.int .i64 vars, .slice a cs.length cap] 25)).heap.size = w.heap.size + 1 := by simp
  have hb3 : Below w.heap.size w w3 := by rw [hw3]; exact ((Below.refl _ _).alloc (Nat.le_refl _) _).alloc (by omega) _
  have hq1 : w3.heap[w.heap.size]? = some (cnfCells vars (.slice a cs.length cap)) := by rw [hw3, blk_alloc_lt _ _ _ (by omega)]; exact blk_alloc_new _ _
  have hq2 : w3.heap[w.heap.size + 1]? = some (cnfCells 0 (.slice none 0 0)) := by rw [hw3, ← s1]; exact blk_alloc_new _ _
  obtain ⟨x0, x1, xf⟩ := two hq1
  have HB3 := hide hb3
  have HR3 := hide hq2
  clear hb3 hq1 hq2 s1 xf
  by_cases hnil : cs = []
  · subst hnil
    obtain ⟨r0, r1, rf⟩ := two (unhide HR3)
    have h1 := blk_set (unhide HR3) 0 (.int .i64 vars)
    have hy : ((w3.setCell ⟨w.heap.size + 1, 0, none⟩ (.int .i64 vars)).setCell ⟨w.heap.size + 1, 1, none⟩ (.slice a 0 cap)).heap[w.heap.size + 1]? = some (cnfCells vars (.slice a 0 cap)) := by rw [blk_set h1 1 _]; rfl
    obtain ⟨q0, q1, _⟩ := two hy
    have hB : Below w.heap.size w ((w3.setCell ⟨w.heap.size + 1, 0, none⟩ (.int .i64 vars)).setCell ⟨w.heap.size + 1, 1, none⟩ (.slice a 0 cap)) := Below.setCell (Below.setCell (unhide HB3) (by show w.heap.size ≤ w.heap.size + 1; omega) _) (by show w.heap.size ≤ w.heap.size + 1; omega) _
    have HBB := hide hB
    have rf0 := rf 0
    have rf1 := rf 1
    clear hB hy h1 rf HR3 HB3
    go_enter Try.func14, Try.ntmps14
    go_upto_region 1 with fail
    simp only [List.length_nil] at x1 hw3
    rw [← hw3]
    clear hw3
    go_wp2_with fail
    exact bodyPost_ret (v := .agg #[.int .i64 vars, .slice a 0 cap]) (by simp [results, Try.results14, go_sem, q0, q1]) rfl ⟨⟨a, [], cap, rfl, ⟨by simp, .inl rfl⟩, Nat.le_refl _, fun c hc => hc⟩, unhide HBB⟩
  · obtain ⟨i0, hi, hz0, hz1, hz2⟩ := info_parts Try.infoLL
    obtain ⟨sg, rfl, hsl, hsm⟩ : ∃ g, a = some ⟨g, 0, none⟩ ∧ cs.length ≤ cap ∧ cap ≤ maxLen := by
      rcases hcap with h0 | h0
      · exact absurd h0 hnil
      · exact h0
    have hpos : 0 < cs.length := List.length_pos_iff.2 hnil
    have hmc := hsm
    unfold maxLen at hmc
    obtain ⟨hsb, hcells⟩ : sg < w.heap.size ∧ ∀ i, i < cs.length → ∃ a' c, w.cell? ⟨sg, i, none⟩ = some (.slice a' (cs.getD i []).length c) ∧ SetAt w a' (cs.getD i []) := by
      rcases h.2 with h0 | ⟨b, o, ha, hb, hc⟩
      · exact absurd h0 hnil
      · simp only [Option.some.injEq, Addr.mk.injEq, and_true] at ha
        obtain ⟨rfl, rfl⟩ := ha
        refine ⟨hb, fun i hi => ?_⟩
        have := hc i hi
        rw [Nat.zero_add] at this
        exact this
    obtain ⟨xs, hxl, hxc, hxr⟩ : ∃ vs : List Value, vs.length = cs.length ∧ (∀ j u, vs[j]? = some u → w.cell? ⟨sg, j, none⟩ = some u) ∧ ∀ i, i < cs.length → ∃ a' c, vs.getD i undef = .slice a' (cs.getD i []).length c ∧ SetAt w a' (cs.getD i []) := by
      refine ⟨(List.range cs.length).map fun i => (w.cell? ⟨sg, i, none⟩).getD undef, by simp, fun j u hj => ?_, fun i hi => ?_⟩
      · rw [List.getElem?_map] at hj
        obtain ⟨i, hi, e⟩ := Option.map_eq_some_iff.1 hj
        have hjl : j < cs.length := by have := (List.getElem?_eq_some_iff.1 hi).1; simpa using this
        have hij : i = j := by rw [List.getElem?_range hjl] at hi; simpa using hi.symm
        subst hij
        obtain ⟨a', c, h1, _⟩ := hcells i hjl
        rw [h1, ← e, h1]
        rfl
      · obtain ⟨a', c, h1, h2⟩ := hcells i hi
        exact ⟨a', c, by simp [List.getD, hi, h1], h2⟩
    have hone : ∀ u ∈ xs, u.oneCell' = true := fun u hu => by
      obtain ⟨i, hi', he⟩ := List.mem_iff_getElem.1 hu
      obtain ⟨a', c', e, _⟩ := hxr i (by rw [← hxl]; exact hi')
      rw [show xs.getD i undef = u by simp [List.getD, hi', he]] at e
      rw [e]
      rfl
    obtain ⟨k, hkd⟩ : ∃ k, k = n % cs.length := ⟨_, rfl⟩
    have hk : k < cs.length := by rw [hkd]; exact Nat.mod_lt _ hpos
    have hmod : Int.tmod (n : Int) (cs.length : Int) = (k : Int) := by rw [Int.tmod_eq_emod_of_nonneg (by omega), hkd]; norm_cast
    have hwk : IntKind.i64.wrap (k : Int) = (k : Int) := by rw [IntKind.wrap_i64]; omega
    have hw1 : IntKind.i64.wrap ((k : Int) + 1) = (k : Int) + 1 := by rw [IntKind.wrap_i64]; omega
    have hem : ¬ cs.length = 0 := by omega
    have hem2 : ¬ (cs.length : Int) = 0 := by omega
    have hemb : ((cs.length : Int) == 0) = false := by rw [beq_eq_false_iff_ne]; omega
    have j1 : (k : Int) < (cs.length : Int) := by omega
    have j1' : (k : Int) ≤ (cs.length : Int) := by omega
    have j0 : (0 : Int) ≤ (k : Int) := by omega
    have j3 : (k : Int) ≤ (cap : Int) := by omega
    have j4 : (k : Int) + 1 ≤ (cs.length : Int) := by omega
    have j5 : (0 : Int) ≤ (k : Int) + 1 := by omega
    have j6 : (k : Int) + 1 ≤ (cap : Int) := by omega
    have j7 : (cs.length : Int) ≤ (cap : Int) := by omega
    have js : cap ≠ k := by omega
    have HX := hide hxr
    have HXC := hide hxc
    have HONE := hide hone
    clear hkd h hcells hxr hxc hone hnil hcap
    go_enter Try.func14, Try.ntmps14
    go_upto_region 1 with fail
    rw [← hw3]
    clear hw3
    by_cases hsc : cap = k + 1
    · have hn0 : cs.length - (k + 1) = 0 := by omega
      subst hsc
      have j8 : (k : Int) ≤ (k : Int) + 1 := by omega
      have j8' : (k : Int) ≤ ((k + 1 : Nat) : Int) := by omega
      go_upto_region 4 with fail
      refine wp_region_mix (k := 100) 14 [2, 7, 13] [.pointer (some ⟨w.heap.size, 0, none⟩), .int .i64 vars, undef, .pointer (some ⟨w.heap.size, 1, none⟩), .slice (some ⟨sg, 0, none⟩) cs.length (k + 1), .int .i64 (k : Int), .slice (some ⟨sg, 0, none⟩) k (k + 1), undef, .pointer (some ⟨w.heap.size, 1, none⟩), .slice (some ⟨sg, 0, none⟩) cs.length (k + 1), .int .i64 (k : Int), .int .i64 ((k : Int) + 1), .slice (some ⟨sg, 0, none⟩) (0) (0), undef] (CLs w3 (xs.take k) (xs.drop (k + 1))) (by kernel_rfl) (by kernel_rfl) (by kernel_rfl) (by kernel_rfl) (by kernel_rfl) (by kernel_rfl) ⟨(Below.refl _ _).drew, (fun _ h => by cases h), (fun _ _ h => by cases h), (fun _ _ _ h => by cases h)⟩ ?_ ?_ ?_
      · intro full hfull i oo hi' hns ho x fl us hC hb
        simp [putAll, slotOf, Act.put] at hfull
        subst hfull
        have y0 := (hC.below.cell (p := ⟨w.heap.size, 0, none⟩) (by show w.heap.size < w3.heap.size; omega)).trans x0
        have y1 := (hC.below.cell (p := ⟨w.heap.size, 1, none⟩) (by show w.heap.size < w3.heap.size; omega)).trans x1
        have hC0 := hC.on (b' := fl) (Below.refl _ _)
        match i with
        | 0 => simp at ho; subst ho; simp [gwp, Region.wanted, yielded]; go_simp; first | done | exact hC0 | exact ⟨rfl, hC0⟩ | (simp; exact hC0) | (refine ⟨by simp <;> omega, hC0⟩)
        | 1 => simp at ho; subst ho; simp [gwp, Region.wanted, yielded]; go_simp; first | done | exact hC0 | exact ⟨rfl, hC0⟩ | (simp; exact hC0) | (refine ⟨by simp <;> omega, hC0⟩)
        | 2 => simp at hns
        | 3 => simp at ho; subst ho; simp [gwp, Region.wanted, yielded]; go_simp; first | done | exact hC0 | exact ⟨rfl, hC0⟩ | (simp; exact hC0) | (refine ⟨by simp <;> omega, hC0⟩)
        | 4 => simp at ho; subst ho; simp [gwp, Region.wanted, yielded]; go_simp; first | done | exact hC0 | exact ⟨rfl, hC0⟩ | (simp; exact hC0) | (refine ⟨by simp <;> omega, hC0⟩)
        | 5 => simp at ho; subst ho; simp [gwp, Region.wanted, yielded]; go_simp; first | done | exact hC0 | exact ⟨rfl, hC0⟩ | (simp; exact hC0) | (refine ⟨by simp <;> omega, hC0⟩)
        | 6 => simp at ho; subst ho; simp [gwp, Region.wanted, yielded]; go_simp; first | done | exact hC0 | exact ⟨rfl, hC0⟩ | (simp; exact hC0) | (refine ⟨by simp <;> omega, hC0⟩)
        | 7 => simp at hns
        | 8 => simp at ho; subst ho; simp [gwp, Region.wanted, yielded]; go_simp; first | done | exact hC0 | exact ⟨rfl, hC0⟩ | (simp; exact hC0) | (refine ⟨by simp <;> omega, hC0⟩)
        | 9 => simp at ho; subst ho; simp [gwp, Region.wanted, yielded]; go_simp; first | done | exact hC0 | exact ⟨rfl, hC0⟩ | (simp; exact hC0) | (refine ⟨by simp <;> omega, hC0⟩)
        | 10 => simp at ho; subst ho; simp [gwp, Region.wanted, yielded]; go_simp; first | done | exact hC0 | exact ⟨rfl, hC0⟩ | (simp; exact hC0) | (refine ⟨by simp <;> omega, hC0⟩)
        | 11 => simp at ho; subst ho; simp [gwp, Region.wanted, yielded]; go_simp; first | done | exact hC0 | exact ⟨rfl, hC0⟩ | (simp; exact hC0) | (refine ⟨by simp <;> omega, hC0⟩)
        | 12 => simp at ho; subst ho; simp [gwp, Region.wanted, yielded]; go_simp; first | done | exact hC0 | exact ⟨rfl, hC0⟩ | (simp; exact hC0) | (refine ⟨by simp <;> omega, hC0⟩)
        | 13 => simp at hns
        | i + 14 => omega
      · intro full hfull us j hj oo ho x fl hC
        simp [putAll, slotOf, Act.put] at hfull
        subst hfull
        have bx := hC.below
        have hxc2 : ∀ j u, xs[j]? = some u → x.cell? ⟨sg, j, none⟩ = some u := fun j u hju => ((((unhide HB3).trans (bx.mono (unhide HB3).size)).cell (p := ⟨sg, j, none⟩) hsb)).trans (unhide HXC j u hju)
        match us with
        | [] =>
          simp at hj
          subst hj
          simp at ho
          subst ho
          simp [gwp, Region.wanted, yielded, putP]
          go_simp
          have h1 := hC.on (b' := fl) ((Below.refl x.heap.size x).alloc (Nat.le_refl _) (.cells #[] 33))
          refine ⟨h1.below, fun y hy => ?_, (fun y z h => by cases h), (fun y z u h => by cases h)⟩
          cases hy
          have := World.ownsRow_lit (base := w3.heap.size) (e := 33) (size := 1) x #[] 0 bx.size (Nat.zero_le _) rfl
          simpa using this
        | [y] =>
          simp at hj
          subst hj
          simp at ho
          subst ho
          have hown := hC.r0 y rfl
          obtain ⟨v', w', hr, h2, h3, _, _⟩ := run_append_own_at (P := Try.prog) (w := x) w3.heap.size 23 23 33 i0 (.slice none 0 0) 1 24 Try.underlying23 hi hz0 hz1 hz2 rfl (by decide) y 0 [] hown ⟨sg, 0, none⟩ k (k + 1) (xs.take k) (by simp; omega) (fun j u hju => by
            rw [List.getElem?_take] at hju
            split at hju
            · have := hxc2 j u hju
              by_cases h0 : j = 0
              · subst h0; simpa [Addr.add] using this
              · simpa [Addr.add, h0] using this
            · cases hju) (fun u hu => unhide HONE u (List.mem_of_mem_take hu)) (by unfold maxLen; omega) (by omega) bx.size
          simp only [gwp, Region.wanted, yielded, if_true]
          refine wp_append_runV _ _ 23 rfl y (.slice (some ⟨sg, 0, none⟩) k (k + 1)) v' w' ?_ ?_ hr ⟨v', rfl, ⟨bx.grown h3 bx.size (fun j hj => (World.ownsRow.lt hown j hj).1), (fun y h => by cases h), fun a z h => ?_, (fun a z u h => by cases h)⟩⟩
          · simp [putP, slotOf, Act.put, Act.eval]
          · simp [putP, slotOf, Act.put, Act.eval]
          · cases h
            have e : (xs.take k).length = 0 + k := by simp; omega
            rw [e]
            simpa using h2
        | [y, z] =>
          simp at hj
          subst hj
          simp at ho
          subst ho
          have hown := hC.r1 y z rfl
          have e0 : (xs.take k).length = k := by simp; omega
          rw [e0] at hown
          obtain ⟨v', w', hr, h2, h3, _, _⟩ := run_append_own_at (P := Try.prog) (w := x) w3.heap.size 23 23 33 i0 (.slice none 0 0) 1 24 Try.underlying23 hi hz0 hz1 hz2 rfl (by decide) z k (xs.take k) hown ⟨sg, 0, none⟩ (0) (0) (xs.drop (k + 1)) (by simp; omega) (fun j u hju => by rw [List.drop_eq_nil_of_le (by omega)] at hju; simp at hju) (fun u hu => unhide HONE u (List.mem_of_mem_drop hu)) (by unfold maxLen; omega) (by omega) bx.size
          simp only [gwp, Region.wanted, yielded, if_true]
          refine wp_append_runV _ _ 23 rfl z (.slice (some ⟨sg, 0, none⟩) (0) (0)) v' w' ?_ ?_ hr ⟨v', rfl, ⟨bx.grown h3 bx.size (fun j hj => (World.ownsRow.lt hown j hj).1), (fun y h => by cases h), (fun a z h => by cases h), fun a b u h => ?_⟩⟩
          · simp [putP, slotOf, Act.put, Act.eval]
          · simp [putP, slotOf, Act.put, Act.eval]
          · cases h
            have e : (xs.take k ++ xs.drop (k + 1)).length = k + (0) := by simp; omega
            rw [e]
            exact h2
        | _ :: _ :: _ :: _ => simp at hj
      intro full hfull us w7 hus hC
      simp [putAll, slotOf, Act.put] at hfull
      subst hfull
      match us, hus with
      | [y, z, u], _ =>
      have hrow := hC.r2 y z u rfl
      have hlen : (xs.take k ++ xs.drop (k + 1)).length = cs.length - 1 := by simp; omega
      rw [hlen] at hrow
      have hres := (hC.below.block (w.heap.size + 1) (by omega)).trans (unhide HR3)
      have hlow := (unhide HB3).trans (hC.below.mono (unhide HB3).size)
      clear hC HR3 HB3
      obtain ⟨oa, oc, hu⟩ : ∃ oa oc, u = .slice oa (cs.length - 1) oc := by
        rcases hrow.2 with ⟨hv, h0⟩ | ⟨g, cp, cur, hv, _⟩
        · exact ⟨none, 0, by rw [hv, h0]⟩
        · exact ⟨_, _, hv⟩
      subst hu
      obtain ⟨r0, r1, rf⟩ := two hres
      have rf0 := rf 0
      have rf1 := rf 1
      have h1 := blk_set hres 0 (.int .i64 vars)
      have hy : ((w7.setCell ⟨w.heap.size + 1, 0, none⟩ (.int .i64 vars)).setCell ⟨w.heap.size + 1, 1, none⟩ (.slice oa (cs.length - 1) oc)).heap[w.heap.size + 1]? = some (cnfCells vars (.slice oa (cs.length - 1) oc)) := by rw [blk_set h1 1 _]; rfl
      obtain ⟨q0, q1, _⟩ := two hy
      have hB : Below w.heap.size w ((w7.setCell ⟨w.heap.size + 1, 0, none⟩ (.int .i64 vars)).setCell ⟨w.heap.size + 1, 1, none⟩ (.slice oa (cs.length - 1) oc)) := Below.setCell (Below.setCell hlow (by show w.heap.size ≤ w.heap.size + 1; omega) _) (by show w.heap.size ≤ w.heap.size + 1; omega) _
      have hC : ClsAt ((w7.setCell ⟨w.heap.size + 1, 0, none⟩ (.int .i64 vars)).setCell ⟨w.heap.size + 1, 1, none⟩ (.slice oa (cs.length - 1) oc)) oa (lessL cs k) := by
        refine ⟨by rw [lessL_len hk]; omega, ?_⟩
        rcases hrow.2 with ⟨_, h0⟩ | ⟨g, cp, cur, hv, hg, hcc, hcap', hcm, hsz, hx⟩
        · exact .inl (List.length_eq_zero_iff.1 (by rw [lessL_len hk]; exact h0))
        simp only [Value.slice.injEq, true_and] at hv
        obtain ⟨rfl, rfl⟩ := hv
        refine .inr ⟨g, 0, rfl, ?_, fun i hi => ?_⟩
        · have := (Array.getElem?_eq_some_iff.1 hcc).1
          rw [nblk_setCell, nblk_setCell]; exact this
        · have hi' : i < cs.length - 1 := by rw [lessL_len hk] at hi; exact hi
          have ei : cur.toList[i]? = (xs.take k ++ xs.drop (k + 1))[i]? := by
            rw [← hx, List.getElem?_take, if_pos (by omega)]
          have hcell : ((w7.setCell ⟨w.heap.size + 1, 0, none⟩ (.int .i64 vars)).setCell ⟨w.heap.size + 1, 1, none⟩ (.slice (some ⟨g, 0, none⟩) (cs.length - 1) oc)).cell? ⟨g, 0 + i, none⟩ = (xs.take k ++ xs.drop (k + 1))[i]? := by
            rw [World.cell?_of_block (w := w7) (a := ⟨g, 0 + i, none⟩) ((blk_setCell_other _ _ _ _ (by show g ≠ w.heap.size + 1; omega)).trans (blk_setCell_other _ _ _ _ (by show g ≠ w.heap.size + 1; omega))), ← ei]
            simp only [World.cell?, hcc, Nat.zero_add]
            simp
          have hgx := getD_less (l := xs) (d := undef) (k := k) (i := i) (by omega)
          have hgc := getD_less (l := cs) (d := []) (k := k) (i := i) hk
          obtain ⟨a1, c1, e1, e2⟩ := unhide HX (if i < k then i else i + 1) (by split <;> omega)
          rw [← hgc] at e1 e2
          rw [← hgx] at e1
          refine ⟨a1, c1, ?_, e2.on hB⟩
          rw [hcell, ← e1]
          have hil : i < (lessL xs k).length := by rw [lessL_len (by omega)]; omega
          show (lessL xs k)[i]? = _
          simp [List.getD, hil]
      have HF := hide (And.intro hC hB)
      have hll := lessL_len hk
      clear hC hB hy h1 rf hrow hres hlow
      simp [putP, slotOf, Act.put]
      go_wp2_with fail
      obtain ⟨f1, f2⟩ := unhide HF
      exact bodyPost_ret (v := .agg #[.int .i64 vars, .slice oa (cs.length - 1) oc]) (by simp [results, Try.results14, go_sem, q0, q1]) rfl ⟨⟨oa, lessL cs k, oc, by rw [hll], f1, by rw [hll]; omega, fun c hc => lessL_mem hc⟩, f2⟩
    · go_upto_region 4 with fail
      refine wp_region_mix (k := 100) 14 [2, 7, 13] [.pointer (some ⟨w.heap.size, 0, none⟩), .int .i64 vars, undef, .pointer (some ⟨w.heap.size, 1, none⟩), .slice (some ⟨sg, 0, none⟩) cs.length (cap), .int .i64 (k : Int), .slice (some ⟨sg, 0, none⟩) k (cap), undef, .pointer (some ⟨w.heap.size, 1, none⟩), .slice (some ⟨sg, 0, none⟩) cs.length (cap), .int .i64 (k : Int), .int .i64 ((k : Int) + 1), .slice (some ⟨sg, k + 1, none⟩) (cs.length - (k + 1)) (cap - (k + 1)), undef] (CLs w3 (xs.take k) (xs.drop (k + 1))) (by kernel_rfl) (by kernel_rfl) (by kernel_rfl) (by kernel_rfl) (by kernel_rfl) (by kernel_rfl) ⟨(Below.refl _ _).drew, (fun _ h => by cases h), (fun _ _ h => by cases h), (fun _ _ _ h => by cases h)⟩ ?_ ?_ ?_
      · intro full hfull i oo hi' hns ho x fl us hC hb
        simp [putAll, slotOf, Act.put] at hfull
        subst hfull
        have y0 := (hC.below.cell (p := ⟨w.heap.size, 0, none⟩) (by show w.heap.size < w3.heap.size; omega)).trans x0
        have y1 := (hC.below.cell (p := ⟨w.heap.size, 1, none⟩) (by show w.heap.size < w3.heap.size; omega)).trans x1
        have hC0 := hC.on (b' := fl) (Below.refl _ _)
        match i with
        | 0 => simp at ho; subst ho; simp [gwp, Region.wanted, yielded]; go_simp; first | done | exact hC0 | exact ⟨rfl, hC0⟩ | (simp; exact hC0) | (refine ⟨by simp <;> omega, hC0⟩)
        | 1 => simp at ho; subst ho; simp [gwp, Region.wanted, yielded]; go_simp; first | done | exact hC0 | exact ⟨rfl, hC0⟩ | (simp; exact hC0) | (refine ⟨by simp <;> omega, hC0⟩)
        | 2 => simp at hns
        | 3 => simp at ho; subst ho; simp [gwp, Region.wanted, yielded]; go_simp; first | done | exact hC0 | exact ⟨rfl, hC0⟩ | (simp; exact hC0) | (refine ⟨by simp <;> omega, hC0⟩)
        | 4 => simp at ho; subst ho; simp [gwp, Region.wanted, yielded]; go_simp; first | done | exact hC0 | exact ⟨rfl, hC0⟩ | (simp; exact hC0) | (refine ⟨by simp <;> omega, hC0⟩)
        | 5 => simp at ho; subst ho; simp [gwp, Region.wanted, yielded]; go_simp; first | done | exact hC0 | exact ⟨rfl, hC0⟩ | (simp; exact hC0) | (refine ⟨by simp <;> omega, hC0⟩)
        | 6 => simp at ho; subst ho; simp [gwp, Region.wanted, yielded]; go_simp; first | done | exact hC0 | exact ⟨rfl, hC0⟩ | (simp; exact hC0) | (refine ⟨by simp <;> omega, hC0⟩)
        | 7 => simp at hns
        | 8 => simp at ho; subst ho; simp [gwp, Region.wanted, yielded]; go_simp; first | done | exact hC0 | exact ⟨rfl, hC0⟩ | (simp; exact hC0) | (refine ⟨by simp <;> omega, hC0⟩)
        | 9 => simp at ho; subst ho; simp [gwp, Region.wanted, yielded]; go_simp; first | done | exact hC0 | exact ⟨rfl, hC0⟩ | (simp; exact hC0) | (refine ⟨by simp <;> omega, hC0⟩)
        | 10 => simp at ho; subst ho; simp [gwp, Region.wanted, yielded]; go_simp; first | done | exact hC0 | exact ⟨rfl, hC0⟩ | (simp; exact hC0) | (refine ⟨by simp <;> omega, hC0⟩)
        | 11 => simp at ho; subst ho; simp [gwp, Region.wanted, yielded]; go_simp; first | done | exact hC0 | exact ⟨rfl, hC0⟩ | (simp; exact hC0) | (refine ⟨by simp <;> omega, hC0⟩)
        | 12 => simp at ho; subst ho; simp [gwp, Region.wanted, yielded]; go_simp; first | done | exact hC0 | exact ⟨rfl, hC0⟩ | (simp; exact hC0) | (refine ⟨by simp <;> omega, hC0⟩)
        | 13 => simp at hns
        | i + 14 => omega
      · intro full hfull us j hj oo ho x fl hC
        simp [putAll, slotOf, Act.put] at hfull
        subst hfull
        have bx := hC.below
        have hxc2 : ∀ j u, xs[j]? = some u → x.cell? ⟨sg, j, none⟩ = some u := fun j u hju => ((((unhide HB3).trans (bx.mono (unhide HB3).size)).cell (p := ⟨sg, j, none⟩) hsb)).trans (unhide HXC j u hju)
        match us with
        | [] =>
          simp at hj
          subst hj
          simp at ho
          subst ho
          simp [gwp, Region.wanted, yielded, putP]
          go_simp
          have h1 := hC.on (b' := fl) ((Below.refl x.heap.size x).alloc (Nat.le_refl _) (.cells #[] 33))
          refine ⟨h1.below, fun y hy => ?_, (fun y z h => by cases h), (fun y z u h => by cases h)⟩
          cases hy
          have := World.ownsRow_lit (base := w3.heap.size) (e := 33) (size := 1) x #[] 0 bx.size (Nat.zero_le _) rfl
          simpa using this
        | [y] =>
          simp at hj
          subst hj
          simp at ho
          subst ho
          have hown := hC.r0 y rfl
          obtain ⟨v', w', hr, h2, h3, _, _⟩ := run_append_own_at (P := Try.prog) (w := x) w3.heap.size 23 23 33 i0 (.slice none 0 0) 1 24 Try.underlying23 hi hz0 hz1 hz2 rfl (by decide) y 0 [] hown ⟨sg, 0, none⟩ k (cap) (xs.take k) (by simp; omega) (fun j u hju => by
            rw [List.getElem?_take] at hju
            split at hju
            · have := hxc2 j u hju
              by_cases h0 : j = 0
              · subst h0; simpa [Addr.add] using this
              · simpa [Addr.add, h0] using this
            · cases hju) (fun u hu => unhide HONE u (List.mem_of_mem_take hu)) (by unfold maxLen; omega) (by omega) bx.size
          simp only [gwp, Region.wanted, yielded, if_true]
          refine wp_append_runV _ _ 23 rfl y (.slice (some ⟨sg, 0, none⟩) k (cap)) v' w' ?_ ?_ hr ⟨v', rfl, ⟨bx.grown h3 bx.size (fun j hj => (World.ownsRow.lt hown j hj).1), (fun y h => by cases h), fun a z h => ?_, (fun a z u h => by cases h)⟩⟩
          · simp [putP, slotOf, Act.put, Act.eval]
          · simp [putP, slotOf, Act.put, Act.eval]
          · cases h
            have e : (xs.take k).length = 0 + k := by simp; omega
            rw [e]
            simpa using h2
        | [y, z] =>
          simp at hj
          subst hj
          simp at ho
          subst ho
          have hown := hC.r1 y z rfl
          have e0 : (xs.take k).length = k := by simp; omega
          rw [e0] at hown
          obtain ⟨v', w', hr, h2, h3, _, _⟩ := run_append_own_at (P := Try.prog) (w := x) w3.heap.size 23 23 33 i0 (.slice none 0 0) 1 24 Try.underlying23 hi hz0 hz1 hz2 rfl (by decide) z k (xs.take k) hown ⟨sg, k + 1, none⟩ (cs.length - (k + 1)) (cap - (k + 1)) (xs.drop (k + 1)) (by simp; omega) (fun j u hju => by
            rw [List.getElem?_drop] at hju
            have := hxc2 (k + 1 + j) u hju
            by_cases h0 : j = 0
            · subst h0; simpa [Addr.add] using this
            · simpa [Addr.add, h0] using this) (fun u hu => unhide HONE u (List.mem_of_mem_drop hu)) (by unfold maxLen; omega) (by omega) bx.size
          simp only [gwp, Region.wanted, yielded, if_true]
          refine wp_append_runV _ _ 23 rfl z (.slice (some ⟨sg, k + 1, none⟩) (cs.length - (k + 1)) (cap - (k + 1))) v' w' ?_ ?_ hr ⟨v', rfl, ⟨bx.grown h3 bx.size (fun j hj => (World.ownsRow.lt hown j hj).1), (fun y h => by cases h), (fun a z h => by cases h), fun a b u h => ?_⟩⟩
          · simp [putP, slotOf, Act.put, Act.eval]
          · simp [putP, slotOf, Act.put, Act.eval]
          · cases h
            have e : (xs.take k ++ xs.drop (k + 1)).length = k + (cs.length - (k + 1)) := by simp; omega
            rw [e]
            exact h2
        | _ :: _ :: _ :: _ => simp at hj
      intro full hfull us w7 hus hC
      simp [putAll, slotOf, Act.put] at hfull
      subst hfull
      match us, hus with
      | [y, z, u], _ =>
      have hrow := hC.r2 y z u rfl
      have hlen : (xs.take k ++ xs.drop (k + 1)).length = cs.length - 1 := by simp; omega
      rw [hlen] at hrow
      have hres := (hC.below.block (w.heap.size + 1) (by omega)).trans (unhide HR3)
      have hlow := (unhide HB3).trans (hC.below.mono (unhide HB3).size)
      clear hC HR3 HB3
      obtain ⟨oa, oc, hu⟩ : ∃ oa oc, u = .slice oa (cs.length - 1) oc := by
        rcases hrow.2 with ⟨hv, h0⟩ | ⟨g, cp, cur, hv, _⟩
        · exact ⟨none, 0, by rw [hv, h0]⟩
        · exact ⟨_, _, hv⟩
      subst hu
      obtain ⟨r0, r1, rf⟩ := two hres
      have rf0 := rf 0
      have rf1 := rf 1
      have h1 := blk_set hres 0 (.int .i64 vars)
      have hy : ((w7.setCell ⟨w.heap.size + 1, 0, none⟩ (.int .i64 vars)).setCell ⟨w.heap.size + 1, 1, none⟩ (.slice oa (cs.length - 1) oc)).heap[w.heap.size + 1]? = some (cnfCells vars (.slice oa (cs.length - 1) oc)) := by rw [blk_set h1 1 _]; rfl
      obtain ⟨q0, q1, _⟩ := two hy
      have hB : Below w.heap.size w ((w7.setCell ⟨w.heap.size + 1, 0, none⟩ (.int .i64 vars)).setCell ⟨w.heap.size + 1, 1, none⟩ (.slice oa (cs.length - 1) oc)) := Below.setCell (Below.setCell hlow (by show w.heap.size ≤ w.heap.size + 1; omega) _) (by show w.heap.size ≤ w.heap.size + 1; omega) _
      have hC : ClsAt ((w7.setCell ⟨w.heap.size + 1, 0, none⟩ (.int .i64 vars)).setCell ⟨w.heap.size + 1, 1, none⟩ (.slice oa (cs.length - 1) oc)) oa (lessL cs k) := by
        refine ⟨by rw [lessL_len hk]; omega, ?_⟩
        rcases hrow.2 with ⟨_, h0⟩ | ⟨g, cp, cur, hv, hg, hcc, hcap', hcm, hsz, hx⟩
        · exact .inl (List.length_eq_zero_iff.1 (by rw [lessL_len hk]; exact h0))
        simp only [Value.slice.injEq, true_and] at hv
        obtain ⟨rfl, rfl⟩ := hv
        refine .inr ⟨g, 0, rfl, ?_, fun i hi => ?_⟩
        · have := (Array.getElem?_eq_some_iff.1 hcc).1
          rw [nblk_setCell, nblk_setCell]; exact this
        · have hi' : i < cs.length - 1 := by rw [lessL_len hk] at hi; exact hi
          have ei : cur.toList[i]? = (xs.take k ++ xs.drop (k + 1))[i]? := by
            rw [← hx, List.getElem?_take, if_pos (by omega)]
          have hcell : ((w7.setCell ⟨w.heap.size + 1, 0, none⟩ (.int .i64 vars)).setCell ⟨w.heap.size + 1, 1, none⟩ (.slice (some ⟨g, 0, none⟩) (cs.length - 1) oc)).cell? ⟨g, 0 + i, none⟩ = (xs.take k ++ xs.drop (k + 1))[i]? := by
            rw [World.cell?_of_block (w := w7) (a := ⟨g, 0 + i, none⟩) ((blk_setCell_other _ _ _ _ (by show g ≠ w.heap.size + 1; omega)).trans (blk_setCell_other _ _ _ _ (by show g ≠ w.heap.size + 1; omega))), ← ei]
            simp only [World.cell?, hcc, Nat.zero_add]
            simp
          have hgx := getD_less (l := xs) (d := undef) (k := k) (i := i) (by omega)
          have hgc := getD_less (l := cs) (d := []) (k := k) (i := i) hk
          obtain ⟨a1, c1, e1, e2⟩ := unhide HX (if i < k then i else i + 1) (by split <;> omega)
          rw [← hgc] at e1 e2
          rw [← hgx] at e1
          refine ⟨a1, c1, ?_, e2.on hB⟩
          rw [hcell, ← e1]
          have hil : i < (lessL xs k).length := by rw [lessL_len (by omega)]; omega
          show (lessL xs k)[i]? = _
          simp [List.getD, hil]
      have HF := hide (And.intro hC hB)
      have hll := lessL_len hk
      clear hC hB hy h1 rf hrow hres hlow
      simp [putP, slotOf, Act.put]
      go_wp2_with fail
      obtain ⟨f1, f2⟩ := unhide HF
      exact bodyPost_ret (v := .agg #[.int .i64 vars, .slice oa (cs.length - 1) oc]) (by simp [results, Try.results14, go_sem, q0, q1]) rfl ⟨⟨oa, lessL cs k, oc, by rw [hll], f1, by rw [hll]; omega, fun c hc => lessL_mem hc⟩, f2⟩
end Go.Proofs.Ythkhaemlcmkkjaq
