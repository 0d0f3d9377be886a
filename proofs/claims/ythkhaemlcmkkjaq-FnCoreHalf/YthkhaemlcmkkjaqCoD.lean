/- Clauses of few variables by bits: the program's fewOf and CoreCount. -/
import Derived.Test.YthkhaemlcmkkjaqCoC
namespace Go.Proofs.Ythkhaemlcmkkjaq
set_option linter.unusedVariables false
set_option linter.unusedSimpArgs false
open Go.RowKit Go.Deep

def fwCells (vars : Int) (v : Value) : Obj := .cells #[.int .i64 vars, v] 47 (0, 0)
/-- Clauses by bits so far. -/
structure FwS (w : World) (fb : Nat) (vars : Int) (A : Value) (v : Value) (cs : List (List Int)) (x : World) : Prop where
  low : Below w.heap.size w x
  box : x.heap[w.heap.size]? = some (.cells #[.int .i64 vars, A] 25 (0, 0))
  res : x.heap[w.heap.size + 1]? = some (fwCells 0 (.slice none 0 0))
  cell : x.heap[fb]? = some (fwCells vars v)
  row : BcI (fb + 1) x v cs
theorem FwS.on {w x y : World} {fb : Nat} {vars : Int} {A v : Value} {cs : List (List Int)} (h : FwS w fb vars A v cs x) (hb : Below x.heap.size x y) : FwS w fb vars A v cs y :=
  ⟨h.low.trans (hb.mono h.low.size), (hb.block _ (Array.getElem?_eq_some_iff.1 h.box).1).trans h.box, (hb.block _ (Array.getElem?_eq_some_iff.1 h.res).1).trans h.res, (hb.block _ (Array.getElem?_eq_some_iff.1 h.cell).1).trans h.cell, h.row.on hb⟩
/-- One clause more, in a world where it is put behind. -/
structure CFw (wo : World) (fb : Nat) (v : Value) (cs : List (List Int)) (c : List Int) (b : Bool) (us : List Value) (x : World) : Prop where
  below : Below (fb + 1) wo x
  r0 : us = [] → BcI (fb + 1) x v cs
  r1 : ∀ y, us = [y] → BcI (fb + 1) x v cs ∧ ∃ g, y = .slice (some ⟨g, 0, none⟩) 1 1 ∧ x.heap[g]? = some (bcCells (soN c) (notN c))
  r2 : ∀ y z, us = [y, z] → BcI (fb + 1) x z (cs ++ [c])
theorem CFw.on {wo x y : World} {fb : Nat} {v : Value} {cs : List (List Int)} {c : List Int} {b b' : Bool} {us : List Value} (h : CFw wo fb v cs c b us x) (hb : Below x.heap.size x y) (hfb : fb + 1 ≤ wo.heap.size) : CFw wo fb v cs c b' us y :=
  ⟨h.below.trans (hb.mono (Nat.le_trans hfb h.below.size)), fun e => (h.r0 e).on hb, fun a e => by
    obtain ⟨h1, g, h2, h3⟩ := h.r1 a e
    exact ⟨h1.on hb, g, h2, (hb.block g (Array.getElem?_eq_some_iff.1 h3).1).trans h3⟩, fun a c e => (h.r2 a c e).on hb⟩
/-- What fewOf answers. -/
def FewOut (B : Nat) (w' : World) (vars : Int) (cs : List (List Int)) (e : Ending) : Prop := if smallB vars cs = true then ∃ v, e = .returned (.tuple #[.agg #[.int .i64 vars, v], .bool true]) ∧ BcI B w' v cs else e = .returned (.tuple #[.agg #[.int .i64 0, .slice none 0 0], .bool false])

set_option maxRecDepth 100000 in
set_option maxHeartbeats 4000000 in
theorem fewOf_any (vars : Int) (a : Option Addr) (cs : List (List Int)) (cap : Nat) (w : World) (h : ClsAt w a cs) :
    Calls Try.prog 24 #[.agg #[.int .i64 vars, .slice a cs.length cap]] w fun e w' => FewOut w.heap.size w' vars cs e ∧ Below w.heap.size w w' := by
  obtain ⟨i0, hi, hz0, hz1, hz2⟩ := info_parts Try.infoBc
  obtain ⟨w2, hw2⟩ : ∃ w2, w2 = (w.alloc (.cells #[.int .i64 vars, .slice a cs.length cap] 25)).alloc (fwCells 0 (.slice none 0 0)) := ⟨_, rfl⟩
  have s1 : (w.alloc (.cells #[.int .i64 vars, .slice a cs.length cap] 25)).heap.size = w.heap.size + 1 := by simp
  have z2 : w2.heap.size = w.heap.size + 2 := by rw [hw2]; simp
  have b2 : Below w.heap.size w w2 := by rw [hw2]; exact ((Below.refl _ _).alloc (Nat.le_refl _) _).alloc (by omega) _
  have hbx : w2.heap[w.heap.size]? = some (.cells #[.int .i64 vars, .slice a cs.length cap] 25 (0, 0)) := by rw [hw2, blk_alloc_lt _ _ _ (by omega)]; exact blk_alloc_new _ _
  have hrs : w2.heap[w.heap.size + 1]? = some (fwCells 0 (.slice none 0 0)) := by rw [hw2, ← s1]; exact blk_alloc_new _ _
  obtain ⟨x0, x1, xf⟩ := two hbx
  have HBX := hide hbx
  have HRS := hide hrs
  have HB2 := hide b2
  have HA := hide h
  have HK := hide (implCnfOk_any vars a cs cap w2 (h.on b2))
  have hcl := h.1
  obtain ⟨okc, hok⟩ : ∃ okc, cnfB vars cs = okc := ⟨_, rfl⟩
  rw [hok] at HK
  have HOK := hide hok
  unfold fwCells at hw2
  clear s1 b2 hbx hrs xf h hok
  go_enter Try.func24, Try.ntmps24
  go_upto_region 1 with fail
  rw [← hw2]
  clear hw2
  have hlt2 : w.heap.size < w2.heap.size := by omega
  have HNO : Hid (∀ x, Below w2.heap.size w2 x → smallB vars cs = false → (x.cell? ⟨w.heap.size + 1, 0, none⟩ = some (.int .i64 0) ∧ x.cell? ⟨w.heap.size + 1, 1, none⟩ = some (.slice none 0 0) ∧ (∀ i, x.frozen? ⟨w.heap.size + 1, i, none⟩ = false)) ∧ Below w.heap.size w ((x.setCell ⟨w.heap.size + 1, 0, none⟩ (.int .i64 0)).setCell ⟨w.heap.size + 1, 1, none⟩ (.slice none 0 0)) ∧ ((x.setCell ⟨w.heap.size + 1, 0, none⟩ (.int .i64 0)).setCell ⟨w.heap.size + 1, 1, none⟩ (.slice none 0 0)).cell? ⟨w.heap.size + 1, 0, none⟩ = some (.int .i64 0) ∧ ((x.setCell ⟨w.heap.size + 1, 0, none⟩ (.int .i64 0)).setCell ⟨w.heap.size + 1, 1, none⟩ (.slice none 0 0)).cell? ⟨w.heap.size + 1, 1, none⟩ = some (.slice none 0 0) ∧ FewOut w.heap.size ((x.setCell ⟨w.heap.size + 1, 0, none⟩ (.int .i64 0)).setCell ⟨w.heap.size + 1, 1, none⟩ (.slice none 0 0)) vars cs (.returned (.tuple #[.agg #[.int .i64 0, .slice none 0 0], .bool false]))) := fun x hx hs => by
    have hr := (hx.block (w.heap.size + 1) (by omega)).trans (unhide HRS)
    have e1 := blk_set hr 0 (.int .i64 0)
    have hy : ((x.setCell ⟨w.heap.size + 1, 0, none⟩ (.int .i64 0)).setCell ⟨w.heap.size + 1, 1, none⟩ (.slice none 0 0)).heap[w.heap.size + 1]? = some (fwCells 0 (.slice none 0 0)) := by rw [blk_set e1 1 _]; rfl
    obtain ⟨c0, c1, _⟩ := two hy
    refine ⟨two hr, Below.setCell (Below.setCell ((unhide HB2).trans (hx.mono (unhide HB2).size)) (by show w.heap.size ≤ w.heap.size + 1; omega) _) (by show w.heap.size ≤ w.heap.size + 1; omega) _, c0, c1, ?_⟩
    unfold FewOut
    rw [if_neg (by rw [hs]; decide)]
  go_wp2_with fail
  refine (unhide HK).mono ?_
  rintro e w3 ⟨rfl, b3⟩
  rw [← b3.cell (p := ⟨w.heap.size, _, none⟩) hlt2] at x0 x1
  have HB3 := hide b3
  clear HK b3
  cases okc with
  | false =>
    obtain ⟨⟨r0, r1, rf⟩, hF⟩ := unhide HNO w3 (unhide HB3) (by unfold smallB; rw [unhide HOK]; rfl)
    have rf0 := rf 0
    have rf1 := rf 1
    have HF := hide hF
    clear hF rf HNO HB3
    go_wp2_with fail
    obtain ⟨f1, f2, f3, f4⟩ := unhide HF
    exact bodyPost_ret (v := .tuple #[.agg #[.int .i64 0, .slice none 0 0], .bool false]) (by simp [results, Try.results24, go_sem, f2, f3]) rfl ⟨f4, f1⟩
  | true =>
    by_cases hv : 10 < vars
    · obtain ⟨⟨r0, r1, rf⟩, hF⟩ := unhide HNO w3 (unhide HB3) (by unfold smallB; rw [unhide HOK, decide_eq_false (by omega)]; rfl)
      have rf0 := rf 0
      have rf1 := rf 1
      have HF := hide hF
      clear hF rf HNO HB3
      go_wp2_with fail
      obtain ⟨f1, f2, f3, f4⟩ := unhide HF
      exact bodyPost_ret (v := .tuple #[.agg #[.int .i64 0, .slice none 0 0], .bool false]) (by simp [results, Try.results24, go_sem, f2, f3]) rfl ⟨f4, f1⟩
    · by_cases hl : (60 : Int) < (cs.length : Int)
      · obtain ⟨⟨r0, r1, rf⟩, hF⟩ := unhide HNO w3 (unhide HB3) (by unfold smallB; rw [unhide HOK, decide_eq_false (by omega : ¬ cs.length ≤ 60)]; simp)
        have rf0 := rf 0
        have rf1 := rf 1
        have HF := hide hF
        clear hF rf HNO HB3
        go_wp2_with fail
        obtain ⟨f1, f2, f3, f4⟩ := unhide HF
        exact bodyPost_ret (v := .tuple #[.agg #[.int .i64 0, .slice none 0 0], .bool false]) (by simp [results, Try.results24, go_sem, f2, f3]) rfl ⟨f4, f1⟩
      · have HSM : Hid (smallB vars cs = true) := by
          show smallB vars cs = true
          unfold smallB
          rw [unhide HOK, decide_eq_true (by omega : vars ≤ 10), decide_eq_true (by omega : cs.length ≤ 60)]
          rfl
        have HLT := hide (fun c (hc : c ∈ cs) x (hx : x ∈ c) => lit_small (by omega) (((cnf_rng (unhide HOK)).2.2 c hc).2 x hx))
        clear HNO
        go_upto_region 4 with fail
        obtain ⟨w4, hw4⟩ : ∃ w4, w4 = w3.alloc (fwCells vars (.slice none 0 0)) := ⟨_, rfl⟩
        obtain ⟨fb, hfb⟩ : ∃ fb, fb = w3.heap.size := ⟨_, rfl⟩
        have hz3 := (unhide HB3).size
        have b4 : Below w3.heap.size w3 w4 := by rw [hw4]; exact (Below.refl _ _).alloc (Nat.le_refl _) _
        have HF4 : Hid (FwS w fb vars (.slice a cs.length cap) (.slice none 0 0) (cs.take 0) w4) := by
          have B3 := (unhide HB2).trans ((unhide HB3).mono (unhide HB2).size)
          refine ⟨B3.trans (b4.mono B3.size), ?_, ?_, ?_, World.ownsRow_nil _ _ _ _⟩
          · exact (b4.block _ (by omega)).trans (((unhide HB3).block _ hlt2).trans (unhide HBX))
          · exact (b4.block _ (by omega)).trans (((unhide HB3).block _ (by omega)).trans (unhide HRS))
          · rw [hw4, hfb]; exact blk_alloc_new _ _
        unfold fwCells at hw4
        rw [← hw4, ← hfb]
        have hfbl : w.heap.size + 1 < fb := by omega
        clear hw4 b4 hfb x0 x1 HBX HRS hz3
        obtain ⟨x0, x1, xf⟩ := two (unhide HF4).box
        clear xf
        go_wp2_with fail
        go_loopw [28] (fun i wr => ∃ (k : Nat) (v : Value), k ≤ cs.length ∧ i = .int .i64 k ∧ Hid (FwS w fb vars (.slice a cs.length cap) v (cs.take k) wr)) (fun i _ => cs.length - (intOf i).toNat)
        case atStart => exact ⟨0, _, Nat.zero_le _, rfl, HF4⟩
        case round =>
          rename World => wo
          obtain ⟨k, v, hk, rfl, HF⟩ := hrel
          clear HF4 x0 x1
          obtain ⟨va, vc, hvv⟩ := (unhide HF).row.slice
          subst hvv
          have hkl : (cs.take k).length = k := by rw [List.length_take]; omega
          obtain ⟨y0, y1, yf⟩ := two (unhide HF).cell
          rw [hkl] at y1
          have yf0 := yf 0
          have yf1 := yf 1
          have hfo := (Array.getElem?_eq_some_iff.1 (unhide HF).cell).1
          clear yf
          have HKL := hide hkl
          clear hkl
          by_cases hlt : k < cs.length
          · have j1 : (k : Int) < (cs.length : Int) := by omega
            have j0 : (0 : Int) ≤ (k : Int) := by omega
            obtain ⟨cb, co, ca, cc, hca, c0, hcset, hcb⟩ : ∃ b o a' c', a = some ⟨b, o, none⟩ ∧ w.cell? ⟨b, o + k, none⟩ = some (.slice a' (cs.getD k []).length c') ∧ SetAt w a' (cs.getD k []) ∧ b < w.heap.size := by
              rcases (unhide HA).2 with h0 | ⟨b, o, e, h1, h2⟩
              · subst h0; simp at hlt
              · obtain ⟨a', c', h3, h4⟩ := h2 k hlt
                exact ⟨b, o, a', c', e, h3, h4, h1⟩
            subst hca
            rw [← (unhide HF).low.cell (p := ⟨cb, co + k, none⟩) hcb] at c0
            have hcl2 : (cs.getD k []).length ≤ 400 := ((cnf_rng (unhide HOK)).2.2 _ (getD_mem (d := ([] : List Int)) hlt)).1
            have HBC := hide (fun x (hx : Below w.heap.size w x) => bitClauseOf_any ca (cs.getD k []) cc x (hcset.on hx) (fun y hy => unhide HLT _ (getD_mem (d := ([] : List Int)) hlt) y hy))
            have htk : cs.take (k + 1) = cs.take k ++ [cs.getD k []] := by
              rw [List.take_add_one]
              simp [List.getD, hlt]
            obtain ⟨cv, hcv⟩ : ∃ cv, cv = cs.getD k [] := ⟨_, rfl⟩
            rw [← hcv] at c0 HBC htk hcl2
            have HTK := hide htk
            clear hcv htk hcset
            obtain ⟨tl, htl⟩ : ∃ tl, tl = cs.take k := ⟨_, rfl⟩
            rw [← htl] at HF HTK HKL
            have hlow := (unhide HF).low
            have hwz := (Array.getElem?_eq_some_iff.1 (unhide HF).box).1
            have HCF : Hid (CFw wo fb (.slice va tl.length vc) tl cv false [] wo.drew) := ⟨(Below.refl _ _).drew, fun _ => (unhide HF).row.on (Below.refl _ _).drew, (fun _ h => by cases h), (fun _ _ h => by cases h)⟩
            rw [unhide HKL] at HCF
            clear htl
            obtain ⟨sv, hsv⟩ : ∃ sv, soN cv = sv := ⟨_, rfl⟩
            obtain ⟨tv, htv⟩ : ∃ tv, notN cv = tv := ⟨_, rfl⟩
            rw [hsv, htv] at HBC
            have HST := hide (And.intro hsv htv)
            clear hsv htv
            obtain ⟨cl, hcl3⟩ : ∃ cl, cv.length = cl := ⟨_, rfl⟩
            rw [hcl3] at c0 HBC
            clear hcl3
            go_upto_region 7 with fail
            refine wp_region_mix (k := 100) 7 [4, 5] [.pointer (some ⟨fb, 1, none⟩), .slice va k vc, .slice ca cl cc, .agg #[.int .u16 (sv : Int), .int .u16 (tv : Int)], undef, undef, .pointer (some ⟨fb, 1, none⟩)] (CFw wo fb (.slice va k vc) tl cv) (by kernel_rfl) (by kernel_rfl) (by kernel_rfl) (by kernel_rfl) (by kernel_rfl) (by kernel_rfl) (unhide HCF) ?_ ?_ ?_
            · intro full hfull i oo hi' hns ho x fl us hC hb'
              simp [putAll, slotOf, Act.put] at hfull
              subst hfull
              have p1 := (hC.below.cell (p := ⟨fb, 1, none⟩) (by show fb < fb + 1; omega)).trans y1
              have hC0 := hC.on (b' := fl) (Below.refl _ _) (by omega)
              match i with
              | 0 => simp at ho; subst ho; simp [gwp, Region.wanted, yielded]; go_simp; first | done | exact hC0 | exact ⟨rfl, hC0⟩ | (simp; exact hC0)
              | 1 => simp at ho; subst ho; simp [gwp, Region.wanted, yielded]; go_simp; first | done | exact hC0 | exact ⟨rfl, hC0⟩ | (simp; exact hC0)
              | 2 => simp at ho; subst ho; simp [gwp, Region.wanted, yielded]; go_simp; first | done | exact hC0 | exact ⟨rfl, hC0⟩ | (simp; exact hC0)
              | 3 =>
                simp at ho; subst ho; simp [gwp, Region.wanted, yielded]; go_simp
                refine (unhide HBC x (hlow.trans (hC.below.mono (by omega)))).mono ?_
                rintro e wy ⟨rfl, by1⟩
                have hC1 := hC.on (b' := fl) by1 (by omega)
                go_simp
                first | done | exact hC1 | exact ⟨rfl, hC1⟩ | (simp; exact hC1)
              | 4 => simp at hns
              | 5 => simp at hns
              | 6 => simp at ho; subst ho; simp [gwp, Region.wanted, yielded]; go_simp; first | done | exact hC0 | exact ⟨rfl, hC0⟩ | (simp; exact hC0)
              | i + 7 => omega
            · intro full hfull us j hj oo ho x fl hC
              simp [putAll, slotOf, Act.put] at hfull
              subst hfull
              have hxs := hC.below.size
              match us with
              | [] =>
                simp at hj
                subst hj
                simp at ho
                subst ho
                have bn := (Below.refl x.heap.size x).alloc (Nat.le_refl _) (bcCells sv tv)
                have hC1 : CFw wo fb (.slice va k vc) tl cv fl [.slice (some ⟨x.heap.size, 0, none⟩) 1 1] (x.alloc (bcCells sv tv)) := ⟨hC.below.trans (bn.mono (by omega)), (fun h => by cases h), fun y hy => by
                  cases hy
                  exact ⟨(hC.r0 rfl).on bn, x.heap.size, rfl, by rw [(unhide HST).1, (unhide HST).2]; exact blk_alloc_new _ _⟩, (fun _ _ h => by cases h)⟩
                have HC1 := hide hC1
                clear hC hC1 bn
                unfold bcCells at HC1
                simp [gwp, Region.wanted, yielded, putP, slotOf, Act.put]
                go_simp
                first | done | exact unhide HC1 | exact ⟨_, rfl, unhide HC1⟩ | (simp; exact unhide HC1)
              | [y] =>
                simp at hj
                subst hj
                simp at ho
                subst ho
                obtain ⟨hrow, g, hy, hg⟩ := hC.r1 y rfl
                subst hy
                have hown : x.ownsRow (fb + 1) 77 2 (.slice va k vc) k (bcVs tl) := by
                  have := hrow
                  unfold BcI at this
                  rwa [unhide HKL] at this
                obtain ⟨v', w', hr, h2, h3, _, _⟩ := run_append_own_at (P := Try.prog) (w := x) (fb + 1) 45 45 77 i0 (.agg #[.int .u16 0, .int .u16 0]) 2 4 Try.underlying45 hi hz0 hz1 hz2 rfl (by decide) _ k (bcVs tl) hown ⟨g, 0, none⟩ 1 1 (bcVs [cv]) (by rw [bcVs_len]; rfl) (fun j u hju => by
                  match j, hju with
                  | 0, hju => simp [bcVs] at hju; subst hju; simp [Addr.add, World.cell?, hg, bcCells]
                  | 1, hju => simp [bcVs] at hju; subst hju; simp [Addr.add, World.cell?, hg, bcCells]
                  | j + 2, hju => simp [bcVs] at hju) (fun u hu => by simp [bcVs] at hu; rcases hu with rfl | rfl <;> rfl) (by unfold maxLen; omega) (by omega) (by omega)
                simp only [gwp, Region.wanted, yielded, if_true]
                refine wp_append_runV _ _ 45 rfl (.slice va k vc) (.slice (some ⟨g, 0, none⟩) 1 1) v' w' ?_ ?_ hr ⟨v', rfl, ⟨hC.below.trans ⟨h3.os, h3.tape, h3.output, h3.size, fun b hb => h3.block b (by omega) (fun e => by have := (World.ownsRow.lt hown b e.symm).1; omega)⟩, (fun h => by cases h), (fun y h => by cases h), fun a z h => ?_⟩⟩
                · simp [putP, slotOf, Act.put, Act.eval]
                · simp [putP, slotOf, Act.put, Act.eval]
                · cases h
                  unfold BcI
                  rw [bcVs_app, List.length_append, unhide HKL]
                  exact h2
              | _ :: _ :: _ => simp at hj
            intro full hfull us x hus hC
            simp [putAll, slotOf, Act.put] at hfull
            subst hfull
            match us, hus with
            | [y, z], _ =>
            have hrow := hC.r2 y z rfl
            obtain ⟨za, zc, hz⟩ := hrow.slice
            obtain ⟨zn, hzn⟩ : ∃ zn, zn = (tl ++ [cv]).length := ⟨_, rfl⟩
            rw [← hzn] at hz
            subst hz
            have hxs := hC.below.size
            have hFX : FwS w fb vars (.slice (some ⟨cb, co, none⟩) cs.length cap) (.slice za zn zc) (cs.take (k + 1)) (x.setCell ⟨fb, 1, none⟩ (.slice za zn zc)) := by
              have hcx := (hC.below.block fb (by omega)).trans (unhide HF).cell
              refine ⟨Below.setCell (hlow.trans (hC.below.mono (by omega))) (by show w.heap.size ≤ fb; omega) _, ?_, ?_, by rw [blk_set hcx]; rfl, ?_⟩
              · exact (blk_setCell_other _ _ _ _ (by show w.heap.size ≠ fb; omega)).trans ((hC.below.block _ (by omega)).trans (unhide HF).box)
              · exact (blk_setCell_other _ _ _ _ (by show w.heap.size + 1 ≠ fb; omega)).trans ((hC.below.block _ (by omega)).trans (unhide HF).res)
              · rw [unhide HTK]
                refine ⟨hrow.1, hrow.2.imp id ?_⟩
                rintro ⟨g, cp, cur, hv', hB, hc, r⟩
                exact ⟨g, cp, cur, hv', hB, (blk_setCell_other _ _ _ _ (by show g ≠ fb; omega)).trans hc, r⟩
            obtain ⟨p0, p1, pf⟩ := two ((hC.below.block fb (by omega)).trans (unhide HF).cell)
            have pf1 := pf 1
            have HFX := hide hFX
            clear hC hrow hFX pf HF hlow hzn
            simp [putP, slotOf, Act.put]
            go_wp2_with fail
            go_roundw
            case rel => exact ⟨k + 1, _, by omega, by go_num, HFX⟩
            case measure => simp [intOf]; omega
          · have j1 : ¬ (k : Int) < (cs.length : Int) := by omega
            have hkc : cs.take k = cs := List.take_of_length_le (by omega)
            rw [hkc] at HF HKL
            obtain ⟨r0, r1, rf⟩ := two (unhide HF).res
            have rf0 := rf 0
            have rf1 := rf 1
            have e1 := blk_set (unhide HF).res 0 (.int .i64 vars)
            have hy : ((wo.setCell ⟨w.heap.size + 1, 0, none⟩ (.int .i64 vars)).setCell ⟨w.heap.size + 1, 1, none⟩ (.slice va k vc)).heap[w.heap.size + 1]? = some (fwCells vars (.slice va k vc)) := by rw [blk_set e1 1 _]; rfl
            obtain ⟨q0, q1, _⟩ := two hy
            have HFI := hide (Below.setCell (Below.setCell (unhide HF).low (p := ⟨w.heap.size + 1, 0, none⟩) (by show w.heap.size ≤ w.heap.size + 1; omega) (.int .i64 vars)) (p := ⟨w.heap.size + 1, 1, none⟩) (by show w.heap.size ≤ w.heap.size + 1; omega) (.slice va k vc))
            have HRO : Hid (BcI w.heap.size ((wo.setCell ⟨w.heap.size + 1, 0, none⟩ (.int .i64 vars)).setCell ⟨w.heap.size + 1, 1, none⟩ (.slice va k vc)) (.slice va k vc) cs) := by
              have hrow := (unhide HF).row
              rw [unhide HKL] at hrow
              refine own_lowC (B := fb + 1) ⟨hrow.1, hrow.2.imp id ?_⟩ (by omega)
              rintro ⟨g, cp, cur, hv', hB, hc, r⟩
              exact ⟨g, cp, cur, hv', hB, (blk_setCell_other _ _ _ _ (by show g ≠ w.heap.size + 1; omega)).trans ((blk_setCell_other _ _ _ _ (by show g ≠ w.heap.size + 1; omega)).trans hc), r⟩
            clear rf e1 hy HF hkc
            go_wp2_with fail
            refine bodyPost_ret (v := .tuple #[.agg #[.int .i64 vars, .slice va k vc], .bool true]) (by simp [results, Try.results24, go_sem, q0, q1]) rfl ⟨?_, unhide HFI⟩
            unfold FewOut
            rw [if_pos (unhide HSM)]
            exact ⟨_, rfl, unhide HRO⟩
end Go.Proofs.Ythkhaemlcmkkjaq
