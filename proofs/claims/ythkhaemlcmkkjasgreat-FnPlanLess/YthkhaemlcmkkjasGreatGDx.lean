/- l71Walk: drawn steps from packs on, and where they lead. DrawPlanOk: the drawn packs, two drawn states and drawn steps. -/
import Derived.Test.YthkhaemlcmkkjasGreatGCv
import Derived.Test.YthkhaemlcmkkjasGreatGPd
namespace Go.Proofs.YthkhaemlcmkkjasGreat
set_option linter.unusedVariables false
set_option linter.unusedSimpArgs false
open Go.RowKit Go.Deep

theorem V2.keptS {s N : Nat} {W x : World} {v : Value} (h : V2 s W N v) (keep : ∀ (b : Nat) (t : TypeId), CellsOf W b t → t ≠ 50 → x.heap[b]? = W.heap[b]?) : V2 s x N v := by
  have g0 : ∀ b n, G0 s W b n → G0 s x b n := fun b n h => GoodBy.mono h (keep _ _ (GoodBy.cells h) (by decide)) fun _ _ h => h
  have g1 : ∀ b n, G1 s W N b n → G1 s x N b n := fun b n h => GoodBy.mono h (keep _ _ (GoodBy.cells h) (by decide)) fun _ _ h => SlBy.mono h g0 (Nat.le_refl _)
  exact SlBy.mono h (fun b n h => GoodBy.mono h (keep _ _ (GoodBy.cells h) (by decide)) fun _ _ h => ⟨h.name, h.nums, fun e => SlBy.mono (h.deps e) g1 (Nat.le_refl _), fun e => SlBy.mono (h.reqs e) g0 (Nat.le_refl _)⟩) (Nat.le_refl _)
/-- What l71Walk answers. -/
def Walked (w w' : World) (e : Ending) : Prop := ∃ (v u : Value) (ss : List StepD) (cur : List Int), e = .returned (.tuple #[v, u]) ∧ w'.ownsRow w.heap.size 50 3 v ss.length (stepVs ss) ∧ ss.length ≤ 100 ∧ RowI 0 w' u cur ∧ cur.length ≤ 300000
/-- The calls of StepFrom and StepDo on drawn packs: what they are is not asked. -/
theorem from_drawn {s n cap : Nat} {w : World} {a : Option Addr} {sa : Option Addr} {set : List Int} {sc : Nat} (room : Int) (hV : V2 s w 60000 (.slice a n cap)) (hs : SetAt w sa set) (hsc : sa = none → sc = 0) :
    ∃ L : List StepD, L.length ≤ 100 ∧ Calls Tryz.prog 18 #[.agg #[.slice a n cap, .int .i64 room], .slice sa set.length sc] w (fun e w' => (∃ v, e = .returned v ∧ w'.ownsRow w.heap.size 50 3 v L.length (stepVs L)) ∧ Below w.heap.size w w') := by
  obtain ⟨l4, hl4, hP4⟩ := V2.packs hV
  rw [← hl4] at hV ⊢
  exact ⟨fromL l4 room set, Nat.le_trans (from_few _ _ _) (stepsL_few _ _), specStepFrom_any a l4 cap room sa set sc w hP4 (V2.caps hV hP4) hs hsc hs.1⟩
theorem do_drawn {s n cap : Nat} {w : World} {a : Option Addr} {sa : Option Addr} {set : List Int} {sc : Nat} (room : Int) (t : StepD) (hV : V2 s w 60000 (.slice a n cap)) (hs : SetAt w sa set) (hsc : sa = none → sc = 0) :
    ∃ o : Option (List Int), (o.getD []).length ≤ set.length + 1 ∧ Calls Tryz.prog 19 #[.agg #[.slice a n cap, .int .i64 room], .slice sa set.length sc, .agg #[.int .i64 t.kind, .int .i64 t.inn, .int .i64 t.out]] w (fun e w' => DoOut w.heap.size w' o e ∧ Below w.heap.size w w') := by
  obtain ⟨l4, hl4, hP4⟩ := V2.packs hV
  rw [← hl4] at hV ⊢
  refine ⟨specDo l4 room set t, by rw [do_same]; exact do_len, specStepDo_full a l4 cap room sa set sc t w hP4 (V2.caps hV hP4) hs hsc⟩

set_option maxRecDepth 100000 in
set_option maxHeartbeats 8000000 in
theorem l71Walk_V (B rb s : Nat) (m most : Int) (a : Option Addr) (n cap : Nat) (room : Int) (sa : Option Addr) (set : List Int) (sc : Nat) (w : World) (h : Rd B w rb m) (hm : m ≤ 300000) (hmo : 0 ≤ most ∧ most ≤ 50) (hV : V2 s w 60000 (.slice a n cap)) (hr : RowI 0 w (.slice sa set.length sc) set) (hsl : set.length ≤ 200002) :
    Calls Tryz.prog 14 #[.pointer (some ⟨rb, 0, none⟩), .agg #[.slice a n cap, .int .i64 room], .slice sa set.length sc, .int .i64 most] w fun e w' => Walked w w' e ∧ Rd B w' rb (m + 200) ∧ Wrote B isRd w w' := by
  obtain ⟨i0, hi, hz0, hz1, hz2⟩ := info_parts Tryz.infoStep
  have hrl := h.lt
  have hpB := h.past
  obtain ⟨w0, hw0⟩ : ∃ w0, w0 = (w.alloc (.cells #[.slice a n cap, .int .i64 room] 25)).alloc (.cells #[] 50) := ⟨_, rfl⟩
  have b0 : Below w.heap.size w w0 := by rw [hw0]; exact ((Below.refl _ _).alloc (Nat.le_refl _) _).alloc (by simp) _
  have z0 : w.heap.size + 2 ≤ w0.heap.size := by rw [hw0]; simp
  have t0 : w0.heap[w.heap.size]? = some (repoCells (.slice a n cap) room) := by
    rw [hw0]
    exact (blk_alloc_lt _ _ _ (by simp)).trans (blk_alloc_new _ _)
  have t1 : w0.ownsRow w.heap.size 50 3 (.slice (some ⟨w.heap.size + 1, 0, none⟩) 0 0) 0 [] := by
    refine ⟨rfl, Or.inr ⟨w.heap.size + 1, 0, #[], rfl, by omega, ?_, Nat.zero_le _, Nat.zero_le _, rfl, rfl⟩⟩
    rw [hw0]
    have := blk_alloc_new (w.alloc (.cells #[.slice a n cap, .int .i64 room] 25)) (.cells #[] 50)
    simpa using this
  have HR0 := hide (h.below b0)
  have HV0 := hide (V2.ev hV (Ev.of_below (B := 0) (s := s) (N := 60000) b0))
  have HS0 := hide (show RowI 0 w0 _ set from ownsRow_on hr b0)
  have HX0 := hide t0
  have HO0 := hide t1
  have HW0 := hide (Wrote.of_below (B := B) (ts := isRd) b0)
  have hwr : IntKind.i64.wrap (most + 1) = most + 1 := by rw [IntKind.wrap_i64]; omega
  clear h hV hr t0 t1 b0
  go_enter Tryz.func14, Tryz.ntmps14
  go_upto_region 3 with fail
  rw [← hw0]
  clear hw0
  go_wp2_with fail
  refine (pick_any B rb _ (most + 1) _ (unhide HR0) (by omega) (by omega) (by omega)).mono ?_
  rintro e w1 ⟨⟨z, rfl, hzz0, hzz1⟩, R1, W1⟩
  have hz1' := W1.size
  have HR1 := hide R1
  have HV1 := hide (V2.ev (unhide HV0) (Ev.of_wrote (s := s) (N := 60000) W1))
  have HS1 := hide (RowI.wrote (unhide HS0) W1)
  have HX1 := hide (W1.blk (unhide HX0) repoNotRd)
  have HO1 := hide (steps_wrote (unhide HO0) W1)
  have HW1 := hide ((unhide HW0).trans W1)
  clear R1 W1 HR0 HV0 HS0 HX0 HO0 HW0
  go_wp2_with fail
  go_loopw [10, 11, 12] (fun v u i wr => ∃ (z : Int) (ss : List StepD) (cur : List Int), 0 ≤ z ∧ z ≤ 50 ∧ (ss.length : Int) + z ≤ 50 ∧ i = .int .i64 z ∧ (cur.length : Int) + z ≤ 200100 ∧ Hid (wr.ownsRow w.heap.size 50 3 v ss.length (stepVs ss)) ∧ Hid (RowI 0 wr u cur) ∧ Hid (Rd B wr rb (m + 100 - z)) ∧ Hid (V2 s wr 60000 (.slice a n cap)) ∧ Hid (wr.heap[w.heap.size]? = some (repoCells (.slice a n cap) room)) ∧ Hid (Wrote B isRd w wr)) (fun _ _ i _ => (intOf i).toNat)
  case atStart => exact ⟨z, [], set, hzz0, by omega, by simp; omega, rfl, by omega, unhide HO1, unhide HS1, (unhide HR1).more (by omega), unhide HV1, unhide HX1, unhide HW1⟩
  case round =>
    rename World => wo
    obtain ⟨z, ss, cur, hq0, hq1, hq2, rfl, hq3, HO, HS, HR, HV, HX, HW⟩ := hrel
    obtain ⟨ua, uc, hu, hset⟩ := RowI.set (unhide HS) (by omega)
    subst hu
    have HSC : Hid (ua = none → uc = 0) := row_cap0 (unhide HS)
    obtain ⟨x0, x1, _⟩ := two (unhide HX)
    have hws := (unhide HW).size
    by_cases hz : 0 < z
    · obtain ⟨L, hL, hSF⟩ := from_drawn room (unhide HV) hset (unhide HSC)
      have HSF := hide hSF
      have HSet := hide hset
      clear hSF hset
      go_wp2_with fail
      refine (unhide HSF).mono ?_
      rintro e w2 ⟨⟨v2, rfl, hrow2⟩, b2⟩
      have hz2' := b2.size
      obtain ⟨la, lc, hv2⟩ : ∃ la lc, v2 = .slice la L.length lc := by
        rcases hrow2.2 with ⟨hv, h0⟩ | ⟨g, cap, cur, hv, _⟩
        · exact ⟨none, 0, by rw [hv, h0]⟩
        · exact ⟨_, _, hv⟩
      subst hv2
      have HL2 := hide hrow2
      have HO2 := hide (ownsRow_on (unhide HO) b2)
      have HS2 := hide (show RowI 0 w2 _ cur from ownsRow_on (unhide HS) b2)
      have HR2 := hide ((unhide HR).below b2)
      have HV2 := hide (V2.ev (unhide HV) (Ev.of_below (B := 0) (s := s) (N := 60000) b2))
      have HX2 := hide ((b2.block w.heap.size (Array.getElem?_eq_some_iff.1 (unhide HX)).1).trans (unhide HX))
      have HW2 := hide ((unhide HW).trans (Wrote.of_below b2))
      clear hrow2 b2 HO HS HR HV HX HW HSF x0 x1 HSet
      by_cases hem : L.length = 0
      · have hb0 : ((L.length : Int) == 0) = true := beq_iff_eq.2 (by omega)
        clear hem
        go_wp2_with fail
        exact bodyPost_ret (v := .tuple #[_, .slice ua cur.length uc]) (by simp [results, Tryz.results14, go_sem]) rfl ⟨⟨_, _, ss, cur, rfl, unhide HO2, by omega, unhide HS2, by omega⟩, (unhide HR2).more (by omega), unhide HW2⟩
      · have hb0 : ((L.length : Int) == 0) = false := beq_eq_false_iff_ne.2 (by omega)
        have hlp : 0 < L.length := by omega
        clear hem
        go_wp2_with fail
        refine (pick_any B rb _ (L.length : Int) _ (unhide HR2) (by omega) (by omega) (by omega)).mono ?_
        rintro e w3 ⟨⟨r, rfl, hr0, hr1⟩, R3, W3⟩
        obtain ⟨rn, rfl⟩ : ∃ rn : Nat, r = (rn : Int) := ⟨r.toNat, by omega⟩
        have hz3' := W3.size
        have hL3 := steps_wrote (unhide HL2) W3
        obtain ⟨la', lc', he', _, _, hSA⟩ := StepsAt.of_row hL3 (by omega)
        simp at he'
        obtain ⟨rfl, rfl⟩ := he'
        rcases hSA.2 with hnil | ⟨lb, lo, rfl, hlb, hcc⟩
        · rw [hnil] at hlp; simp at hlp
        obtain ⟨c0, c1, c2⟩ := hcc rn (by omega)
        generalize L.getD rn dStep = t at c0 c1 c2
        have HO3 := hide (steps_wrote (unhide HO2) W3)
        have HS3 := hide (RowI.wrote (unhide HS2) W3)
        have HR3 := hide R3
        have HV3 := hide (V2.ev (unhide HV2) (Ev.of_wrote (s := s) (N := 60000) W3))
        have HX3 := hide (W3.blk (unhide HX2) repoNotRd)
        have HW3 := hide ((unhide HW2).trans W3)
        clear R3 W3 HO2 HS2 HR2 HV2 HX2 HW2 HL2 hL3 hSA hcc
        have hws3 : w.heap.size ≤ w3.heap.size := (unhide HW3).size
        obtain ⟨w4, hw4⟩ : ∃ w4, w4 = w3.alloc (.cells #[.int .i64 t.kind, .int .i64 t.inn, .int .i64 t.out] 50) := ⟨_, rfl⟩
        have b4 : Below w3.heap.size w3 w4 := by rw [hw4]; exact (Below.refl _ _).alloc (Nat.le_refl _) _
        have q4 : w4.heap[w3.heap.size]? = some (stepCells t) := by rw [hw4]; exact blk_alloc_new _ _
        have hz4' : w3.heap.size < w4.heap.size := by rw [hw4]; simp
        obtain ⟨y0, y1, y2, _⟩ := three q4
        have hown := ownsRow_on (unhide HO3) b4
        have HQ4 := hide q4
        have hvlt : ∀ j, _ = some j → w.heap.size ≤ j ∧ j < w3.heap.size := fun j hj => World.ownsRow.lt (unhide HO3) j hj
        have HVL := hide hvlt
        have HS4 := hide (show RowI 0 w4 _ cur from ownsRow_on (unhide HS3) b4)
        have HR4 := hide ((unhide HR3).below b4)
        have HV4 := hide (V2.ev (unhide HV3) (Ev.of_below (B := 0) (s := s) (N := 60000) b4))
        have HX4 := hide ((b4.block w.heap.size (Array.getElem?_eq_some_iff.1 (unhide HX3)).1).trans (unhide HX3))
        have HW4 := hide ((unhide HW3).trans (Wrote.of_below b4))
        clear HO3 HS3 HR3 HV3 HX3 HW3 b4 q4 hvlt
        go_upto_region 9 with fail
        rw [← hw4]
        clear hw4 c0 c1 c2
        go_wp2_with (first
          | (at_builtin; refine wpList_append_own _ rfl _ _ 29 rfl w.heap.size 50 i0 (.agg #[.int .i64 0, .int .i64 0, .int .i64 0]) 3 24 Tryz.underlying29 hi hz0 hz1 hz2 rfl (by decide) _ _ _ rfl (hown.alloc _) ⟨w4.heap.size, 0, none⟩ 1 1 (stepVs [t]) rfl rfl ?cc1 ?cc2 ?cc3 ?cc4 ?cc5 ?_))
        case cc1 =>
          intro j u hj
          match j, hj with
          | 0, hj => simp [stepVs] at hj; subst hj; simp [Addr.add]
          | 1, hj => simp [stepVs] at hj; subst hj; simp [Addr.add]
          | 2, hj => simp [stepVs] at hj; subst hj; simp [Addr.add]
        case cc2 => intro u hu; simp [stepVs] at hu; rcases hu with rfl | rfl | rfl <;> rfl
        case cc3 => unfold maxLen; omega
        case cc4 => omega
        case cc5 => simp; omega
        intro v' w5 hown' hgrow _
        have bA : Below w4.heap.size w4 (w4.alloc (.cells #[.int .i64 t.kind, .int .i64 t.inn, .int .i64 t.out] 50)) := (Below.refl _ _).alloc (Nat.le_refl _) _
        have keep : ∀ (b : Nat) (ty : TypeId), CellsOf (w4.alloc (.cells #[.int .i64 t.kind, .int .i64 t.inn, .int .i64 t.out] 50)) b ty → ty ≠ 50 → w5.heap[b]? = (w4.alloc (.cells #[.int .i64 t.kind, .int .i64 t.inn, .int .i64 t.out] 50)).heap[b]? := fun b ty hc hne => by
          refine hgrow.block b (by obtain ⟨C, hC⟩ := hc; exact (Array.getElem?_eq_some_iff.1 hC).1) (fun e => ?_)
          rcases (hown.alloc (.cells #[.int .i64 t.kind, .int .i64 t.inn, .int .i64 t.out] 50)).2 with ⟨hv, _⟩ | ⟨g, cp, cur', hv, _, hC, _⟩
          · rw [hv] at e; cases e
          · rw [hv] at e
            simp [Value.ownBlock] at e
            subst e
            exact hne (hc.one ⟨_, hC⟩)
        have hz5' := hgrow.size
        simp at hz5'
        have HO5 : Hid (w5.ownsRow w.heap.size 50 3 v' (ss ++ [t]).length (stepVs (ss ++ [t]))) := by
          show World.ownsRow _ _ _ _ _ _ _
          rw [stepVs_snoc]
          simpa using hown'
        have HS5 := hide (show RowI 0 w5 _ cur from row_types (World.ownsRow.alloc (unhide HS4) _) (hown.alloc _) (by decide) hgrow)
        have HR5 := hide (((unhide HR4).alloc _).grown hgrow (fun j hj => by have := (unhide HVL j hj).1; omega))
        have HV5 := hide (V2.keptS (V2.ev (unhide HV4) (Ev.of_below (B := 0) (s := s) (N := 60000) bA)) keep)
        have hXA := (bA.block w.heap.size (Array.getElem?_eq_some_iff.1 (unhide HX4)).1).trans (unhide HX4)
        have HX5 := hide ((keep _ _ ⟨_, hXA⟩ (by decide)).trans hXA)
        have HW5 := hide (((unhide HW4).trans (Wrote.of_below bA)).grown hgrow (fun j hj => (unhide HVL j hj).1))
        have hq5 : w5.heap[w3.heap.size]? = some (stepCells t) := (hgrow.block w3.heap.size (by simp; omega) (fun e => by have := (unhide HVL _ e.symm).2; omega)).trans ((bA.block w3.heap.size hz4').trans (unhide HQ4))
        clear hown hown' hgrow bA keep hXA HS4 HR4 HV4 HX4 HW4 HQ4 HVL y0 y1 y2
        obtain ⟨y0, y1, y2, _⟩ := three hq5
        obtain ⟨x0, x1, _⟩ := two (unhide HX5)
        have hset5 := set_of (unhide HS5) (by omega)
        obtain ⟨od, hod, hDO⟩ := do_drawn room t (unhide HV5) hset5 (unhide HSC)
        have HDO := hide hDO
        clear hDO hset5 hq5
        have hsub : IntKind.i64.wrap (z - 1) = z - 1 := by rw [IntKind.wrap_i64]; omega
        go_wp2_with fail
        refine (unhide HDO).mono ?_
        rintro e w6 ⟨⟨v6, rfl, hr6⟩, b6⟩
        have HO6 := hide (ownsRow_on (unhide HO5) b6)
        have HS6 := hide (show RowI 0 w6 v6 (od.getD []) from row_base hr6 (Nat.zero_le _))
        have HR6 := hide ((unhide HR5).below b6)
        have HV6 := hide (V2.ev (unhide HV5) (Ev.of_below (B := 0) (s := s) (N := 60000) b6))
        have HX6 := hide ((b6.block w.heap.size (Array.getElem?_eq_some_iff.1 (unhide HX5)).1).trans (unhide HX5))
        have HW6 := hide ((unhide HW5).trans (Wrote.of_below b6))
        clear hr6 b6 HO5 HS5 HR5 HV5 HX5 HW5 HDO x0 x1 y0 y1 y2
        go_wp2_with fail
        go_roundw
        case rel => exact ⟨z - 1, ss ++ [t], od.getD [], by omega, by omega, by simp; omega, by first | rfl | rw [hsub] | simp [hsub], by omega, HO6, HS6, (unhide HR6).more (by omega), HV6, HX6, HW6⟩
        case measure => simp [intOf]; omega
    · have hzn : ¬ (0 : Int) < z := hz
      go_wp2_with fail
      exact bodyPost_ret (v := .tuple #[_, .slice ua cur.length uc]) (by simp [results, Tryz.results14, go_sem]) rfl ⟨⟨_, _, ss, cur, rfl, unhide HO, by omega, unhide HS, by omega⟩, (unhide HR).more (by omega), unhide HW⟩
end Go.Proofs.YthkhaemlcmkkjasGreat

namespace Go.Proofs.YthkhaemlcmkkjasGreat
set_option linter.unusedVariables false
set_option linter.unusedSimpArgs false
open Go.RowKit Go.Deep

theorem set_drawn {B rb s n cap : Nat} {m : Int} {w : World} {a : Option Addr} (room : Int) (hV : V2 s w 60000 (.slice a n cap)) (hn : n ≤ 70000) (h : Rd B w rb m) (hm : m ≤ 500000) :
    Calls Tryz.prog 12 #[.pointer (some ⟨rb, 0, none⟩), .agg #[.slice a n cap, .int .i64 room]] w fun e w' => (∃ v, e = .returned v ∧ ∃ set, RowI 0 w' v set ∧ set.length ≤ 100000) ∧ Rd B w' rb (m + 80000) ∧ Wrote B isRd w w' := by
  obtain ⟨l4, hl4, hP4⟩ := V2.packs hV
  rw [← hl4]
  exact l71Set_V B rb m a l4 cap room w h hm hP4 (by omega)
end Go.Proofs.YthkhaemlcmkkjasGreat
