/- The walk of the law FnExactStepDo. -/
import Derived.Test.YthkhaemlcmkkjaxGreatToS
import Derived.Test.YthkhaemlcmkkjaxGreatGIm
import Derived.Test.YthkhaemlcmkkjaxGreatGPd
import Derived.Test.YthkhaemlcmkkjaxGreatSz
import Derived.Test.YthkhaemlcmkkjaxGreatEq
import Derived.Test.YthkhaemlcmkkjaxGreatRowsL
import Derived.Test.YthkhaemlcmkkjaxGreatMarkB
import Derived.Deep.RegionWith
import Derived.Deep.CutRange
namespace Go.Proofs.YthkhaemlcmkkjaxGreat
set_option linter.unusedVariables false
set_option linter.unusedSimpArgs false
open Go.RowKit Go.Deep

theorem PacksAt.old {w w' : World} {a : Option Addr} {l : List PackD} (h : PacksAt (New w w') w' a l) : PacksAt (Old w') w' a l := h.wider fun _ _ hb => hb.2.lt
theorem PacksAt.newOn {v w w' : World} {a : Option Addr} {l : List PackD} (h : PacksAt (New v w) w a l) (hb : Below w.heap.size w w') : PacksAt (New v w') w' a l :=
  (h.stay fun _ b hs => hb.block b hs.2.lt).wider fun _ b hs => ⟨hs.1, hs.2.of_block (hb.block b hs.2.lt)⟩
/-- A copy of numbers, in memory of its own. -/
theorem SetAt.row {w : World} {g B : Nat} {l : List Int} (h : SetAt w (some ⟨g, 0, none⟩) l) (hg : B ≤ g) (hr : Row w g 3 l.length) : RowI B w (.slice (some ⟨g, 0, none⟩) l.length l.length) l := by
  obtain ⟨hl, h⟩ := h
  obtain ⟨C, hC, hs⟩ := hr
  refine ⟨by simp, Or.inr ⟨g, l.length, C, rfl, hg, hC, Nat.le_refl _, by unfold maxLen; omega, by omega, ?_⟩⟩
  apply List.ext_getElem?
  intro i
  rw [List.getElem?_take, List.getElem?_map]
  by_cases hi : i < l.length
  · rw [if_pos (by omega)]
    rcases h with h | ⟨b, o, e, _, hc⟩
    · rw [h] at hi; simp at hi
    · simp at e
      obtain ⟨rfl, rfl⟩ := e
      have := hc i hi
      simp only [World.cell?, hC, Nat.zero_add] at this
      have e2 : l[i]? = some (l.getD i 0) := by simp [List.getD, hi]
      rw [e2]
      simpa using this
  · rw [if_neg (by omega), List.getElem?_eq_none (by omega)]
    rfl
theorem RowI_wrote {B B' : Nat} {w w' : World} {v : Value} {l : List Int} (h : RowI B w v l) (hw : Wrote B' isAny w w') : RowI B w' v l := by
  obtain ⟨h1, h2⟩ := h
  refine ⟨h1, h2.imp id ?_⟩
  rintro ⟨g, cap, cur, hv, hg, hc, r⟩
  exact ⟨g, cap, cur, hv, hg, (hw.other ⟨cur, hc⟩ (by decide)).trans hc, r⟩
theorem set_at {B : Nat} {w : World} {a : Option Addr} {n c : Nat} {l : List Int} (h : RowI B w (.slice a n c) l) (hl : l.length ≤ 1048576) : SetAt w a l := by
  obtain ⟨a', c', e, hs⟩ := RowI.set h hl
  simp at e
  obtain ⟨rfl, _⟩ := e
  exact hs
theorem row_apart {B n sz : Nat} {w w' : World} {v u : Value} {e : TypeId} {xs : List Value} (h : w.ownsRow B e sz v n xs) (hg : w.grownBy w' u.ownBlock) (hne : ∀ j, v.ownBlock = some j → u.ownBlock = some j → False) : w'.ownsRow B e sz v n xs := by
  obtain ⟨h1, h2⟩ := h
  refine ⟨h1, h2.imp id ?_⟩
  rintro ⟨g, cap, cur, hv, hgB, hc, r⟩
  exact ⟨g, cap, cur, hv, hgB, (hg.block g (Array.getElem?_eq_some_iff.1 hc).1 (fun e => hne g (by rw [hv]; rfl) e.symm)).trans hc, r⟩

set_option maxRecDepth 10000 in
set_option maxHeartbeats 8000000 in
theorem law_any (a : Option Addr) (l : List PackD) (cap : Nat) (room : Int) (sa : Option Addr) (set : List Int) (sc : Nat) (s : StepD) (w : World) (h : PacksAt (Old w) w a l) (hs1 : set.length ≤ maxLen) (hs : set = [] ∨ ∃ b o, sa = some ⟨b, o, none⟩ ∧ b < w.heap.size ∧ ∀ i, i < set.length → w.cell? ⟨b, o + i, none⟩ = some (.int .i64 (set.getD i 0))) :
    Calls Tryz.prog 3 #[.agg #[.slice a l.length cap, .int .i64 room], .slice sa set.length sc, .agg #[.int .i64 s.kind, .int .i64 s.inn, .int .i64 s.out]] w fun e w' => e = .returned (.bool true) ∧ Below w.heap.size w w' := by
  unfold maxLen at hs1
  by_cases hbig : 1048576 < set.length
  · have hb' : (1048576 : Int) < (set.length : Int) := by omega
    go_enter Tryz.func3, Tryz.ntmps3
    go_wp2_with fail
    go_ret
    exact ⟨rfl, ((Below.refl _ _).alloc (Nat.le_refl _) _).alloc (by simp) _⟩
  have hb' : ¬ (1048576 : Int) < (set.length : Int) := by omega
  have HS := hide (show SetAt w sa set from ⟨by omega, hs⟩)
  have HV := hide h
  obtain ⟨ds, hds⟩ : ∃ ds, ds = implDo l room set s := ⟨_, rfl⟩
  have HDI := hide hds.symm
  have HDS := hide (show specDo l room set s = ds by rw [do_same, hds])
  have hdl : (ds.getD []).length ≤ 1000 := by
    rw [hds]
    cases hi : implDo l room set s with
    | none => simp
    | some t =>
      obtain ⟨m, _, hd⟩ := do_parts hi
      have hf := okz_form hd.ok'
      have h1 := set_places hf
      have h3 : t.length = (t.map Int.toNat).length := by simp
      have h4 : t.length ≤ 8 := by
        rw [h3, ← h1]
        exact places_le _ _
      simpa using (show t.length ≤ 1000 by omega)
  clear h hs hds
  go_enter Tryz.func3, Tryz.ntmps3
  go_wp2_with fail
  have bA := ((Below.refl w.heap.size w).alloc (Nat.le_refl _) (.cells #[.slice a l.length cap, .int .i64 room] 24)).alloc (by simp) (.cells #[.int .i64 s.kind, .int .i64 s.inn, .int .i64 s.out] 27)
  refine (szRepo_any a l cap room 1048576 _ ((unhide HV).on bA) (by omega) (by omega)).mono ?_
  rintro e w1 ⟨⟨r1, rfl, hr1⟩, hb⟩
  have x0 := hb.cell (p := ⟨w.heap.size, 0, none⟩) (by simp; omega)
  have x1 := hb.cell (p := ⟨w.heap.size, 1, none⟩) (by simp; omega)
  have s0 := hb.cell (p := ⟨w.heap.size + 1, 0, none⟩) (by simp)
  have s1 := hb.cell (p := ⟨w.heap.size + 1, 1, none⟩) (by simp)
  have s2 := hb.cell (p := ⟨w.heap.size + 1, 2, none⟩) (by simp)
  have hz := hb.size
  simp at x0 x1 s0 s1 s2 hz
  have HB := hide (bA.trans (hb.mono (by simp; omega)))
  clear hb bA
  rcases hr1 with hr1 | ⟨hr10, hr11, hrs1⟩
  · go_wp2_with fail
    go_ret
    exact ⟨rfl, unhide HB⟩
  have hn1 : ¬ r1 < 0 := by omega
  have hk0 : w.heap.size < w1.heap.size := by omega
  have hk1 : w.heap.size + 1 < w1.heap.size := by omega
  have HTR := hide (fun x (hx : Below w1.heap.size w1 x) => toRepo_caps a l cap room x (((unhide HV).on (unhide HB)).on hx) hrs1)
  have HTI := hide (fun x (hx : Below w1.heap.size w1 x) => toIntS_any sa set sc x (((unhide HS).on (unhide HB)).on hx))
  go_upto_region 7 with fail
  refine wp_region_headE 11 (by kernel_rfl) (by kernel_rfl) (by kernel_rfl) (by kernel_rfl) (by kernel_rfl) (TX (.agg #[.slice a l.length cap, .int .i64 room]) (.slice sa set.length sc) (.agg #[.int .i64 s.kind, .int .i64 s.inn, .int .i64 s.out]) l room set w1.heap.size ds) (fun _ x => Hid (Below w1.heap.size w1 x)) (fun x y => Below x.heap.size x y) (fun i v x y h hb => TX_on h hb) (Below.refl _ _).drew ?_ ?_
  · intro i oo him hi ac x n hn ha HC hd
    have hC := unhide HC
    match i with
    | 0 =>
      simp at hi
      subst hi
      have e3 : ac.tmps[3]? = some (.pointer (some ⟨w.heap.size, 0, none⟩)) := (ha.slot 3 (slots_no (by kernel_rfl))).trans rfl
      rw [← hC.cell (p := ⟨w.heap.size, _, none⟩) hk0] at x0 x1
      go_simp
      exact ⟨_, rfl, rfl, (by first | exact HC | exact True.intro), Below.refl _ _⟩
    | 1 =>
      simp at hi
      subst hi
      have d0 := hd ⟨0, .data⟩ (by simp) rfl
      rw [valOf_at (d := 28) rfl] at d0
      have d0' : ac.tmps[28]?.getD undef = .agg #[.slice a l.length cap, .int .i64 room] := d0
      go_simp
      refine (unhide HTR x hC).mono ?_
      rintro e y ⟨g, rfl, b3, hn, hcp⟩
      exact ⟨_, rfl, ⟨g, rfl, hn.old, hcp⟩, hC.trans (b3.mono hC.size), b3⟩
    | 2 =>
      simp at hi
      subst hi
      have e1 : ac.tmps[1]? = some (.slice sa set.length sc) := (ha.slot 1 (slots_no (by kernel_rfl))).trans rfl
      go_simp
      exact ⟨_, rfl, rfl, (by first | exact HC | exact True.intro), Below.refl _ _⟩
    | 3 =>
      simp at hi
      subst hi
      have d2 := hd ⟨2, .data⟩ (by simp) rfl
      rw [valOf_at (d := 30) rfl] at d2
      have d2' : ac.tmps[30]?.getD undef = .slice sa set.length sc := d2
      go_simp
      refine (unhide HTI x hC).mono ?_
      rintro e y ⟨g, rfl, b3, hsn, _, _⟩
      exact ⟨_, rfl, ⟨g, rfl, hsn⟩, hC.trans (b3.mono hC.size), b3⟩
    | 4 =>
      simp at hi
      subst hi
      have e5 : ac.tmps[5]? = some (.pointer (some ⟨w.heap.size + 1, 0, none⟩)) := (ha.slot 5 (slots_no (by kernel_rfl))).trans rfl
      rw [← hC.cell (p := ⟨w.heap.size + 1, _, none⟩) hk1] at s0 s1 s2
      go_simp
      exact ⟨_, rfl, rfl, (by first | exact HC | exact True.intro), Below.refl _ _⟩
    | 5 =>
      simp at hi
      subst hi
      have d4 := hd ⟨4, .data⟩ (by simp) rfl
      rw [valOf_at (d := 32) rfl] at d4
      have d4' : ac.tmps[32]?.getD undef = .agg #[.int .i64 s.kind, .int .i64 s.inn, .int .i64 s.out] := d4
      go_simp
      refine (toStep_any s x).mono ?_
      rintro e y ⟨rfl, b3⟩
      exact ⟨_, rfl, rfl, hC.trans (b3.mono hC.size), b3⟩
    | 6 =>
      simp at hi
      subst hi
      obtain ⟨gp, h1, hpk, hcp⟩ := hd ⟨1, .data⟩ (by simp) rfl
      rw [valOf_at (d := 29) rfl] at h1
      obtain ⟨gs, h3, hst⟩ := hd ⟨3, .data⟩ (by simp) rfl
      rw [valOf_at (d := 31) rfl] at h3
      have d5 := hd ⟨5, .data⟩ (by simp) rfl
      rw [valOf_at (d := 33) rfl] at d5
      have d5' : ac.tmps[33]?.getD undef = .agg #[.int .i64 s.kind, .int .i64 s.inn, .int .i64 s.out] := d5
      have HCO := hide (specStepDo_full (some ⟨gp, 0, none⟩) l l.length room (some ⟨gs, 0, none⟩) set set.length s x hpk hcp hst (fun e => by cases e))
      clear hpk hcp hst
      go_simp
      refine (unhide HCO).mono ?_
      rw [unhide HDS]
      rintro e y ⟨⟨v3, rfl, hr3⟩, b3⟩
      exact ⟨_, rfl, ⟨v3, rfl, row_down hr3 hC.size⟩, hC.trans (b3.mono hC.size), b3⟩
    | 7 =>
      simp at hi
      subst hi
      obtain ⟨u6, h6, r6⟩ := hd ⟨6, .data⟩ (by simp) rfl
      rw [valOf_at (d := 34) rfl] at h6
      have HR6 := hide r6
      clear r6
      go_simp
      exact ⟨_, rfl, ⟨u6, rfl, unhide HR6⟩, (by first | exact HC | exact True.intro), Below.refl _ _⟩
    | 8 =>
      simp at hi
      subst hi
      obtain ⟨u7, h7, r7⟩ := hd ⟨7, .data⟩ (by simp) rfl
      rw [valOf_at (d := 27) rfl] at h7
      have HR7 := hide r7
      clear r7
      go_simp
      exact ⟨_, rfl, unhide HR7, (by first | exact HC | exact True.intro), Below.refl _ _⟩
    | 9 =>
      simp at hi
      subst hi
      obtain ⟨u7, h7, r7⟩ := hd ⟨7, .data⟩ (by simp) rfl
      rw [valOf_at (d := 27) rfl] at h7
      clear r7
      go_simp
      exact ⟨_, rfl, rfl, (by first | exact HC | exact True.intro), Below.refl _ _⟩
    | 10 =>
      simp at hi
      subst hi
      have r8 := hd ⟨8, .data⟩ (by simp) rfl
      rw [valOf_at (d := 35) rfl] at r8
      have HR8 := hide r8
      clear r8
      go_simp
      exact ⟨_, rfl, unhide HR8, (by first | exact HC | exact True.intro), Below.refl _ _⟩
    | i + 11 => omega
  · intro ac w3 ha hT b3
    replace b3 := unhide b3
    have t28 : ac.tmps[36]?.getD undef = .bool ds.isSome := by have := hT 9 (by omega); rwa [valOf_at (d := 36) rfl] at this
    have r27 : RowI w1.heap.size w3 (ac.tmps[8]?.getD undef) (ds.getD []) := by have := hT 10 (by omega); rwa [valOf_at (d := 8) rfl] at this
    have hl := ha.list
    simp [slotOf, List.range_succ] at hl
    rw [hl]
    clear hl ha hT
    rw [t28]
    clear t28
    generalize ac.tmps[8]?.getD undef = u27 at r27
    have hb := b3
    have HO3 := hide r27
    clear b3 r27 HTR HTI hk0 hk1
    rw [← hb.cell (p := ⟨w.heap.size, _, none⟩) (by simp; omega)] at x0 x1
    rw [← hb.cell (p := ⟨w.heap.size + 1, _, none⟩) (by simp; omega)] at s0 s1 s2
    have hz3 := hb.size
    have hb1 := (unhide HB).trans (hb.mono (unhide HB).size)
    clear HB
    have HB := hide hb1
    clear hb hb1
    obtain ⟨voa, voc, hvo, _⟩ := RowI.set (unhide HO3) (by omega)
    subst hvo
    have HOlt := hide (fun j hj => (World.ownsRow.lt (unhide HO3) j hj).2)
    go_wp2_with fail
    refine (toRepo_any a l cap room _ ((unhide HV).on (unhide HB)) hrs1).mono ?_
    rintro e w4 ⟨g2, rfl, hb, hn⟩
    rw [← hb.cell (p := ⟨w.heap.size, _, none⟩) (by simp; omega)] at x0 x1
    rw [← hb.cell (p := ⟨w.heap.size + 1, _, none⟩) (by simp; omega)] at s0 s1 s2
    have hz4 := hb.size
    have hb1 := (unhide HB).trans (hb.mono (unhide HB).size)
    have HO4 := hide (show RowI _ _ _ (ds.getD []) from ownsRow_on (unhide HO3) hb)
    have HX4 := hide hn
    clear hn
    clear HB HO3
    have HB := hide hb1
    clear hb hb1
    go_wp2_with fail
    obtain ⟨w5, hw5⟩ : ∃ w5, w5 = w4.alloc (.cells #[.slice (some ⟨g2, 0, none⟩) l.length l.length, .int .i64 room] 33) := ⟨_, rfl⟩
    rw [← hw5]
    have hb : Below w4.heap.size w4 w5 := by rw [hw5]; exact (Below.refl _ _).alloc (Nat.le_refl _) _
    have y0 : w5.cell? ⟨w4.heap.size, 0, none⟩ = some (.slice (some ⟨g2, 0, none⟩) l.length l.length) := by rw [hw5]; simp
    have y1 : w5.cell? ⟨w4.heap.size, 1, none⟩ = some (.int .i64 room) := by rw [hw5]; simp
    have hzw5 : w4.heap.size < w5.heap.size := by rw [hw5]; simp
    clear hw5
    rw [← hb.cell (p := ⟨w.heap.size, _, none⟩) (by simp; omega)] at x0 x1
    rw [← hb.cell (p := ⟨w.heap.size + 1, _, none⟩) (by simp; omega)] at s0 s1 s2
    have hz5 := hb.size
    have hb1 := (unhide HB).trans (hb.mono (unhide HB).size)
    have HO5 := hide (show RowI _ _ _ (ds.getD []) from ownsRow_on (unhide HO4) hb)
    have HX5 := hide ((unhide HX4).newOn hb)
    clear HB HO4 HX4
    have HB := hide hb1
    clear hb hb1
    refine (toIntS_any sa set sc _ ((unhide HS).on (unhide HB))).mono ?_
    rintro e w5b ⟨gx, rfl, hb, hsx, hgx, hrx⟩
    rw [← hb.cell (p := ⟨w.heap.size, _, none⟩) (by simp; omega)] at x0 x1
    rw [← hb.cell (p := ⟨w.heap.size + 1, _, none⟩) (by simp; omega)] at s0 s1 s2
    rw [← hb.cell (p := ⟨w4.heap.size, _, none⟩) (by simp; omega)] at y0 y1
    have hz5b := hb.size
    have hb1 := (unhide HB).trans (hb.mono (unhide HB).size)
    have HO5b := hide (show RowI _ _ _ (ds.getD []) from ownsRow_on (unhide HO5) hb)
    have HX5b := hide ((unhide HX5).newOn hb)
    have HI5b := hide (SetAt.row hsx hgx hrx)
    have HSX := hide hsx
    have HGXL : Hid (gx < w5b.heap.size) := hrx.lt
    clear hsx hgx hrx
    clear HB HO5 HX5
    have HB := hide hb1
    clear hb hb1
    have hk1 : w.heap.size + 1 < w5b.heap.size := by omega
    have hk4 : w4.heap.size < w5b.heap.size := by omega
    have HDO := hide (fun x (hx : Below w5b.heap.size w5b x) => implStepDo_any (some ⟨g2, 0, none⟩) l l.length room (some ⟨gx, 0, none⟩) set set.length s x ((unhide HX5b).old.on hx) ((unhide HSX).on hx))
    go_upto_region 10 with fail
    refine wp_region_headE 9 (by kernel_rfl) (by kernel_rfl) (by kernel_rfl) (by kernel_rfl) (by kernel_rfl) (TY (.agg #[.slice (some ⟨g2, 0, none⟩) l.length l.length, .int .i64 room]) (.slice (some ⟨gx, 0, none⟩) set.length set.length) (.agg #[.int .i64 s.kind, .int .i64 s.inn, .int .i64 s.out]) w5b.heap.size ds) (fun _ x => Hid (Below w5b.heap.size w5b x)) (fun x y => Below x.heap.size x y) (fun i v x y h hb => TY_on h hb) (Below.refl _ _).drew ?_ ?_
    · intro i oo him hi ac x n hn ha HC hd
      have hC := unhide HC
      match i with
      | 0 =>
        simp at hi
        subst hi
        have e10 : ac.tmps[10]? = some (.pointer (some ⟨w4.heap.size, 0, none⟩)) := (ha.slot 10 (slots_no (by kernel_rfl))).trans rfl
        rw [← hC.cell (p := ⟨w4.heap.size, _, none⟩) hk4] at y0 y1
        go_simp
        exact ⟨_, rfl, rfl, (by first | exact HC | exact True.intro), Below.refl _ _⟩
      | 1 =>
        simp at hi
        subst hi
        have e11 : ac.tmps[11]? = some (.slice (some ⟨gx, 0, none⟩) set.length set.length) := (ha.slot 11 (slots_no (by kernel_rfl))).trans rfl
        go_simp
        exact ⟨_, rfl, rfl, (by first | exact HC | exact True.intro), Below.refl _ _⟩
      | 2 =>
        simp at hi
        subst hi
        have e5 : ac.tmps[5]? = some (.pointer (some ⟨w.heap.size + 1, 0, none⟩)) := (ha.slot 5 (slots_no (by kernel_rfl))).trans rfl
        rw [← hC.cell (p := ⟨w.heap.size + 1, _, none⟩) hk1] at s0 s1 s2
        go_simp
        exact ⟨_, rfl, rfl, (by first | exact HC | exact True.intro), Below.refl _ _⟩
      | 3 =>
        simp at hi
        subst hi
        have d2 := hd ⟨2, .data⟩ (by simp) rfl
        rw [valOf_at (d := 44) rfl] at d2
        have d2' : ac.tmps[44]?.getD undef = .agg #[.int .i64 s.kind, .int .i64 s.inn, .int .i64 s.out] := d2
        go_simp
        refine (toStep_any s x).mono ?_
        rintro e y ⟨rfl, b3⟩
        exact ⟨_, rfl, rfl, hC.trans (b3.mono hC.size), b3⟩
      | 4 =>
        simp at hi
        subst hi
        have d0 := hd ⟨0, .data⟩ (by simp) rfl
        rw [valOf_at (d := 42) rfl] at d0
        have d0' : ac.tmps[42]?.getD undef = .agg #[.slice (some ⟨g2, 0, none⟩) l.length l.length, .int .i64 room] := d0
        have d1 := hd ⟨1, .data⟩ (by simp) rfl
        rw [valOf_at (d := 43) rfl] at d1
        have d1' : ac.tmps[43]?.getD undef = .slice (some ⟨gx, 0, none⟩) set.length set.length := d1
        have d3 := hd ⟨3, .data⟩ (by simp) rfl
        rw [valOf_at (d := 45) rfl] at d3
        have d3' : ac.tmps[45]?.getD undef = .agg #[.int .i64 s.kind, .int .i64 s.inn, .int .i64 s.out] := d3
        go_simp
        refine (unhide HDO x hC).mono ?_
        rw [unhide HDI]
        rintro e y ⟨⟨v3, rfl, hr3⟩, b3⟩
        exact ⟨_, rfl, ⟨v3, rfl, row_down hr3 hC.size⟩, hC.trans (b3.mono hC.size), b3⟩
      | 5 =>
        simp at hi
        subst hi
        obtain ⟨u6, h6, r6⟩ := hd ⟨4, .data⟩ (by simp) rfl
        rw [valOf_at (d := 46) rfl] at h6
        have HR6 := hide r6
        clear r6
        go_simp
        exact ⟨_, rfl, ⟨u6, rfl, unhide HR6⟩, (by first | exact HC | exact True.intro), Below.refl _ _⟩
      | 6 =>
        simp at hi
        subst hi
        obtain ⟨u7, h7, r7⟩ := hd ⟨5, .data⟩ (by simp) rfl
        rw [valOf_at (d := 41) rfl] at h7
        have HR7 := hide r7
        clear r7
        go_simp
        exact ⟨_, rfl, unhide HR7, (by first | exact HC | exact True.intro), Below.refl _ _⟩
      | 7 =>
        simp at hi
        subst hi
        obtain ⟨u7, h7, r7⟩ := hd ⟨5, .data⟩ (by simp) rfl
        rw [valOf_at (d := 41) rfl] at h7
        clear r7
        go_simp
        exact ⟨_, rfl, rfl, (by first | exact HC | exact True.intro), Below.refl _ _⟩
      | 8 =>
        simp at hi
        subst hi
        have r8 := hd ⟨6, .data⟩ (by simp) rfl
        rw [valOf_at (d := 47) rfl] at r8
        have HR8 := hide r8
        clear r8
        go_simp
        exact ⟨_, rfl, unhide HR8, (by first | exact HC | exact True.intro), Below.refl _ _⟩
      | i + 9 => omega
    · intro ac w6 ha hT b3
      replace b3 := unhide b3
      have t28 : ac.tmps[48]?.getD undef = .bool ds.isSome := by have := hT 7 (by omega); rwa [valOf_at (d := 48) rfl] at this
      have r27 : RowI w5b.heap.size w6 (ac.tmps[12]?.getD undef) (ds.getD []) := by have := hT 8 (by omega); rwa [valOf_at (d := 12) rfl] at this
      have hl := ha.list
      simp [slotOf, List.range_succ] at hl
      rw [hl]
      clear hl ha hT
      rw [t28]
      clear t28
      generalize ac.tmps[12]?.getD undef = u27 at r27
      have hb := b3
      have HG6 := hide r27
      clear b3 r27 HDO HSX hk1 hk4
      rw [← hb.cell (p := ⟨w.heap.size, _, none⟩) (by simp; omega)] at x0 x1
      rw [← hb.cell (p := ⟨w.heap.size + 1, _, none⟩) (by simp; omega)] at s0 s1 s2
      rw [← hb.cell (p := ⟨w4.heap.size, _, none⟩) (by simp; omega)] at y0 y1
      have hz6 := hb.size
      have hb1 := (unhide HB).trans (hb.mono (unhide HB).size)
      have HO6 := hide (show RowI _ _ _ (ds.getD []) from ownsRow_on (unhide HO5b) hb)
      have HX6 := hide ((unhide HX5b).newOn hb)
      have HI6 := hide (show RowI _ _ _ set from ownsRow_on (unhide HI5b) hb)
      clear HB HO5b HX5b HI5b
      have HB := hide hb1
      clear hb hb1
      obtain ⟨vga, vgc, hvg, _⟩ := RowI.set (unhide HG6) (by omega)
      subst hvg
      have HEQ := hide (fun W (h1 : SetAt W vga (ds.getD [])) (h2 : SetAt W voa (ds.getD [])) => eqIntS_same vga voa (ds.getD []) vgc voc W h1 h2)
      go_wp2_with fail
      refine (unhide HEQ _ (set_at (unhide HG6) (by omega)) (set_at (unhide HO6) (by omega))).mono ?_
      rintro e w7 ⟨rfl, hb⟩
      rw [← hb.cell (p := ⟨w.heap.size, _, none⟩) (by simp; omega)] at x0 x1
      rw [← hb.cell (p := ⟨w.heap.size + 1, _, none⟩) (by simp; omega)] at s0 s1 s2
      rw [← hb.cell (p := ⟨w4.heap.size, _, none⟩) (by simp; omega)] at y0 y1
      have hz7 := hb.size
      have hb1 := (unhide HB).trans (hb.mono (unhide HB).size)
      have HO7 := hide (show RowI _ _ _ (ds.getD []) from ownsRow_on (unhide HO6) hb)
      have HX7 := hide ((unhide HX6).newOn hb)
      have HI7 := hide (show RowI _ _ _ set from ownsRow_on (unhide HI6) hb)
      have HG7 := hide (show RowI _ _ _ (ds.getD []) from ownsRow_on (unhide HG6) hb)
      clear HB HO6 HX6 HI6 HG6
      have HB := hide hb1
      clear hb hb1
      have HT := hide (fun W (hW : Below w7.heap.size w7 W) => toRepo_any a l cap room W (((unhide HV).on (unhide HB)).on hW) hrs1)
      go_wp2_with fail
      go_cut [62] from 58 to 62 (fun s wx => s = .bool false ∧ Below w7.heap.size w7 wx)
      case first =>
        go_region_with (first
          | (go_at_call 9; refine (unhide HT _ ?_).mono ?_; exact (Below.refl _ _).drew; rintro e wA ⟨gA, rfl, hbA, hnA⟩; have hA : Below w7.heap.size w7 wA := (Below.refl w7.heap.size w7).drew.trans hbA; have a0 := (hA.cell (p := ⟨w4.heap.size, 0, none⟩) (by simp; omega)).trans y0; have a1 := (hA.cell (p := ⟨w4.heap.size, 1, none⟩) (by simp; omega)).trans y1; have HA := hide hA; have HNA := hide hnA.old; clear hbA hA hnA)
          | (go_at_call 14; refine (eqRepo_any _ _ l _ _ room _ ((unhide HX7).old.on (unhide HA)) (unhide HNA)).mono ?_; rintro e wC ⟨rfl, hbC⟩))
        all_goals (go_wp2_with fail; go_meet; exact ⟨rfl, (unhide HA).trans (hbC.mono (unhide HA).size)⟩)
      case rest =>
      obtain ⟨rfl, hb⟩ := hcut
      rename World => w8
      clear HT
      rw [← hb.cell (p := ⟨w.heap.size, _, none⟩) (by simp; omega)] at x0 x1
      rw [← hb.cell (p := ⟨w.heap.size + 1, _, none⟩) (by simp; omega)] at s0 s1 s2
      rw [← hb.cell (p := ⟨w4.heap.size, _, none⟩) (by simp; omega)] at y0 y1
      have hz8 := hb.size
      have hb1 := (unhide HB).trans (hb.mono (unhide HB).size)
      have HO8 := hide (show RowI _ _ _ (ds.getD []) from ownsRow_on (unhide HO7) hb)
      have HX8 := hide ((unhide HX7).newOn hb)
      have HI8 := hide (show RowI _ _ _ set from ownsRow_on (unhide HI7) hb)
      have HG8 := hide (show RowI _ _ _ (ds.getD []) from ownsRow_on (unhide HG7) hb)
      clear HB HO7 HX7 HI7 HG7
      have HB := hide hb1
      clear hb hb1
      go_wp2_with fail
      refine (toIntS_any sa set sc _ ((unhide HS).on (unhide HB))).mono ?_
      rintro e w8b ⟨gy, rfl, hb, hsy, _, _⟩
      rw [← hb.cell (p := ⟨w.heap.size, _, none⟩) (by simp; omega)] at x0 x1
      rw [← hb.cell (p := ⟨w.heap.size + 1, _, none⟩) (by simp; omega)] at s0 s1 s2
      rw [← hb.cell (p := ⟨w4.heap.size, _, none⟩) (by simp; omega)] at y0 y1
      have hz8b := hb.size
      have hb1 := (unhide HB).trans (hb.mono (unhide HB).size)
      have HO8b := hide (show RowI _ _ _ (ds.getD []) from ownsRow_on (unhide HO8) hb)
      have HX8b := hide ((unhide HX8).newOn hb)
      have HI8b := hide (show RowI _ _ _ set from ownsRow_on (unhide HI8) hb)
      have HG8b := hide (show RowI _ _ _ (ds.getD []) from ownsRow_on (unhide HG8) hb)
      have HSY := hide hsy
      clear hsy
      clear HB HO8 HX8 HI8 HG8
      have HB := hide hb1
      clear hb hb1
      have HSZ := hide (set_at (unhide HI8b) (by omega))
      go_wp2_with fail
      refine (eqIntS_same _ _ set _ _ _ (unhide HSZ) (unhide HSY)).mono ?_
      rintro e w8c ⟨rfl, hb⟩
      clear HSZ HSY
      rw [← hb.cell (p := ⟨w.heap.size, _, none⟩) (by simp; omega)] at x0 x1
      rw [← hb.cell (p := ⟨w.heap.size + 1, _, none⟩) (by simp; omega)] at s0 s1 s2
      rw [← hb.cell (p := ⟨w4.heap.size, _, none⟩) (by simp; omega)] at y0 y1
      have hz8c := hb.size
      have hb1 := (unhide HB).trans (hb.mono (unhide HB).size)
      have HO8c := hide (show RowI _ _ _ (ds.getD []) from ownsRow_on (unhide HO8b) hb)
      have HX8c := hide ((unhide HX8b).newOn hb)
      have HI8c := hide (show RowI _ _ _ set from ownsRow_on (unhide HI8b) hb)
      have HG8c := hide (show RowI _ _ _ (ds.getD []) from ownsRow_on (unhide HG8b) hb)
      clear HB HO8b HX8b HI8b HG8b
      have HB := hide hb1
      clear hb hb1
      have HX0 := hide (And.intro x0 (And.intro x1 (And.intro s0 (And.intro s1 s2))))
      clear x0 x1 s0 s1 s2
      go_wp2_with fail
      refine (markRepo_any w3 _ g2 l _ room (unhide HX8c) hrs1).mono ?_
      rintro e w9 ⟨⟨r9, rfl, hr90, hr91⟩, hw9⟩
      have hb9 := hw9.below (by omega)
      have HB9 := hide ((unhide HB).trans (hb9.mono (by have := (unhide HB).size; omega)))
      obtain ⟨x0, x1, s0, s1, s2⟩ := unhide HX0
      rw [← hb9.cell (p := ⟨w.heap.size, _, none⟩) (by simp; omega)] at x0 x1
      rw [← hb9.cell (p := ⟨w.heap.size + 1, _, none⟩) (by simp; omega)] at s0 s1 s2
      have HO9 := hide (RowI_wrote (unhide HO8c) hw9)
      have HG9 := hide (RowI_wrote (unhide HG8c) hw9)
      have hI9 := RowI_wrote (unhide HI8c) hw9
      have hz9 := hw9.size
      clear hw9 HB HX8c HO8c HG8c HI8c y0 y1 hb9 HX0
      have HMK := hide (markIntS_k r9 _ _ set _ hI9 (by omega) (by omega) (by omega))
      have HI9 := hide hI9
      clear hI9
      have hn9 : ¬ (r9 + (set.length : Int) < 0) := by omega
      have HGB : Hid (∀ j, (Value.slice vga (ds.getD []).length vgc).ownBlock = some j → w5b.heap.size ≤ j) := fun j hj => (World.ownsRow.lt (unhide HG9) j hj).1
      have HXB : Hid (gx < w5b.heap.size) := HGXL
      go_wp2_with fail
      refine (unhide HMK).mono ?_
      rintro e w9b ⟨rfl, hg9, _⟩
      have hbG : Below w5.heap.size w9 w9b := ⟨hg9.os, hg9.tape, hg9.output, hg9.size, fun k hk => hg9.block k (by omega) (fun e => by have := (World.ownsRow.lt (unhide HI9) k e.symm).1; omega)⟩
      have HB := hide ((unhide HB9).trans (hbG.mono (by have := (unhide HB9).size; omega)))
      rw [← hbG.cell (p := ⟨w.heap.size, _, none⟩) (by simp; omega)] at x0 x1
      rw [← hbG.cell (p := ⟨w.heap.size + 1, _, none⟩) (by simp; omega)] at s0 s1 s2
      have HO9b := hide (row_apart (unhide HO9) hg9 (fun j hj e => by
        have h1 := unhide HOlt j hj
        have h2 := (World.ownsRow.lt (unhide HI9) j e).1
        omega))
      have HG9b := hide (row_apart (unhide HG9) hg9 (fun j hj e => by
        have h1 := unhide HGB j hj
        have h2 := unhide HXB
        simp [Value.ownBlock] at e
        omega))
      have hz9b := hg9.size
      clear HB9 HO9 HG9 HI9 HMK hg9 hbG
      go_wp2_with fail
      refine (unhide HEQ _ (set_at (unhide HG9b) (by omega)) (set_at (unhide HO9b) (by omega))).mono ?_
      rintro e w10 ⟨rfl, hb⟩
      rw [← hb.cell (p := ⟨w.heap.size, _, none⟩) (by simp; omega)] at x0 x1
      rw [← hb.cell (p := ⟨w.heap.size + 1, _, none⟩) (by simp; omega)] at s0 s1 s2
      have hz10 := hb.size
      have hb1 := (unhide HB).trans (hb.mono (unhide HB).size)
      have HO10 := hide (show RowI _ _ _ (ds.getD []) from ownsRow_on (unhide HO9b) hb)
      have HG10 := hide (show RowI _ _ _ (ds.getD []) from ownsRow_on (unhide HG9b) hb)
      clear HB HO9b HG9b
      have HB := hide hb1
      clear hb hb1
      have HMG := hide (markIntS_k 1 _ _ (ds.getD []) _ (unhide HG10) (by omega) (by omega) (by omega))
      go_wp2_with fail
      refine (unhide HMG).mono ?_
      rintro e w11 ⟨rfl, hg11, hG11⟩
      have HGM11 := hide hG11
      have HO11 := hide (row_apart (unhide HO10) hg11 (fun j hj e => by
        have h1 := unhide HOlt j hj
        have h2 := (World.ownsRow.lt (unhide HG10) j e).1
        omega))
      have hbG : Below w5b.heap.size w10 w11 := ⟨hg11.os, hg11.tape, hg11.output, hg11.size, fun k hk => hg11.block k (by omega) (fun e => by have := (World.ownsRow.lt (unhide HG10) k e.symm).1; omega)⟩
      have hz11 := hg11.size
      have hb1 := (unhide HB).trans (hbG.mono (by have := (unhide HB).size; omega))
      rw [← hbG.cell (p := ⟨w.heap.size, _, none⟩) (by simp; omega)] at x0 x1
      rw [← hbG.cell (p := ⟨w.heap.size + 1, _, none⟩) (by simp; omega)] at s0 s1 s2
      clear HB HMG HG10 HO10 hg11 hG11 hbG
      have HB := hide hb1
      clear hb1
      have hpos : ¬ (1 + ((ds.getD []).length : Int) < 0) := by omega
      have HHE := hide (fun W (hW : SetAt W vga (upsK 1 (ds.getD []).length)) => heldIntS_k 1 vga (ds.getD []).length vgc W hW (by omega) (by omega))
      generalize 1 + ((ds.getD []).length : Int) = ek at hpos HHE ⊢
      go_wp2_with fail
      refine (unhide HHE _ (set_at (unhide HGM11) (by rw [upsK_length]; omega))).mono ?_
      rintro e w12 ⟨rfl, hb⟩
      rw [← hb.cell (p := ⟨w.heap.size, _, none⟩) (by simp; omega)] at x0 x1
      rw [← hb.cell (p := ⟨w.heap.size + 1, _, none⟩) (by simp; omega)] at s0 s1 s2
      have hz12 := hb.size
      have hb1 := (unhide HB).trans (hb.mono (unhide HB).size)
      have HO12 := hide (show RowI _ _ _ (ds.getD []) from ownsRow_on (unhide HO11) hb)
      have HGM12 := hide (show RowI _ _ _ (upsK 1 (ds.getD []).length) from ownsRow_on (unhide HGM11) hb)
      clear HB HO11 HGM11
      have HB := hide hb1
      clear hb hb1
      have hk0 : w.heap.size < w12.heap.size := by omega
      have hk1 : w.heap.size + 1 < w12.heap.size := by omega
      have HTR := hide (fun x (hx : Below w12.heap.size w12 x) => toRepo_caps a l cap room x (((unhide HV).on (unhide HB)).on hx) hrs1)
      have HTI := hide (fun x (hx : Below w12.heap.size w12 x) => toIntS_any sa set sc x (((unhide HS).on (unhide HB)).on hx))
      have HKEEP := HDS
      clear HDS
      have HDS := HDI
      go_upto_region 30 with fail
      refine wp_region_headE 11 (by kernel_rfl) (by kernel_rfl) (by kernel_rfl) (by kernel_rfl) (by kernel_rfl) (TX (.agg #[.slice a l.length cap, .int .i64 room]) (.slice sa set.length sc) (.agg #[.int .i64 s.kind, .int .i64 s.inn, .int .i64 s.out]) l room set w12.heap.size ds) (fun _ x => Hid (Below w12.heap.size w12 x)) (fun x y => Below x.heap.size x y) (fun i v x y h hb => TX_on h hb) (Below.refl _ _).drew ?_ ?_
      · intro i oo him hi ac x n hn ha HC hd
        have hC := unhide HC
        match i with
        | 0 =>
          simp at hi
          subst hi
          have e3 : ac.tmps[3]? = some (.pointer (some ⟨w.heap.size, 0, none⟩)) := (ha.slot 3 (slots_no (by kernel_rfl))).trans rfl
          rw [← hC.cell (p := ⟨w.heap.size, _, none⟩) hk0] at x0 x1
          go_simp
          exact ⟨_, rfl, rfl, (by first | exact HC | exact True.intro), Below.refl _ _⟩
        | 1 =>
          simp at hi
          subst hi
          have d0 := hd ⟨0, .data⟩ (by simp) rfl
          rw [valOf_at (d := 99) rfl] at d0
          have d0' : ac.tmps[99]?.getD undef = .agg #[.slice a l.length cap, .int .i64 room] := d0
          go_simp
          refine (unhide HTR x hC).mono ?_
          rintro e y ⟨g, rfl, b3, hn, hcp⟩
          exact ⟨_, rfl, ⟨g, rfl, hn.old, hcp⟩, hC.trans (b3.mono hC.size), b3⟩
        | 2 =>
          simp at hi
          subst hi
          have e1 : ac.tmps[1]? = some (.slice sa set.length sc) := (ha.slot 1 (slots_no (by kernel_rfl))).trans rfl
          go_simp
          exact ⟨_, rfl, rfl, (by first | exact HC | exact True.intro), Below.refl _ _⟩
        | 3 =>
          simp at hi
          subst hi
          have d2 := hd ⟨2, .data⟩ (by simp) rfl
          rw [valOf_at (d := 101) rfl] at d2
          have d2' : ac.tmps[101]?.getD undef = .slice sa set.length sc := d2
          go_simp
          refine (unhide HTI x hC).mono ?_
          rintro e y ⟨g, rfl, b3, hsn, _, _⟩
          exact ⟨_, rfl, ⟨g, rfl, hsn⟩, hC.trans (b3.mono hC.size), b3⟩
        | 4 =>
          simp at hi
          subst hi
          have e5 : ac.tmps[5]? = some (.pointer (some ⟨w.heap.size + 1, 0, none⟩)) := (ha.slot 5 (slots_no (by kernel_rfl))).trans rfl
          rw [← hC.cell (p := ⟨w.heap.size + 1, _, none⟩) hk1] at s0 s1 s2
          go_simp
          exact ⟨_, rfl, rfl, (by first | exact HC | exact True.intro), Below.refl _ _⟩
        | 5 =>
          simp at hi
          subst hi
          have d4 := hd ⟨4, .data⟩ (by simp) rfl
          rw [valOf_at (d := 103) rfl] at d4
          have d4' : ac.tmps[103]?.getD undef = .agg #[.int .i64 s.kind, .int .i64 s.inn, .int .i64 s.out] := d4
          go_simp
          refine (toStep_any s x).mono ?_
          rintro e y ⟨rfl, b3⟩
          exact ⟨_, rfl, rfl, hC.trans (b3.mono hC.size), b3⟩
        | 6 =>
          simp at hi
          subst hi
          obtain ⟨gp, h1, hpk, hcp⟩ := hd ⟨1, .data⟩ (by simp) rfl
          rw [valOf_at (d := 100) rfl] at h1
          obtain ⟨gs, h3, hst⟩ := hd ⟨3, .data⟩ (by simp) rfl
          rw [valOf_at (d := 102) rfl] at h3
          have d5 := hd ⟨5, .data⟩ (by simp) rfl
          rw [valOf_at (d := 104) rfl] at d5
          have d5' : ac.tmps[104]?.getD undef = .agg #[.int .i64 s.kind, .int .i64 s.inn, .int .i64 s.out] := d5
          have HCO := hide (implStepDo_any (some ⟨gp, 0, none⟩) l l.length room (some ⟨gs, 0, none⟩) set set.length s x hpk hst)
          clear hpk hcp hst
          go_simp
          refine (unhide HCO).mono ?_
          rw [unhide HDS]
          rintro e y ⟨⟨v3, rfl, hr3⟩, b3⟩
          exact ⟨_, rfl, ⟨v3, rfl, row_down hr3 hC.size⟩, hC.trans (b3.mono hC.size), b3⟩
        | 7 =>
          simp at hi
          subst hi
          obtain ⟨u6, h6, r6⟩ := hd ⟨6, .data⟩ (by simp) rfl
          rw [valOf_at (d := 105) rfl] at h6
          have HR6 := hide r6
          clear r6
          go_simp
          exact ⟨_, rfl, ⟨u6, rfl, unhide HR6⟩, (by first | exact HC | exact True.intro), Below.refl _ _⟩
        | 8 =>
          simp at hi
          subst hi
          obtain ⟨u7, h7, r7⟩ := hd ⟨7, .data⟩ (by simp) rfl
          rw [valOf_at (d := 98) rfl] at h7
          have HR7 := hide r7
          clear r7
          go_simp
          exact ⟨_, rfl, unhide HR7, (by first | exact HC | exact True.intro), Below.refl _ _⟩
        | 9 =>
          simp at hi
          subst hi
          obtain ⟨u7, h7, r7⟩ := hd ⟨7, .data⟩ (by simp) rfl
          rw [valOf_at (d := 98) rfl] at h7
          clear r7
          go_simp
          exact ⟨_, rfl, rfl, (by first | exact HC | exact True.intro), Below.refl _ _⟩
        | 10 =>
          simp at hi
          subst hi
          have r8 := hd ⟨8, .data⟩ (by simp) rfl
          rw [valOf_at (d := 106) rfl] at r8
          have HR8 := hide r8
          clear r8
          go_simp
          exact ⟨_, rfl, unhide HR8, (by first | exact HC | exact True.intro), Below.refl _ _⟩
        | i + 11 => omega
      · intro ac w14 ha hT b3
        replace b3 := unhide b3
        have t28 : ac.tmps[107]?.getD undef = .bool ds.isSome := by have := hT 9 (by omega); rwa [valOf_at (d := 107) rfl] at this
        have r27 : RowI w12.heap.size w14 (ac.tmps[17]?.getD undef) (ds.getD []) := by have := hT 10 (by omega); rwa [valOf_at (d := 17) rfl] at this
        have hl := ha.list
        simp [slotOf, List.range_succ] at hl
        rw [hl]
        clear hl ha hT
        rw [t28]
        clear t28
        generalize ac.tmps[17]?.getD undef = u27 at r27
        have hb := b3
        have HH14 := hide r27
        clear b3 r27 HTR HTI hk0 hk1
        rw [← hb.cell (p := ⟨w.heap.size, _, none⟩) (by simp; omega)] at x0 x1
        rw [← hb.cell (p := ⟨w.heap.size + 1, _, none⟩) (by simp; omega)] at s0 s1 s2
        have hz14 := hb.size
        have hb1 := (unhide HB).trans (hb.mono (unhide HB).size)
        have HO14 := hide (show RowI _ _ _ (ds.getD []) from ownsRow_on (unhide HO12) hb)
        have HGM14 := hide (show RowI _ _ _ (upsK 1 (ds.getD []).length) from ownsRow_on (unhide HGM12) hb)
        clear HB HO12 HGM12
        have HB := hide hb1
        clear hb hb1
        obtain ⟨vha, vhc, hvh, _⟩ := RowI.set (unhide HH14) (by omega)
        subst hvh
        clear x0 x1 s0 s1 s2
        go_wp2_with fail
        refine (eqIntS_same vha voa (ds.getD []) vhc voc _ (set_at (unhide HH14) (by omega)) (set_at (unhide HO14) (by omega))).mono ?_
        rintro e w15 ⟨rfl, hb⟩
        have HB15 := hide ((unhide HB).trans (hb.mono (unhide HB).size))
        have HGM15 := hide (show RowI _ _ _ (upsK 1 (ds.getD []).length) from ownsRow_on (unhide HGM14) hb)
        clear hb HB HGM14 HO14 HH14
        go_wp2_with fail
        refine (unhide HHE _ (set_at (unhide HGM15) (by rw [upsK_length]; omega))).mono ?_
        rintro e w16 ⟨rfl, hb⟩
        have HB16 := hide ((unhide HB15).trans (hb.mono (unhide HB15).size))
        clear hb HB15 HGM15
        go_wp2_with fail
        go_ret
        exact ⟨rfl, unhide HB16⟩
end Go.Proofs.YthkhaemlcmkkjaxGreat
