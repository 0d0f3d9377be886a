/- The walk of the law FnExactCnfUnits: at every argument it answers true, and writes nothing that was there. -/
import Derived.Test.YtgolmagpdbmahasCnM
import Derived.Test.YtgolmagpdbmahasGCn
import Derived.Test.YtgolmagpdbmahasGFo
import Derived.Test.YtgolmagpdbmahasGSu
import Derived.Test.YtgolmagpdbmahasGUp
import Derived.Deep.RegionWith
namespace Go.Proofs.Ytgolmagpdbmahas
set_option linter.unusedVariables false
set_option linter.unusedSimpArgs false
open Go.RowKit Go.Deep

theorem row_apart {B n sz : Nat} {w w' : World} {v u : Value} {e : TypeId} {xs : List Value} (h : w.ownsRow B e sz v n xs) (hg : w.grownBy w' u.ownBlock) (hne : ∀ j, v.ownBlock = some j → u.ownBlock = some j → False) : w'.ownsRow B e sz v n xs := by
  obtain ⟨h1, h2⟩ := h
  refine ⟨h1, h2.imp id ?_⟩
  rintro ⟨g, cap, cur, hv, hgB, hc, r⟩
  refine ⟨g, cap, cur, hv, hgB, (hg.block g (Array.getElem?_eq_some_iff.1 hc).1 (fun e => hne g (by rw [hv]; rfl) e.symm)).trans hc, r⟩
theorem row_marked {B n g S : Nat} {w w' : World} {v : Value} {xs : List Value} {e : TypeId} {sz : Nat} (h : w.ownsRow B e sz v n xs) (hm : Marked g S w w') (hne : ∀ j, v.ownBlock = some j → j ≤ g ∨ S ≤ j) : w'.ownsRow B e sz v n xs := by
  obtain ⟨h1, h2⟩ := h
  refine ⟨h1, h2.imp id ?_⟩
  rintro ⟨q, cap, cur, hv, hq, hc, r⟩
  exact ⟨q, cap, cur, hv, hq, (hm.block q (Array.getElem?_eq_some_iff.1 hc).1 (hne q (by rw [hv]; rfl))).trans hc, r⟩
theorem set_at {B : Nat} {w : World} {a : Option Addr} {n c : Nat} {l : List Int} (h : RowI B w (.slice a n c) l) (hl : l.length ≤ 1048576) : SetAt w a l := by
  obtain ⟨a', c', e, hs⟩ := RowI.set h hl
  simp at e
  obtain ⟨rfl, _⟩ := e
  exact hs
theorem copy_row {w : World} {g : Nat} {l : List Int} (h : SetAt w (some ⟨g, 0, none⟩) l) (hr : Row w g 3 l.length) {B : Nat} (hB : B ≤ g) : RowI B w (.slice (some ⟨g, 0, none⟩) l.length l.length) l := by
  obtain ⟨C, hC, hCs⟩ := hr
  refine ⟨by simp, Or.inr ⟨g, l.length, C, rfl, hB, hC, Nat.le_refl _, by have := h.1; unfold maxLen; omega, by omega, ?_⟩⟩
  apply List.ext_getElem?
  intro i
  by_cases hi : i < l.length
  · rw [List.getElem?_take, if_pos (by omega)]
    rcases h.2 with h0 | ⟨b, o, e, _, hc⟩
    · rw [h0] at hi; simp at hi
    · simp at e
      obtain ⟨rfl, rfl⟩ := e
      have := hc i hi
      simp only [World.cell?, hC, Nat.zero_add] at this
      simp [List.getD, hi] at this ⊢
      exact this
  · rw [List.getElem?_take, if_neg (by omega), List.getElem?_eq_none (by simp; omega)]

set_option maxRecDepth 10000 in
set_option maxHeartbeats 8000000 in
theorem exactunits_law (vars : Int) (a : Option Addr) (l : List (List Int)) (cap : Nat) (sa : Option Addr) (set : List Int) (sc : Nat) (w : World) (h : ClsRaw w a l) (hs1 : set.length ≤ maxLen) (hs : set = [] ∨ ∃ b o, sa = some ⟨b, o, none⟩ ∧ b < w.heap.size ∧ ∀ i, i < set.length → w.cell? ⟨b, o + i, none⟩ = some (.int .i64 (set.getD i 0))) :
    Calls Try.prog 7 #[.agg #[.int .i64 vars, .slice a l.length cap], .slice sa set.length sc] w fun e w' => e = .returned (.bool true) ∧ Below w.heap.size w w' := by
  unfold maxLen at hs1
  by_cases hbig : 1048576 < set.length
  · have hb' : (1048576 : Int) < (set.length : Int) := by omega
    go_enter Try.func7, Try.ntmps7
    go_wp2_with fail
    go_ret
    exact ⟨rfl, (Below.refl _ _).alloc (Nat.le_refl _) _⟩
  have hb' : ¬ (1048576 : Int) < (set.length : Int) := by omega
  have HS := hide (show SetAt w sa set from ⟨by omega, hs⟩)
  have HV := hide h
  clear h hs
  obtain ⟨rl, rb, hr⟩ : ∃ rl rb, unitsZ vars l set = (rl, rb) := ⟨_, _, rfl⟩
  have hrl : rl.length ≤ 400 := units_len hr
  have HR := hide hr
  clear hr
  go_enter Try.func7, Try.ntmps7
  go_wp2_with fail
  refine (szCnf_any vars a l cap 1048576 _ ((unhide HV).on ((Below.refl _ _).alloc (Nat.le_refl _) _)) (by omega) (by omega)).mono ?_
  rintro e w1 ⟨⟨r1, rfl, hr1⟩, hb⟩
  have x0 := hb.cell (p := ⟨w.heap.size, 0, none⟩) (by simp)
  have x1 := hb.cell (p := ⟨w.heap.size, 1, none⟩) (by simp)
  have hz := hb.size
  simp at x0 x1 hz
  have HB1 := hide (((Below.refl w.heap.size w).alloc (Nat.le_refl _) _).trans (hb.mono (by simp)))
  clear hb
  rcases hr1 with hr1 | ⟨hr10, hr11, hrs1⟩
  · go_wp2_with fail
    go_ret
    exact ⟨rfl, unhide HB1⟩
  have hn1 : ¬ r1 < 0 := by omega
  have HC := hide ((unhide HV).cls hrs1)
  clear HV hrs1
  go_wp2_with fail
  refine (toCnf_any vars a l cap _ ((unhide HC).on (unhide HB1))).mono ?_
  rintro e w2 ⟨g1, rfl, b2, hn⟩
  have HN2 := hide hn.cls
  clear hn
  have HB2 := hide ((unhide HB1).trans (b2.mono (unhide HB1).size))
  have hz2 := b2.size
  rw [← b2.cell (p := ⟨w.heap.size, _, none⟩) (by simp; omega)] at x0 x1
  clear HB1 b2
  go_wp2_with fail
  refine (toIntS_any sa set sc _ ((unhide HS).on (unhide HB2))).mono ?_
  rintro e w3 ⟨g1b, rfl, b3, hsn, _⟩
  have HSN3 := hide hsn
  clear hsn
  have HB3 := hide ((unhide HB2).trans (b3.mono (unhide HB2).size))
  have HN3 := hide ((unhide HN2).on b3)
  have hz3 := b3.size
  rw [← b3.cell (p := ⟨w.heap.size, _, none⟩) (by simp; omega)] at x0 x1
  clear HB2 HN2 b3
  have HCX := hide (specCnfUnits_any vars _ l l.length _ set set.length w3 (unhide HN3) (unhide HSN3))
  rw [unhide HR] at HCX
  go_wp2_with fail
  refine (unhide HCX).mono ?_
  rintro e w3a ⟨⟨v0, rfl, hO⟩, b3a⟩
  replace hO : RowI w3.heap.size w3a v0 rl := hO
  obtain ⟨oa, oc, hv0, _⟩ := RowI.set hO (by omega)
  subst hv0
  have hz3a := b3a.size
  have HOlt := hide (show ∀ j, (Value.slice oa rl.length oc).ownBlock = some j → j < w3a.heap.size from fun j hj => (World.ownsRow.lt hO j hj).2)
  have HO3a := hide (row_base hO (Nat.zero_le _))
  have HB3a := hide ((unhide HB3).trans (b3a.mono (unhide HB3).size))
  rw [← b3a.cell (p := ⟨w.heap.size, _, none⟩) (by simp; omega)] at x0 x1
  clear HB3 HN3 HSN3 HCX hO b3a
  go_wp2_with fail
  refine (toCnf_any vars a l cap _ ((unhide HC).on (unhide HB3a))).mono ?_
  rintro e w4 ⟨g2, rfl, b4, hn⟩
  have hz4 := b4.size
  have HO4 := hide (show RowI _ _ _ rl from ownsRow_on (unhide HO3a) b4)
  have HB4 := hide ((unhide HB3a).trans (b4.mono (unhide HB3a).size))
  rw [← b4.cell (p := ⟨w.heap.size, _, none⟩) (by simp; omega)] at x0 x1
  have hg2l : w3a.heap.size ≤ g2 := hn.2.1
  have hg2h : g2 < w4.heap.size := hn.2.2.1.lt
  have HGS := hide hg2h
  have HN4 := hide hn.cls
  have HM4 := hide hn.mark
  clear HB3a HO3a b4 hn
  go_upto_region 9 with fail
  obtain ⟨w5, hw5⟩ : ∃ w5, w5 = w4.alloc (.cells #[.int .i64 vars, .slice (some ⟨g2, 0, none⟩) l.length l.length] 46) := ⟨_, rfl⟩
  rw [← hw5]
  have b5 : Below w4.heap.size w4 w5 := by rw [hw5]; exact (Below.refl _ _).alloc (Nat.le_refl _) _
  have y0 : w5.cell? ⟨w4.heap.size, 0, none⟩ = some (.int .i64 vars) := by rw [hw5]; simp
  have y1 : w5.cell? ⟨w4.heap.size, 1, none⟩ = some (.slice (some ⟨g2, 0, none⟩) l.length l.length) := by rw [hw5]; simp
  have hlt5 : w4.heap.size < w5.heap.size := by rw [hw5]; simp
  clear hw5
  have HB5 := hide ((unhide HB4).trans (b5.mono (unhide HB4).size))
  have HO5 := hide (show RowI _ _ _ rl from ownsRow_on (unhide HO4) b5)
  have HN5 := hide ((unhide HN4).on b5)
  have HM5 := hide ((unhide HM4).stay (unhide HGS) b5.size (fun b _ _ hb => b5.block b hb))
  have hz5 := b5.size
  rw [← b5.cell (p := ⟨w.heap.size, _, none⟩) (by simp; omega)] at x0 x1
  clear HB4 HO4 HN4 HM4 b5
  go_wp2_with fail
  refine (toIntS_any sa set sc _ ((unhide HS).on (unhide HB5))).mono ?_
  rintro e w6 ⟨g3, rfl, b6, hsn, hg3, hrow⟩
  have HI6 := hide (copy_row hsn hrow (B := w5.heap.size) hg3)
  have hI6lt := hide (fun j hj => (World.ownsRow.lt (unhide HI6) j hj).2)
  clear hsn hrow
  have HB6 := hide ((unhide HB5).trans (b6.mono (unhide HB5).size))
  have HO6 := hide (show RowI _ _ _ rl from ownsRow_on (unhide HO5) b6)
  have HN6 := hide ((unhide HN5).on b6)
  have HM6 := hide ((unhide HM5).stay (unhide HGS) b6.size (fun b _ _ hb => b6.block b hb))
  have hz6 := b6.size
  rw [← b6.cell (p := ⟨w.heap.size, _, none⟩) (by simp; omega)] at x0 x1
  rw [← b6.cell (p := ⟨w4.heap.size, _, none⟩) (by simp; omega)] at y0 y1
  clear HB5 HO5 HN5 HM5 b6
  have HCX := hide (implCnfUnits_any vars _ l l.length _ set set.length w6 (unhide HN6) (set_at (unhide HI6) (by omega)))
  rw [unhide HR] at HCX
  go_wp2_with fail
  refine (unhide HCX).mono ?_
  rintro e w7 ⟨⟨v1, rfl, hG⟩, b7⟩
  replace hG : RowI w6.heap.size w7 v1 rl := hG
  obtain ⟨ga, gc, hv1, _⟩ := RowI.set hG (by omega)
  subst hv1
  have HG7 := hide hG
  clear HCX hG
  have HB7 := hide ((unhide HB6).trans (b7.mono (unhide HB6).size))
  have HO7 := hide (show RowI _ _ _ rl from ownsRow_on (unhide HO6) b7)
  have HN7 := hide ((unhide HN6).on b7)
  have HM7 := hide ((unhide HM6).stay (unhide HGS) b7.size (fun b _ _ hb => b7.block b hb))
  have HI7 := hide (show RowI _ _ _ set from ownsRow_on (unhide HI6) b7)
  have hz7 := b7.size
  rw [← b7.cell (p := ⟨w.heap.size, _, none⟩) (by simp; omega)] at x0 x1
  rw [← b7.cell (p := ⟨w4.heap.size, _, none⟩) (by simp; omega)] at y0 y1
  clear HB6 HO6 HN6 HM6 HI6 b7
  go_wp2_with fail
  refine (eqIntS_same ga oa rl gc oc w7 (set_at (unhide HG7) (by omega)) (set_at (unhide HO7) (by omega))).mono ?_
  rintro e w8 ⟨rfl, b8⟩
  have HB8 := hide ((unhide HB7).trans (b8.mono (unhide HB7).size))
  have HO8 := hide (show RowI _ _ _ rl from ownsRow_on (unhide HO7) b8)
  have HN8 := hide ((unhide HN7).on b8)
  have HM8 := hide ((unhide HM7).stay (unhide HGS) b8.size (fun b _ _ hb => b8.block b hb))
  have HI8 := hide (show RowI _ _ _ set from ownsRow_on (unhide HI7) b8)
  have HG8 := hide (show RowI _ _ _ rl from ownsRow_on (unhide HG7) b8)
  have hz8 := b8.size
  rw [← b8.cell (p := ⟨w.heap.size, _, none⟩) (by simp; omega)] at x0 x1
  rw [← b8.cell (p := ⟨w4.heap.size, _, none⟩) (by simp; omega)] at y0 y1
  clear HB7 HO7 HN7 HM7 HI7 HG7 b8
  cases rb
  all_goals
    have H6 := hide (fun W (hW : Below w8.heap.size w8 W) => toCnf_any vars a l cap W (((unhide HC).on (unhide HB8)).on hW))
    go_wp2_with fail
    go_region_with (first
      | (go_at_call 19; refine (unhide H6 _ ?_).mono ?_; exact (Below.refl _ _).drew; rintro e w8a ⟨g4, rfl, hb6, hn6⟩; have hb6' : Below w8.heap.size w8 w8a := (Below.refl w8.heap.size w8).drew.trans hb6; have q0 := (hb6'.cell (p := ⟨w4.heap.size, 0, none⟩) (by simp; omega)).trans y0; have q1 := (hb6'.cell (p := ⟨w4.heap.size, 1, none⟩) (by simp; omega)).trans y1; have HB6 := hide hb6'; have HN6 := hide hn6.cls; clear hb6 hb6' hn6)
      | (go_at_call 21; refine (eqCnf_same vars _ _ l _ _ _ ((unhide HN8).on (unhide HB6)) (unhide HN6)).mono ?_; rintro e w9 ⟨rfl, hb7⟩))
  all_goals
    have b9 : Below w8.heap.size w8 w9 := (unhide HB6).trans (hb7.mono (unhide HB6).size)
    clear HN6 HB6 hb7 H6 q0 q1
    have HB9 := hide ((unhide HB8).trans (b9.mono (unhide HB8).size))
    have HO9 := hide (show RowI _ _ _ rl from ownsRow_on (unhide HO8) b9)
    have HN9 := hide ((unhide HN8).on b9)
    have HM9 := hide ((unhide HM8).stay (unhide HGS) b9.size (fun b _ _ hb => b9.block b hb))
    have HI9 := hide (show RowI _ _ _ set from ownsRow_on (unhide HI8) b9)
    have HG9 := hide (show RowI _ _ _ rl from ownsRow_on (unhide HG8) b9)
    have hz9 := b9.size
    rw [← b9.cell (p := ⟨w.heap.size, _, none⟩) (by simp; omega)] at x0 x1
    rw [← b9.cell (p := ⟨w4.heap.size, _, none⟩) (by simp; omega)] at y0 y1
    clear HB8 HO8 HN8 HM8 HI8 HG8 b9
    go_wp2_with fail
    refine (toIntS_any sa set sc _ ((unhide HS).on (unhide HB9))).mono ?_
    rintro e w10 ⟨g5, rfl, b10, hsn, _⟩
    have HSN10 := hide hsn
    clear hsn
    have HB10 := hide ((unhide HB9).trans (b10.mono (unhide HB9).size))
    have HO10 := hide (show RowI _ _ _ rl from ownsRow_on (unhide HO9) b10)
    have HN10 := hide ((unhide HN9).on b10)
    have HM10 := hide ((unhide HM9).stay (unhide HGS) b10.size (fun b _ _ hb => b10.block b hb))
    have HI10 := hide (show RowI _ _ _ set from ownsRow_on (unhide HI9) b10)
    have HG10 := hide (show RowI _ _ _ rl from ownsRow_on (unhide HG9) b10)
    have hz10 := b10.size
    rw [← b10.cell (p := ⟨w.heap.size, _, none⟩) (by simp; omega)] at x0 x1
    rw [← b10.cell (p := ⟨w4.heap.size, _, none⟩) (by simp; omega)] at y0 y1
    clear HB9 HO9 HN9 HM9 HI9 HG9 b10
    go_wp2_with fail
    refine (eqIntS_same _ _ set _ _ w10 (set_at (unhide HI10) (by omega)) (unhide HSN10)).mono ?_
    rintro e w11 ⟨rfl, b11⟩
    clear HSN10
    have HB11 := hide ((unhide HB10).trans (b11.mono (unhide HB10).size))
    have HO11 := hide (show RowI _ _ _ rl from ownsRow_on (unhide HO10) b11)
    have HN11 := hide ((unhide HN10).on b11)
    have HM11 := hide ((unhide HM10).stay (unhide HGS) b11.size (fun b _ _ hb => b11.block b hb))
    have HI11 := hide (show RowI _ _ _ set from ownsRow_on (unhide HI10) b11)
    have HG11 := hide (show RowI _ _ _ rl from ownsRow_on (unhide HG10) b11)
    have hz11 := b11.size
    rw [← b11.cell (p := ⟨w.heap.size, _, none⟩) (by simp; omega)] at x0 x1
    rw [← b11.cell (p := ⟨w4.heap.size, _, none⟩) (by simp; omega)] at y0 y1
    clear HB10 HO10 HN10 HM10 HI10 HG10 b11
    have HMC := hide (markCnf_any vars w4.heap.size g2 l w11 (unhide HM11) (unhide HGS))
    have hlc : l.length ≤ 1048576 := (unhide HM11).1
    go_wp2_with fail
    refine (unhide HMC).mono ?_
    rintro e w12 ⟨⟨z, rfl, hz0, hz1⟩, hm12⟩
    have hgs := unhide HGS
    have hm12B : Below w3a.heap.size w11 w12 := ⟨hm12.os, hm12.tape, hm12.output, hm12.size, fun b hb => hm12.block b (by omega) (Or.inl (by omega))⟩
    have HB12 := hide ((unhide HB11).trans (hm12B.mono (by omega)))
    have HO12 := hide (row_marked (unhide HO11) hm12 (fun j hj => Or.inl (by have := unhide HOlt j hj; omega)))
    have HI12 := hide (row_marked (unhide HI11) hm12 (fun j hj => Or.inr (by have := (World.ownsRow.lt (unhide HI11) j hj).1; omega)))
    have HG12 := hide (row_marked (unhide HG11) hm12 (fun j hj => Or.inr (by have := (World.ownsRow.lt (unhide HG11) j hj).1; omega)))
    have hz12 := hm12.size
    rw [← World.cell?_of_block (w := w11) (w' := w12) (a := ⟨w.heap.size, _, none⟩) (hm12.block _ (by simp; omega) (Or.inl (by simp; omega)))] at x0 x1
    clear y0 y1 HB11 HO11 HN11 HM11 HI11 HG11 hm12 hm12B HMC hgs
    have HMK := hide (markIntS_k z _ _ set w12 (unhide HI12) (by omega) (by omega) (by omega))
    have hzn : ¬ (z + (set.length : Int) < 0) := by omega
    go_wp2_with fail
    refine (unhide HMK).mono ?_
    rintro e w13 ⟨rfl, hg13, _⟩
    have hbG : Below w3a.heap.size w12 w13 := ⟨hg13.os, hg13.tape, hg13.output, hg13.size, fun k hk => hg13.block k (by omega) (fun e => by have := (World.ownsRow.lt (unhide HI12) k e.symm).1; omega)⟩
    have HB13 := hide ((unhide HB12).trans (hbG.mono (by omega)))
    rw [← hbG.cell (p := ⟨w.heap.size, _, none⟩) (by simp; omega)] at x0 x1
    have HO13 := hide (row_apart (unhide HO12) hg13 (fun j hj e => by
      have h1 := unhide HOlt j hj
      have h2 := (World.ownsRow.lt (unhide HI12) j e).1
      omega))
    have HG13 := hide (row_apart (unhide HG12) hg13 (fun j hj e => by
      have h1 := (World.ownsRow.lt (unhide HG12) j hj).1
      have h2 := unhide hI6lt j e
      omega))
    have hz13 := hg13.size
    clear HB12 HO12 HG12 HI12 HMK hg13 hbG
    generalize z + (set.length : Int) = z2 at hzn ⊢
    go_wp2_with fail
    refine (eqIntS_same ga oa rl gc oc w13 (set_at (unhide HG13) (by omega)) (set_at (unhide HO13) (by omega))).mono ?_
    rintro e w14 ⟨rfl, b14⟩
    have HB14 := hide ((unhide HB13).trans (b14.mono (unhide HB13).size))
    have HO14 := hide (show RowI _ _ _ rl from ownsRow_on (unhide HO13) b14)
    have HG14 := hide (show RowI _ _ _ rl from ownsRow_on (unhide HG13) b14)
    have hz14 := b14.size
    rw [← b14.cell (p := ⟨w.heap.size, _, none⟩) (by simp; omega)] at x0 x1
    clear HB13 HO13 HG13 b14
    have HMG := hide (markIntS_k 1 _ _ rl w14 (unhide HG14) (by omega) (by omega) (by omega))
    go_wp2_with fail
    refine (unhide HMG).mono ?_
    rintro e w15 ⟨rfl, hg15, hK⟩
    have hbG : Below w3a.heap.size w14 w15 := ⟨hg15.os, hg15.tape, hg15.output, hg15.size, fun k hk => hg15.block k (by omega) (fun e => by have := (World.ownsRow.lt (unhide HG14) k e.symm).1; omega)⟩
    have HB15 := hide ((unhide HB14).trans (hbG.mono (by omega)))
    rw [← hbG.cell (p := ⟨w.heap.size, _, none⟩) (by simp; omega)] at x0 x1
    have HO15 := hide (row_apart (unhide HO14) hg15 (fun j hj e => by
      have h1 := unhide HOlt j hj
      have h2 := (World.ownsRow.lt (unhide HG14) j e).1
      omega))
    have HK15 := hide hK
    have hz15 := hg15.size
    clear HB14 HO14 HG14 HMG hg15 hbG hK
    have hpos : ¬ (1 + (rl.length : Int) < 0) := by omega
    have HHE := hide (fun W (hW : SetAt W ga (upsK 1 rl.length)) => heldIntS_k 1 ga rl.length gc W hW (by omega) (by omega))
    generalize 1 + (rl.length : Int) = ek at hpos HHE ⊢
    go_wp2_with fail
    refine (unhide HHE _ (set_at (unhide HK15) (by rw [upsK_length]; omega))).mono ?_
    rintro e w16 ⟨rfl, b16⟩
    have HB16 := hide ((unhide HB15).trans (b16.mono (unhide HB15).size))
    have HO16 := hide (show RowI _ _ _ rl from ownsRow_on (unhide HO15) b16)
    have HK16 := hide (show RowI _ _ _ (upsK 1 rl.length) from ownsRow_on (unhide HK15) b16)
    have hz16 := b16.size
    rw [← b16.cell (p := ⟨w.heap.size, _, none⟩) (by simp; omega)] at x0 x1
    clear HB15 HO15 HK15 b16
    go_wp2_with fail
    refine (toCnf_any vars a l cap _ ((unhide HC).on (unhide HB16))).mono ?_
    rintro e w17 ⟨g7, rfl, b17, hn⟩
    have HN17 := hide hn.cls
    clear hn
    have HB17 := hide ((unhide HB16).trans (b17.mono (unhide HB16).size))
    have HO17 := hide (show RowI _ _ _ rl from ownsRow_on (unhide HO16) b17)
    have HK17 := hide (show RowI _ _ _ (upsK 1 rl.length) from ownsRow_on (unhide HK16) b17)
    have hz17 := b17.size
    rw [← b17.cell (p := ⟨w.heap.size, _, none⟩) (by simp; omega)] at x0 x1
    clear HB16 HO16 HK16 b17
    go_wp2_with fail
    refine (toIntS_any sa set sc _ ((unhide HS).on (unhide HB17))).mono ?_
    rintro e w18 ⟨g8, rfl, b18, hsn, _⟩
    have HSN18 := hide hsn
    clear hsn
    have HB18 := hide ((unhide HB17).trans (b18.mono (unhide HB17).size))
    have HO18 := hide (show RowI _ _ _ rl from ownsRow_on (unhide HO17) b18)
    have HK18 := hide (show RowI _ _ _ (upsK 1 rl.length) from ownsRow_on (unhide HK17) b18)
    have HN18 := hide ((unhide HN17).on b18)
    have hz18 := b18.size
    rw [← b18.cell (p := ⟨w.heap.size, _, none⟩) (by simp; omega)] at x0 x1
    clear HB17 HO17 HK17 HN17 b18
    have HCX := hide (implCnfUnits_any vars _ l l.length _ set set.length w18 (unhide HN18) (unhide HSN18))
    rw [unhide HR] at HCX
    go_wp2_with fail
    refine (unhide HCX).mono ?_
    rintro e w19 ⟨⟨v2, rfl, hG⟩, b19⟩
    replace hG : RowI w18.heap.size w19 v2 rl := hG
    obtain ⟨ha2, hc2, hv2, hset2⟩ := RowI.set hG (by omega)
    subst hv2
    have HH19 := hide hset2
    clear HCX hG hset2 HSN18 HN18
    have HB19 := hide ((unhide HB18).trans (b19.mono (unhide HB18).size))
    have HO19 := hide (show RowI _ _ _ rl from ownsRow_on (unhide HO18) b19)
    have HK19 := hide (show RowI _ _ _ (upsK 1 rl.length) from ownsRow_on (unhide HK18) b19)
    have hz19 := b19.size
    rw [← b19.cell (p := ⟨w.heap.size, _, none⟩) (by simp; omega)] at x0 x1
    clear HB18 HO18 HK18 b19
    go_wp2_with fail
    refine (eqIntS_same ha2 oa rl hc2 oc w19 (unhide HH19) (set_at (unhide HO19) (by omega))).mono ?_
    rintro e w20 ⟨rfl, b20⟩
    clear HH19
    have HB20 := hide ((unhide HB19).trans (b20.mono (unhide HB19).size))
    have HO20 := hide (show RowI _ _ _ rl from ownsRow_on (unhide HO19) b20)
    have HK20 := hide (show RowI _ _ _ (upsK 1 rl.length) from ownsRow_on (unhide HK19) b20)
    have hz20 := b20.size
    rw [← b20.cell (p := ⟨w.heap.size, _, none⟩) (by simp; omega)] at x0 x1
    clear HB19 HO19 HK19 b20
    go_wp2_with fail
    refine (unhide HHE _ (set_at (unhide HK20) (by rw [upsK_length]; omega))).mono ?_
    rintro e w21 ⟨rfl, b21⟩
    have HB21 := hide ((unhide HB20).trans (b21.mono (unhide HB20).size))
    have HO21 := hide (show RowI _ _ _ rl from ownsRow_on (unhide HO20) b21)
    have HK21 := hide (show RowI _ _ _ (upsK 1 rl.length) from ownsRow_on (unhide HK20) b21)
    have hz21 := b21.size
    rw [← b21.cell (p := ⟨w.heap.size, _, none⟩) (by simp; omega)] at x0 x1
    clear HB20 HO20 HK20 b21
    go_wp2_with fail
    go_ret
    exact ⟨rfl, unhide HB21⟩
end Go.Proofs.Ytgolmagpdbmahas
