/- The walk of the law FnExactWhyNot. -/
import Derived.Test.YtmjmcbmfleeolayWhyC
import Derived.Test.YtmjmcbmfleeolayWhyQ
import Derived.Test.YtmjmcbmfleeolayWhyN
import Derived.Test.YtmjmcbmfleeolayToD
import Derived.Test.YtmjmcbmfleeolaySz
import Derived.Test.YtmjmcbmfleeolayEq
import Derived.Test.YtmjmcbmfleeolayToI
import Derived.Test.YtmjmcbmfleeolayRowsL
import Derived.Test.YtmjmcbmfleeolayMarkB
import Derived.Test.YtmjmcbmfleeolayWhysN
import Derived.Test.YtmjmcbmfleeolayWhysH
import Derived.Deep.RegionWith
import Derived.Deep.CutRange
namespace Go.Proofs.Ytmjmcbmfleeolay
set_option linter.unusedVariables false
set_option linter.unusedSimpArgs false
open Go.RowKit Go.Deep

theorem PacksAt.old {w w' : World} {a : Option Addr} {l : List PackD} (h : PacksAt (New w w') w' a l) : PacksAt (Old w') w' a l := h.wider fun _ _ hb => hb.2.lt
theorem PacksAt.newOn {v w w' : World} {a : Option Addr} {l : List PackD} (h : PacksAt (New v w) w a l) (hb : Below w.heap.size w w') : PacksAt (New v w') w' a l :=
  (h.stay fun _ b hs => hb.block b hs.2.lt).wider fun _ b hs => ⟨hs.1, hs.2.of_block (hb.block b hs.2.lt)⟩
section
variable {B B' : Nat} {w w' : World} {v : Value} {ss : List StepD}
theorem WS_on (h : WS B w v ss) (hb : Below w.heap.size w w') : WS B w' v ss := ownsRow_on h hb
theorem WS_wrote (h : WS B w v ss) (hw : Wrote B' isAny w w') : WS B w' v ss := by
  obtain ⟨h1, h2⟩ := h
  refine ⟨h1, h2.imp id ?_⟩
  rintro ⟨g, cap, cur, hv, hg, hc, r⟩
  exact ⟨g, cap, cur, hv, hg, (hw.other ⟨cur, hc⟩ (by decide)).trans hc, r⟩
theorem WS_lt (h : WS B w v ss) : ∀ j, v.ownBlock = some j → j < w.heap.size := fun j hj => (World.ownsRow.lt h j hj).2
theorem WS_far (h : WS B w v ss) (hb : Below B' w w') (hlt : ∀ j, v.ownBlock = some j → j < B') : WS B w' v ss := by
  obtain ⟨h1, h2⟩ := h
  refine ⟨h1, h2.imp id ?_⟩
  rintro ⟨g, cap, cur, hv, hg, hc, r⟩
  exact ⟨g, cap, cur, hv, hg, (hb.block g (hlt g (by rw [hv]; rfl))).trans hc, r⟩
theorem eqWhyS_sr {v' : Value} (h : WS B w v ss) (h' : WS B' w v' ss) (hl : ss.length ≤ 1000) :
    Calls Try.prog 11 #[v, v'] w fun e w' => e = .returned (.bool true) ∧ Below w.heap.size w w' := by
  obtain ⟨a, c, rfl, ha⟩ := WS.at h (by omega)
  obtain ⟨a', c', rfl, ha'⟩ := WS.at h' (by omega)
  exact eqWhyS_any a ss c a' c' w ha ha'
theorem heldWhyS_sr {k0 : Int} {n : Nat} (h : WS B w v (upsS k0 n)) (hn : n ≤ 1000) (hk0 : 0 ≤ k0) (hk1 : k0 ≤ 1000000000) :
    Calls Try.prog 17 #[v, .int .i64 k0] w fun e w' => e = .returned (.int .i64 (k0 + 3 * n)) ∧ Below w.heap.size w w' := by
  obtain ⟨a, c, rfl, ha⟩ := WS.at h (by rw [upsS_len]; omega)
  rw [upsS_len]
  exact heldWhyS_k k0 a n c w ha hk0 hk1
theorem markWhyS_sr {k0 : Int} (h : WS B w v ss) (hB : B ≤ w.heap.size) (hn : ss.length ≤ 1000) (hk0 : 0 ≤ k0) (hk1 : k0 ≤ 1000000000) :
    Calls Try.prog 16 #[v, .int .i64 k0] w fun e w' => e = .returned (.int .i64 (k0 + 3 * ss.length)) ∧ Below B w w' ∧ WS B w' v (upsS k0 ss.length) := by
  refine (markWhyS_k k0 B v ss w h (by omega) hk0 (by omega)).mono ?_
  rintro e w' ⟨rfl, hg, hS⟩
  exact ⟨rfl, ⟨hg.os, hg.tape, hg.output, hg.size, fun k hk => hg.block k (by omega) (fun e => by have := (World.ownsRow.lt h k e.symm).1; omega)⟩, hS⟩
end

/-- A copy of numbers, in memory of its own. -/
theorem SetAt.row {w : World} {g B : Nat} {l : List Int} (h : SetAt w (some ⟨g, 0, none⟩) l) (hg : B ≤ g) (hr : Row w g 3 l.length) : RowI B w (.slice (some ⟨g, 0, none⟩) l.length l.length) l := by
  obtain ⟨hl, h⟩ := h
  obtain ⟨C, hC, hs⟩ := hr
  refine ⟨by simp, Or.inr ⟨g, l.length, C, rfl, hg, hC, Nat.le_refl _, by unfold maxLen; omega, by omega, ?_⟩⟩
  apply List.ext_getElem?
  intro i
  rw [List.getElem?_take, List.getElem?_map]
  by_cases hi : i < l.length
  · rw [if_pos (by omega)]
    rcases h with h | ⟨b, o, e, _, hc⟩
    · rw [h] at hi; simp at hi
    · simp at e
      obtain ⟨rfl, rfl⟩ := e
      have := hc i hi
      simp only [World.cell?, hC, Nat.zero_add] at this
      have e2 : l[i]? = some (l.getD i 0) := by simp [List.getD, hi]
      rw [e2]
      simpa using this
  · rw [if_neg (by omega), List.getElem?_eq_none (by omega)]
    rfl
theorem RowI_wrote {B B' : Nat} {w w' : World} {v : Value} {l : List Int} (h : RowI B w v l) (hw : Wrote B' isAny w w') : RowI B w' v l := by
  obtain ⟨h1, h2⟩ := h
  refine ⟨h1, h2.imp id ?_⟩
  rintro ⟨g, cap, cur, hv, hg, hc, r⟩
  exact ⟨g, cap, cur, hv, hg, (hw.other ⟨cur, hc⟩ (by decide)).trans hc, r⟩
theorem WS_grown {B : Nat} {w w' : World} {v u : Value} {ss : List StepD} {B2 n : Nat} {xs : List Value} (h : WS B w v ss) (hu : w.ownsRow B2 3 1 u n xs) (hg : w.grownBy w' u.ownBlock) : WS B w' v ss := by
  obtain ⟨h1, h2⟩ := h
  refine ⟨h1, h2.imp id ?_⟩
  rintro ⟨g, cap, cur, hv, hgB, hc, r⟩
  refine ⟨g, cap, cur, hv, hgB, (hg.block g (Array.getElem?_eq_some_iff.1 hc).1 (fun e => ?_)).trans hc, r⟩
  obtain ⟨c2, f2, e2⟩ := row_kind hu g e.symm
  rw [hc] at e2
  simp at e2
theorem set_at {B : Nat} {w : World} {a : Option Addr} {n c : Nat} {l : List Int} (h : RowI B w (.slice a n c) l) (hl : l.length ≤ 1048576) : SetAt w a l := by
  obtain ⟨a', c', e, hs⟩ := RowI.set h hl
  simp at e
  obtain ⟨rfl, _⟩ := e
  exact hs
set_option maxRecDepth 10000 in
set_option maxHeartbeats 8000000 in
theorem law_any (a : Option Addr) (l : List PackD) (cap : Nat) (room : Int) (sa : Option Addr) (set : List Int) (sc : Nat) (w : World) (h : PacksAt (Old w) w a l) (hs1 : set.length ≤ maxLen) (hs : set = [] ∨ ∃ b o, sa = some ⟨b, o, none⟩ ∧ b < w.heap.size ∧ ∀ i, i < set.length → w.cell? ⟨b, o + i, none⟩ = some (.int .i64 (set.getD i 0))) :
    Calls Try.prog 3 #[.agg #[.slice a l.length cap, .int .i64 room], .slice sa set.length sc] w fun e w' => e = .returned (.bool true) ∧ Below w.heap.size w w' := by
  unfold maxLen at hs1
  by_cases hbig : 1048576 < set.length
  · have hb' : (1048576 : Int) < (set.length : Int) := by omega
    go_enter Try.func3, Try.ntmps3
    go_wp2_with fail
    go_ret
    exact ⟨rfl, (Below.refl _ _).alloc (Nat.le_refl _) _⟩
  have hb' : ¬ (1048576 : Int) < (set.length : Int) := by omega
  have HS := hide (show SetAt w sa set from ⟨by omega, hs⟩)
  have HV := hide h
  have hFn : (whyZ l room set).length ≤ 1000 := by
    have := whyZ_len l room set
    omega
  clear h hs
  go_enter Try.func3, Try.ntmps3
  go_wp2_with fail
  refine (szRepo_any a l cap room 1048576 _ ((unhide HV).on ((Below.refl _ _).alloc (Nat.le_refl _) _)) (by omega) (by omega)).mono ?_
  rintro e w1 ⟨⟨r1, rfl, hr1⟩, hb⟩
  have x0 := hb.cell (p := ⟨w.heap.size, 0, none⟩) (by simp)
  have x1 := hb.cell (p := ⟨w.heap.size, 1, none⟩) (by simp)
  have hz := hb.size
  simp at x0 x1 hz
  have HB := hide (((Below.refl w.heap.size w).alloc (Nat.le_refl _) _).trans (hb.mono (by simp)))
  clear hb
  rcases hr1 with hr1 | ⟨hr10, hr11, hrs1⟩
  · go_wp2_with fail
    go_ret
    exact ⟨rfl, unhide HB⟩
  have hn1 : ¬ r1 < 0 := by omega
  go_wp2_with fail
  refine (toRepo_caps a l cap room _ ((unhide HV).on (unhide HB)) hrs1).mono ?_
  rintro e w2 ⟨g1, rfl, hb, hn, hcp⟩
  rw [← hb.cell (p := ⟨w.heap.size, _, none⟩) (by simp; omega)] at x0 x1
  have hz2 := hb.size
  have hb1 := (unhide HB).trans (hb.mono (unhide HB).size)
  have HN := hide hn.old
  have HCP := hide hcp
  clear HB hn hcp
  have HB := hide hb1
  clear hb hb1
  go_wp2_with fail
  refine (toIntS_any sa set sc _ ((unhide HS).on (unhide HB))).mono ?_
  rintro e w2b ⟨g1b, rfl, hb, hsn, _, _⟩
  rw [← hb.cell (p := ⟨w.heap.size, _, none⟩) (by simp; omega)] at x0 x1
  have hz2b := hb.size
  have hb1 := (unhide HB).trans (hb.mono (unhide HB).size)
  have HN2 := hide ((unhide HN).on hb)
  have HCP2 := hide ((unhide HCP).on hb)
  have HSN := hide hsn
  clear HB HN HCP hsn
  have HB := hide hb1
  clear hb hb1
  go_wp2_with fail
  refine (specWhyNot_any _ l _ room _ set _ _ (unhide HN2) (unhide HSN) (Nat.le_refl _)).mono ?_
  rintro e w3 ⟨⟨v0, rfl, hl0⟩, hb⟩
  rw [← hb.cell (p := ⟨w.heap.size, _, none⟩) (by simp; omega)] at x0 x1
  have hz3 := hb.size
  have hb1 := (unhide HB).trans (hb.mono (unhide HB).size)
  have HO := hide (show WS w2b.heap.size w3 v0 (whyZ l room set) by rw [why_same]; exact hl0)
  clear HB HN2 HCP2 HSN hl0
  have HB := hide hb1
  clear hb hb1
  have HOlt := hide (WS_lt (unhide HO))
  go_wp2_with fail
  refine (toRepo_any a l cap room _ ((unhide HV).on (unhide HB)) hrs1).mono ?_
  rintro e w4 ⟨g2, rfl, hb, hn⟩
  rw [← hb.cell (p := ⟨w.heap.size, _, none⟩) (by simp; omega)] at x0 x1
  have hz4 := hb.size
  have hb1 := (unhide HB).trans (hb.mono (unhide HB).size)
  have HX := hide hn
  have HO4 := hide (WS_on (unhide HO) hb)
  clear HB hn HO
  have HB := hide hb1
  clear hb hb1
  go_wp2_with fail
  obtain ⟨w5, hw5⟩ : ∃ w5, w5 = w4.alloc (.cells #[.slice (some ⟨g2, 0, none⟩) l.length l.length, .int .i64 room] 31) := ⟨_, rfl⟩
  rw [← hw5]
  have hb : Below w4.heap.size w4 w5 := by rw [hw5]; exact (Below.refl _ _).alloc (Nat.le_refl _) _
  have y0 : w5.cell? ⟨w4.heap.size, 0, none⟩ = some (.slice (some ⟨g2, 0, none⟩) l.length l.length) := by rw [hw5]; simp
  have y1 : w5.cell? ⟨w4.heap.size, 1, none⟩ = some (.int .i64 room) := by rw [hw5]; simp
  have hz5 : w4.heap.size < w5.heap.size := by rw [hw5]; simp
  rw [← hb.cell (p := ⟨w.heap.size, _, none⟩) (by simp; omega)] at x0 x1
  have hb1 := (unhide HB).trans (hb.mono (unhide HB).size)
  have HX5 := hide ((unhide HX).newOn hb)
  have HO5 := hide (WS_on (unhide HO4) hb)
  clear HB hw5 HX HO4
  have HB := hide hb1
  clear hb hb1
  refine (toIntS_any sa set sc _ ((unhide HS).on (unhide HB))).mono ?_
  rintro e w5b ⟨gx, rfl, hb, hsx, hgx, hrx⟩
  rw [← hb.cell (p := ⟨w.heap.size, _, none⟩) (by simp; omega)] at x0 x1
  rw [← hb.cell (p := ⟨w4.heap.size, _, none⟩) hz5] at y0 y1
  have hz5b := hb.size
  have hb1 := (unhide HB).trans (hb.mono (unhide HB).size)
  have HX5b := hide ((unhide HX5).newOn hb)
  have HO5b := hide (WS_on (unhide HO5) hb)
  have HI5b := hide (SetAt.row hsx hgx hrx)
  have HSX := hide hsx
  clear HB HX5 HO5 hsx hgx hrx
  have HB := hide hb1
  clear hb hb1
  go_wp2_with fail
  refine (implWhyNot_any _ l _ room _ set _ _ (unhide HX5b).old (unhide HSX)).mono ?_
  rintro e w6 ⟨⟨v1, rfl, hl1⟩, hb⟩
  rw [← hb.cell (p := ⟨w.heap.size, _, none⟩) (by simp; omega)] at x0 x1
  rw [← hb.cell (p := ⟨w4.heap.size, _, none⟩) (by simp; omega)] at y0 y1
  have hz6 := hb.size
  have hb1 := (unhide HB).trans (hb.mono (unhide HB).size)
  have HX6 := hide ((unhide HX5b).newOn hb)
  have HO6 := hide (WS_on (unhide HO5b) hb)
  have HI6 := hide (show RowI w5.heap.size w6 _ set from ownsRow_on (unhide HI5b) hb)
  have HG6 := hide (show WS w5b.heap.size w6 v1 (whyZ l room set) from hl1)
  clear HB HX5b HO5b HI5b HSX hl1
  have HB := hide hb1
  clear hb hb1
  go_wp2_with fail
  refine (eqWhyS_sr (unhide HG6) (unhide HO6) (by omega)).mono ?_
  rintro e w7 ⟨rfl, hb⟩
  rw [← hb.cell (p := ⟨w.heap.size, _, none⟩) (by simp; omega)] at x0 x1
  rw [← hb.cell (p := ⟨w4.heap.size, _, none⟩) (by simp; omega)] at y0 y1
  have hz7 := hb.size
  have hb1 := (unhide HB).trans (hb.mono (unhide HB).size)
  have HX7 := hide ((unhide HX6).newOn hb)
  have HO7 := hide (WS_on (unhide HO6) hb)
  have HG7 := hide (WS_on (unhide HG6) hb)
  have HI7 := hide (show RowI w5.heap.size w7 _ set from ownsRow_on (unhide HI6) hb)
  clear HB HX6 HO6 HG6 HI6
  have HB := hide hb1
  clear hb hb1
  have HT := hide (fun W (hW : Below w7.heap.size w7 W) => toRepo_any a l cap room W (((unhide HV).on (unhide HB)).on hW) hrs1)
  go_wp2_with fail
  go_cut [42] from 38 to 42 (fun s wx => s = .bool false ∧ Below w7.heap.size w7 wx)
  case first =>
    go_region_with (first
      | (go_at_call 8; refine (unhide HT _ ?_).mono ?_; exact (Below.refl _ _).drew; rintro e wA ⟨gA, rfl, hbA, hnA⟩; have hA : Below w7.heap.size w7 wA := (Below.refl w7.heap.size w7).drew.trans hbA; have a0 := (hA.cell (p := ⟨w4.heap.size, 0, none⟩) (by simp; omega)).trans y0; have a1 := (hA.cell (p := ⟨w4.heap.size, 1, none⟩) (by simp; omega)).trans y1; have HA := hide hA; have HNA := hide hnA.old; clear hbA hA hnA)
      | (go_at_call 12; refine (eqRepo_any _ _ l _ _ room _ ((unhide HX7).old.on (unhide HA)) (unhide HNA)).mono ?_; rintro e wC ⟨rfl, hbC⟩))
    all_goals (go_wp2_with fail; go_meet; exact ⟨rfl, (unhide HA).trans (hbC.mono (unhide HA).size)⟩)
  case rest =>
  obtain ⟨rfl, hb⟩ := hcut
  rename World => w8
  rw [← hb.cell (p := ⟨w.heap.size, _, none⟩) (by simp; omega)] at x0 x1
  rw [← hb.cell (p := ⟨w4.heap.size, _, none⟩) (by simp; omega)] at y0 y1
  have hz8 := hb.size
  have hb1 := (unhide HB).trans (hb.mono (unhide HB).size)
  have HX8 := hide ((unhide HX7).newOn hb)
  have HO8 := hide (WS_on (unhide HO7) hb)
  have HG8 := hide (WS_on (unhide HG7) hb)
  have HI8 := hide (show RowI w5.heap.size w8 _ set from ownsRow_on (unhide HI7) hb)
  clear HB HX7 HO7 HG7 HI7 HT
  have HB := hide hb1
  clear hb hb1
  go_wp2_with fail
  refine (toIntS_any sa set sc _ ((unhide HS).on (unhide HB))).mono ?_
  rintro e w8b ⟨gy, rfl, hb, hsy, _, _⟩
  rw [← hb.cell (p := ⟨w.heap.size, _, none⟩) (by simp; omega)] at x0 x1
  rw [← hb.cell (p := ⟨w4.heap.size, _, none⟩) (by simp; omega)] at y0 y1
  have hz8b := hb.size
  have hb1 := (unhide HB).trans (hb.mono (unhide HB).size)
  have HX8b := hide ((unhide HX8).newOn hb)
  have HO8b := hide (WS_on (unhide HO8) hb)
  have HG8b := hide (WS_on (unhide HG8) hb)
  have HI8b := hide (show RowI w5.heap.size w8b _ set from ownsRow_on (unhide HI8) hb)
  have HSY := hide hsy
  clear HB HX8 HO8 HG8 HI8 hsy
  have HB := hide hb1
  clear hb hb1
  have HSZ := hide (set_at (unhide HI8b) (by omega))
  go_wp2_with fail
  refine (eqIntS_same _ _ set _ _ _ (unhide HSZ) (unhide HSY)).mono ?_
  rintro e w8c ⟨rfl, hb⟩
  rw [← hb.cell (p := ⟨w.heap.size, _, none⟩) (by simp; omega)] at x0 x1
  rw [← hb.cell (p := ⟨w4.heap.size, _, none⟩) (by simp; omega)] at y0 y1
  have hz8c := hb.size
  have hb1 := (unhide HB).trans (hb.mono (unhide HB).size)
  have HX8c := hide ((unhide HX8b).newOn hb)
  have HO8c := hide (WS_on (unhide HO8b) hb)
  have HG8c := hide (WS_on (unhide HG8b) hb)
  have HI8c := hide (show RowI w5.heap.size w8c _ set from ownsRow_on (unhide HI8b) hb)
  clear HB HX8b HO8b HG8b HI8b HSY HSZ
  have HB := hide hb1
  clear hb hb1
  have HX0 := hide (And.intro x0 x1)
  clear x0 x1
  go_wp2_with fail
  refine (markRepo_any w3 _ g2 l _ room (unhide HX8c) hrs1).mono ?_
  rintro e w9 ⟨⟨r9, rfl, hr90, hr91⟩, hw9⟩
  have hb9 := hw9.below (by omega)
  have HB9 := hide ((unhide HB).trans (hb9.mono (by have := (unhide HB).size; omega)))
  obtain ⟨x0, x1⟩ := unhide HX0
  rw [← hb9.cell (p := ⟨w.heap.size, _, none⟩) (by simp; omega)] at x0 x1
  have HO9 := hide (WS_wrote (unhide HO8c) hw9)
  have HG9 := hide (WS_wrote (unhide HG8c) hw9)
  have hI9 := RowI_wrote (unhide HI8c) hw9
  have hz9 := hw9.size
  clear hw9 HB HX8c HO8c HG8c HI8c y0 y1 hb9 HX0
  have HMK := hide (markIntS_k r9 _ _ set _ hI9 (by omega) (by omega) (by omega))
  have HI9 := hide hI9
  clear hI9
  have hn9 : ¬ (r9 + (set.length : Int) < 0) := by omega
  go_wp2_with fail
  refine (unhide HMK).mono ?_
  rintro e w9b ⟨rfl, hg9, _⟩
  have hbG : Below w5.heap.size w9 w9b := ⟨hg9.os, hg9.tape, hg9.output, hg9.size, fun k hk => hg9.block k (by omega) (fun e => by have := (World.ownsRow.lt (unhide HI9) k e.symm).1; omega)⟩
  have HB9b := hide ((unhide HB9).trans (hbG.mono (by have := (unhide HB9).size; omega)))
  rw [← hbG.cell (p := ⟨w.heap.size, _, none⟩) (by simp; omega)] at x0 x1
  have HO9b := hide (WS_grown (unhide HO9) (unhide HI9) hg9)
  have HG9b := hide (WS_grown (unhide HG9) (unhide HI9) hg9)
  have hz9b := hg9.size
  clear HB9 HO9 HG9 HI9 HMK hg9 hbG
  go_wp2_with fail
  refine (eqWhyS_sr (unhide HG9b) (unhide HO9b) (by omega)).mono ?_
  rintro e w10 ⟨rfl, hb⟩
  rw [← hb.cell (p := ⟨w.heap.size, _, none⟩) (by simp; omega)] at x0 x1
  have hz10 := hb.size
  have hb1 := (unhide HB9b).trans (hb.mono (unhide HB9b).size)
  have HO10 := hide (WS_on (unhide HO9b) hb)
  have HG10 := hide (WS_on (unhide HG9b) hb)
  clear HB9b HO9b HG9b
  have HB := hide hb1
  clear hb hb1
  go_wp2_with fail
  refine (markWhyS_sr (k0 := 1) (unhide HG10) (by omega) (by omega) (by omega) (by omega)).mono ?_
  rintro e w11 ⟨rfl, hb, hG⟩
  rw [← hb.cell (p := ⟨w.heap.size, _, none⟩) (by simp; omega)] at x0 x1
  have hz11 := hb.size
  have HB11 := hide ((unhide HB).trans (hb.mono (by have := (unhide HB).size; omega)))
  have HO11 := hide (WS_far (unhide HO10) hb (fun j hj => by have := (unhide HOlt) j hj; omega))
  have HG11 := hide hG
  clear hb hG HB HO10 HG10
  have hpos : ¬ (1 + 3 * ((whyZ l room set).length : Int) < 0) := by omega
  have HHE := hide (fun W (hW : WS w5b.heap.size W v1 (upsS 1 (whyZ l room set).length)) => heldWhyS_sr hW (by omega) (by omega) (by omega))
  generalize 1 + 3 * ((whyZ l room set).length : Int) = ek at hpos HHE ⊢
  go_wp2_with fail
  refine (unhide HHE _ (unhide HG11)).mono ?_
  rintro e w12 ⟨rfl, hb⟩
  rw [← hb.cell (p := ⟨w.heap.size, _, none⟩) (by simp; omega)] at x0 x1
  have hz12 := hb.size
  have HB12 := hide ((unhide HB11).trans (hb.mono (unhide HB11).size))
  have HO12 := hide (WS_on (unhide HO11) hb)
  have HG12 := hide (WS_on (unhide HG11) hb)
  clear hb HB11 HO11 HG11
  go_wp2_with fail
  refine (toRepo_any a l cap room _ ((unhide HV).on (unhide HB12)) hrs1).mono ?_
  rintro e w13 ⟨g3, rfl, hb, hn⟩
  have hz13 := hb.size
  have HB13 := hide ((unhide HB12).trans (hb.mono (unhide HB12).size))
  have HO13 := hide (WS_on (unhide HO12) hb)
  have HG13 := hide (WS_on (unhide HG12) hb)
  have HN13 := hide hn.old
  clear hb hn HB12 HO12 HG12 x0 x1
  go_wp2_with fail
  refine (toIntS_any sa set sc _ ((unhide HS).on (unhide HB13))).mono ?_
  rintro e w13b ⟨gw, rfl, hb, hsw, _, _⟩
  have hz13b := hb.size
  have HB13b := hide ((unhide HB13).trans (hb.mono (unhide HB13).size))
  have HO13b := hide (WS_on (unhide HO13) hb)
  have HG13b := hide (WS_on (unhide HG13) hb)
  have HN13b := hide ((unhide HN13).on hb)
  have HSW := hide hsw
  clear hb HB13 HO13 HG13 HN13 hsw
  go_wp2_with fail
  refine (implWhyNot_any _ l _ room _ set _ _ (unhide HN13b) (unhide HSW)).mono ?_
  rintro e w14 ⟨⟨v2, rfl, hl2⟩, hb⟩
  have HB14 := hide ((unhide HB13b).trans (hb.mono (unhide HB13b).size))
  have HO14 := hide (WS_on (unhide HO13b) hb)
  have HG14 := hide (WS_on (unhide HG13b) hb)
  have HH14 := hide (show WS w13b.heap.size w14 v2 (whyZ l room set) from hl2)
  clear hb hl2 HB13b HO13b HG13b HN13b HSW
  go_wp2_with fail
  refine (eqWhyS_sr (unhide HH14) (unhide HO14) (by omega)).mono ?_
  rintro e w15 ⟨rfl, hb⟩
  have HB15 := hide ((unhide HB14).trans (hb.mono (unhide HB14).size))
  have HG15 := hide (WS_on (unhide HG14) hb)
  clear hb HB14 HO14 HG14 HH14
  go_wp2_with fail
  refine (unhide HHE _ (unhide HG15)).mono ?_
  rintro e w16 ⟨rfl, hb⟩
  have HB16 := hide ((unhide HB15).trans (hb.mono (unhide HB15).size))
  clear hb HB15 HG15
  go_wp2_with fail
  go_ret
  exact ⟨rfl, unhide HB16⟩
end Go.Proofs.Ytmjmcbmfleeolay
