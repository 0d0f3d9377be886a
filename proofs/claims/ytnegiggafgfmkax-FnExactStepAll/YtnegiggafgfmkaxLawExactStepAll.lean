/- The walk of the law FnExactStepAll. -/
import Derived.Test.YtnegiggafgfmkaxMvE
import Derived.Test.YtnegiggafgfmkaxSz
import Derived.Test.YtnegiggafgfmkaxEq
import Derived.Test.YtnegiggafgfmkaxMarkB
import Derived.Test.YtnegiggafgfmkaxStepsN
import Derived.Deep.RegionWith
import Derived.Deep.CutRange
namespace Go.Proofs.Ytnegiggafgfmkax
set_option linter.unusedVariables false
set_option linter.unusedSimpArgs false
open Go.RowKit Go.Deep

theorem PacksAt.old {w w' : World} {a : Option Addr} {l : List PackD} (h : PacksAt (New w w') w' a l) : PacksAt (Old w') w' a l := h.wider fun _ _ hb => hb.2.lt
theorem PacksAt.newOn {v w w' : World} {a : Option Addr} {l : List PackD} (h : PacksAt (New v w) w a l) (hb : Below w.heap.size w w') : PacksAt (New v w') w' a l :=
  (h.stay fun _ b hs => hb.block b hs.2.lt).wider fun _ b hs => ⟨hs.1, hs.2.of_block (hb.block b hs.2.lt)⟩
section
variable {B B' : Nat} {w w' : World} {v : Value} {ss : List StepD}
theorem SR_on (h : SR B w v ss) (hb : Below w.heap.size w w') : SR B w' v ss := ownsRow_on h hb
theorem SR_wrote (h : SR B w v ss) (hw : Wrote B' isAny w w') : SR B w' v ss := by
  obtain ⟨h1, h2⟩ := h
  refine ⟨h1, h2.imp id ?_⟩
  rintro ⟨g, cap, cur, hv, hg, hc, r⟩
  exact ⟨g, cap, cur, hv, hg, (hw.other ⟨cur, hc⟩ (by decide)).trans hc, r⟩
theorem SR_lt (h : SR B w v ss) : ∀ j, v.ownBlock = some j → j < w.heap.size := fun j hj => (World.ownsRow.lt h j hj).2
theorem SR_far (h : SR B w v ss) (hb : Below B' w w') (hlt : ∀ j, v.ownBlock = some j → j < B') : SR B w' v ss := by
  obtain ⟨h1, h2⟩ := h
  refine ⟨h1, h2.imp id ?_⟩
  rintro ⟨g, cap, cur, hv, hg, hc, r⟩
  exact ⟨g, cap, cur, hv, hg, (hb.block g (hlt g (by rw [hv]; rfl))).trans hc, r⟩
theorem eqStepS_sr {v' : Value} (h : SR B w v ss) (h' : SR B' w v' ss) (hl : ss.length ≤ 1000) :
    Calls Try.prog 10 #[v, v'] w fun e w' => e = .returned (.bool true) ∧ Below w.heap.size w w' := by
  obtain ⟨a, c, rfl, ha⟩ := SR.at h (by omega)
  obtain ⟨a', c', rfl, ha'⟩ := SR.at h' (by omega)
  exact eqStepS_any a ss c a' c' w ha ha'
theorem heldStepS_sr {k0 : Int} {n : Nat} (h : SR B w v (upsS k0 n)) (hn : n ≤ 1000) (hk0 : 0 ≤ k0) (hk1 : k0 ≤ 1000000000) :
    Calls Try.prog 14 #[v, .int .i64 k0] w fun e w' => e = .returned (.int .i64 (k0 + 3 * n)) ∧ Below w.heap.size w w' := by
  obtain ⟨a, c, rfl, ha⟩ := SR.at h (by rw [upsS_len]; omega)
  rw [upsS_len]
  exact heldStepS_k k0 a n c w ha hk0 hk1
theorem markStepS_sr {k0 : Int} (h : SR B w v ss) (hB : B ≤ w.heap.size) (hn : ss.length ≤ 1000) (hk0 : 0 ≤ k0) (hk1 : k0 ≤ 1000000000) :
    Calls Try.prog 13 #[v, .int .i64 k0] w fun e w' => e = .returned (.int .i64 (k0 + 3 * ss.length)) ∧ Below B w w' ∧ SR B w' v (upsS k0 ss.length) := by
  refine (markStepS_k k0 B v ss w h (by omega) hk0 hk1).mono ?_
  rintro e w' ⟨rfl, hg, hS⟩
  exact ⟨rfl, ⟨hg.os, hg.tape, hg.output, hg.size, fun k hk => hg.block k (by omega) (fun e => by have := (World.ownsRow.lt h k e.symm).1; omega)⟩, hS⟩
end

set_option maxRecDepth 10000 in
set_option maxHeartbeats 8000000 in
theorem law_any (a : Option Addr) (l : List PackD) (cap : Nat) (room : Int) (w : World) (h : PacksAt (Old w) w a l) :
    Calls Try.prog 3 #[.agg #[.slice a l.length cap, .int .i64 room]] w fun e w' => e = .returned (.bool true) ∧ Below w.heap.size w w' := by
  have HV := hide h
  clear h
  have hLn := stepsL_few l room
  go_enter Try.func3, Try.ntmps3
  go_wp2_with fail
  refine (szRepo_any a l cap room 1048576 _ ((unhide HV).on ((Below.refl _ _).alloc (Nat.le_refl _) _)) (by omega) (by omega)).mono ?_
  rintro e w1 ⟨⟨r1, rfl, hr1⟩, hb⟩
  have x0 := hb.cell (p := ⟨w.heap.size, 0, none⟩) (by simp)
  have x1 := hb.cell (p := ⟨w.heap.size, 1, none⟩) (by simp)
  have hz := hb.size
  simp at x0 x1 hz
  have HB := hide (((Below.refl w.heap.size w).alloc (Nat.le_refl _) _).trans (hb.mono (by simp)))
  clear hb
  rcases hr1 with hr1 | ⟨hr10, hr11, hrs1⟩
  · go_wp2_with fail
    go_ret
    exact ⟨rfl, unhide HB⟩
  have hn1 : ¬ r1 < 0 := by omega
  go_wp2_with fail
  refine (toRepo_any a l cap room _ ((unhide HV).on (unhide HB)) hrs1).mono ?_
  rintro e w2 ⟨g1, rfl, hb, hn⟩
  rw [← hb.cell (p := ⟨w.heap.size, _, none⟩) (by simp; omega)] at x0 x1
  have hz2 := hb.size
  have hb1 := (unhide HB).trans (hb.mono (unhide HB).size)
  have HN := hide hn.old
  clear HB hn
  have HB := hide hb1
  clear hb hb1
  go_wp2_with fail
  refine (specStepAll_any _ l _ room _ (unhide HN)).mono ?_
  rintro e w3 ⟨⟨v0, rfl, hl0⟩, hb⟩
  rw [← hb.cell (p := ⟨w.heap.size, _, none⟩) (by simp; omega)] at x0 x1
  have hz3 := hb.size
  have hb1 := (unhide HB).trans (hb.mono (unhide HB).size)
  have HO := hide (show SR w2.heap.size w3 v0 (stepsL l room) from hl0)
  clear HB HN hl0
  have HB := hide hb1
  clear hb hb1
  have HOlt := hide (SR_lt (unhide HO))
  go_wp2_with fail
  refine (toRepo_any a l cap room _ ((unhide HV).on (unhide HB)) hrs1).mono ?_
  rintro e w4 ⟨g2, rfl, hb, hn⟩
  rw [← hb.cell (p := ⟨w.heap.size, _, none⟩) (by simp; omega)] at x0 x1
  have hz4 := hb.size
  have hb1 := (unhide HB).trans (hb.mono (unhide HB).size)
  have HX := hide hn
  have HO4 := hide (SR_on (unhide HO) hb)
  clear HB hn HO
  have HB := hide hb1
  clear hb hb1
  go_wp2_with fail
  obtain ⟨w5, hw5⟩ : ∃ w5, w5 = w4.alloc (.cells #[.slice (some ⟨g2, 0, none⟩) l.length l.length, .int .i64 room] 30) := ⟨_, rfl⟩
  rw [← hw5]
  have hb : Below w4.heap.size w4 w5 := by rw [hw5]; exact (Below.refl _ _).alloc (Nat.le_refl _) _
  have y0 : w5.cell? ⟨w4.heap.size, 0, none⟩ = some (.slice (some ⟨g2, 0, none⟩) l.length l.length) := by rw [hw5]; simp
  have y1 : w5.cell? ⟨w4.heap.size, 1, none⟩ = some (.int .i64 room) := by rw [hw5]; simp
  have hz5 : w4.heap.size < w5.heap.size := by rw [hw5]; simp
  rw [← hb.cell (p := ⟨w.heap.size, _, none⟩) (by simp; omega)] at x0 x1
  have hb1 := (unhide HB).trans (hb.mono (unhide HB).size)
  have HX5 := hide ((unhide HX).newOn hb)
  have HO5 := hide (SR_on (unhide HO4) hb)
  clear HB hw5 HX HO4
  have HB := hide hb1
  clear hb hb1
  refine (implStepAll_any _ l _ room _ (unhide HX5).old).mono ?_
  rintro e w6 ⟨⟨v1, rfl, hl1⟩, hb⟩
  rw [← hb.cell (p := ⟨w.heap.size, _, none⟩) (by simp; omega)] at x0 x1
  rw [← hb.cell (p := ⟨w4.heap.size, _, none⟩) hz5] at y0 y1
  have hz6 := hb.size
  have hb1 := (unhide HB).trans (hb.mono (unhide HB).size)
  have HX6 := hide ((unhide HX5).newOn hb)
  have HO6 := hide (SR_on (unhide HO5) hb)
  have HG6 := hide (show SR w5.heap.size w6 v1 (stepsL l room) from hl1)
  clear HB HX5 HO5 hl1
  have HB := hide hb1
  clear hb hb1
  go_wp2_with fail
  refine (eqStepS_sr (unhide HG6) (unhide HO6) (by omega)).mono ?_
  rintro e w7 ⟨rfl, hb⟩
  rw [← hb.cell (p := ⟨w.heap.size, _, none⟩) (by simp; omega)] at x0 x1
  rw [← hb.cell (p := ⟨w4.heap.size, _, none⟩) (by simp; omega)] at y0 y1
  have hz7 := hb.size
  have hb1 := (unhide HB).trans (hb.mono (unhide HB).size)
  have HX7 := hide ((unhide HX6).newOn hb)
  have HO7 := hide (SR_on (unhide HO6) hb)
  have HG7 := hide (SR_on (unhide HG6) hb)
  clear HB HX6 HO6 HG6
  have HB := hide hb1
  clear hb hb1
  have HT := hide (fun W (hW : Below w7.heap.size w7 W) => toRepo_any a l cap room W (((unhide HV).on (unhide HB)).on hW) hrs1)
  go_wp2_with fail
  go_cut [31] from 27 to 31 (fun s wx => s = .bool false ∧ Below w7.heap.size w7 wx)
  case first =>
    go_region_with (first
      | (go_at_call 8; refine (unhide HT _ ?_).mono ?_; exact (Below.refl _ _).drew; rintro e wA ⟨gA, rfl, hbA, hnA⟩; have hA : Below w7.heap.size w7 wA := (Below.refl w7.heap.size w7).drew.trans hbA; have a0 := (hA.cell (p := ⟨w4.heap.size, 0, none⟩) (by simp; omega)).trans y0; have a1 := (hA.cell (p := ⟨w4.heap.size, 1, none⟩) (by simp; omega)).trans y1; have HA := hide hA; have HNA := hide hnA.old; clear hbA hA hnA)
      | (go_at_call 11; refine (eqRepo_any _ _ l _ _ room _ ((unhide HX7).old.on (unhide HA)) (unhide HNA)).mono ?_; rintro e wC ⟨rfl, hbC⟩))
    all_goals (go_wp2_with fail; go_meet; exact ⟨rfl, (unhide HA).trans (hbC.mono (unhide HA).size)⟩)
  case rest =>
  obtain ⟨rfl, hb⟩ := hcut
  rename World => w8
  rw [← hb.cell (p := ⟨w.heap.size, _, none⟩) (by simp; omega)] at x0 x1
  rw [← hb.cell (p := ⟨w4.heap.size, _, none⟩) (by simp; omega)] at y0 y1
  have hz8 := hb.size
  have hb1 := (unhide HB).trans (hb.mono (unhide HB).size)
  have HX8 := hide ((unhide HX7).newOn hb)
  have HO8 := hide (SR_on (unhide HO7) hb)
  have HG8 := hide (SR_on (unhide HG7) hb)
  clear HB HX7 HO7 HG7 HT
  have HB := hide hb1
  clear hb hb1
  have HX0 := hide (And.intro x0 x1)
  clear x0 x1
  go_wp2_with fail
  refine (markRepo_any w3 _ g2 l _ room (unhide HX8) hrs1).mono ?_
  rintro e w9 ⟨⟨r9, rfl, hr9⟩, hw9⟩
  have hb9 := hw9.below (by omega)
  have HB9 := hide ((unhide HB).trans (hb9.mono (by have := (unhide HB).size; omega)))
  obtain ⟨x0, x1⟩ := unhide HX0
  rw [← hb9.cell (p := ⟨w.heap.size, _, none⟩) (by simp; omega)] at x0 x1
  have HO9 := hide (SR_wrote (unhide HO8) hw9)
  have HG9 := hide (SR_wrote (unhide HG8) hw9)
  have hz9 := hw9.size
  have hn9 : ¬ r9 < 0 := by omega
  clear hw9 HB HX8 HO8 HG8 y0 y1 hb9 HX0
  go_wp2_with fail
  refine (eqStepS_sr (unhide HG9) (unhide HO9) (by omega)).mono ?_
  rintro e w10 ⟨rfl, hb⟩
  rw [← hb.cell (p := ⟨w.heap.size, _, none⟩) (by simp; omega)] at x0 x1
  have hz10 := hb.size
  have hb1 := (unhide HB9).trans (hb.mono (unhide HB9).size)
  have HO10 := hide (SR_on (unhide HO9) hb)
  have HG10 := hide (SR_on (unhide HG9) hb)
  clear HB9 HO9 HG9
  have HB := hide hb1
  clear hb hb1
  go_wp2_with fail
  refine (markStepS_sr (k0 := 1) (unhide HG10) (by omega) (by omega) (by omega) (by omega)).mono ?_
  rintro e w11 ⟨rfl, hb, hG⟩
  rw [← hb.cell (p := ⟨w.heap.size, _, none⟩) (by simp; omega)] at x0 x1
  have hz11 := hb.size
  have HB11 := hide ((unhide HB).trans (hb.mono (by have := (unhide HB).size; omega)))
  have HO11 := hide (SR_far (unhide HO10) hb (fun j hj => by have := (unhide HOlt) j hj; omega))
  have HG11 := hide hG
  clear hb hG HB HO10 HG10
  have hpos : ¬ (1 + 3 * ((stepsL l room).length : Int) < 0) := by omega
  have HHE := hide (fun W (hW : SR w5.heap.size W v1 (upsS 1 (stepsL l room).length)) => heldStepS_sr hW (by omega) (by omega) (by omega))
  generalize 1 + 3 * ((stepsL l room).length : Int) = ek at hpos HHE ⊢
  go_wp2_with fail
  refine (unhide HHE _ (unhide HG11)).mono ?_
  rintro e w12 ⟨rfl, hb⟩
  rw [← hb.cell (p := ⟨w.heap.size, _, none⟩) (by simp; omega)] at x0 x1
  have hz12 := hb.size
  have HB12 := hide ((unhide HB11).trans (hb.mono (unhide HB11).size))
  have HO12 := hide (SR_on (unhide HO11) hb)
  have HG12 := hide (SR_on (unhide HG11) hb)
  clear hb HB11 HO11 HG11
  go_wp2_with fail
  refine (toRepo_any a l cap room _ ((unhide HV).on (unhide HB12)) hrs1).mono ?_
  rintro e w13 ⟨g3, rfl, hb, hn⟩
  have hz13 := hb.size
  have HB13 := hide ((unhide HB12).trans (hb.mono (unhide HB12).size))
  have HO13 := hide (SR_on (unhide HO12) hb)
  have HG13 := hide (SR_on (unhide HG12) hb)
  have HN13 := hide hn.old
  clear hb hn HB12 HO12 HG12 x0 x1
  go_wp2_with fail
  refine (implStepAll_any _ l _ room _ (unhide HN13)).mono ?_
  rintro e w14 ⟨⟨v2, rfl, hl2⟩, hb⟩
  have HB14 := hide ((unhide HB13).trans (hb.mono (unhide HB13).size))
  have HO14 := hide (SR_on (unhide HO13) hb)
  have HG14 := hide (SR_on (unhide HG13) hb)
  have HH14 := hide (show SR w13.heap.size w14 v2 (stepsL l room) from hl2)
  clear hb hl2 HB13 HO13 HG13 HN13
  go_wp2_with fail
  refine (eqStepS_sr (unhide HH14) (unhide HO14) (by omega)).mono ?_
  rintro e w15 ⟨rfl, hb⟩
  have HB15 := hide ((unhide HB14).trans (hb.mono (unhide HB14).size))
  have HG15 := hide (SR_on (unhide HG14) hb)
  clear hb HB14 HO14 HG14 HH14
  go_wp2_with fail
  refine (unhide HHE _ (unhide HG15)).mono ?_
  rintro e w16 ⟨rfl, hb⟩
  have HB16 := hide ((unhide HB15).trans (hb.mono (unhide HB15).size))
  clear hb HB15 HG15
  go_wp2_with fail
  go_ret
  exact ⟨rfl, unhide HB16⟩
end Go.Proofs.Ytnegiggafgfmkax
