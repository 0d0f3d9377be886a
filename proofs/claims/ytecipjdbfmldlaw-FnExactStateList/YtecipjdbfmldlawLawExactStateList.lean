/- The walk of the law FnExactStateList. -/
import Derived.Test.YtecipjdbfmldlawSz
import Derived.Test.YtecipjdbfmldlawEq
import Derived.Test.YtecipjdbfmldlawMarkB
import Derived.Test.YtecipjdbfmldlawRowsM
import Derived.Deep.RegionWith
import Derived.Deep.CutRange
namespace Go.Proofs.Ytecipjdbfmldlaw
set_option linter.unusedVariables false
set_option linter.unusedSimpArgs false
open Go.RowKit Go.Deep

theorem PacksAt.old {w w' : World} {a : Option Addr} {l : List PackD} (h : PacksAt (New w w') w' a l) : PacksAt (Old w') w' a l := h.wider fun _ _ hb => hb.2.lt
theorem PacksAt.newOn {v w w' : World} {a : Option Addr} {l : List PackD} (h : PacksAt (New v w) w a l) (hb : Below w.heap.size w w') : PacksAt (New v w') w' a l :=
  (h.stay fun _ b hs => hb.block b hs.2.lt).wider fun _ b hs => ⟨hs.1, hs.2.of_block (hb.block b hs.2.lt)⟩
theorem LstI.wrote {B B' : Nat} {w w' : World} {v : Value} {lss : List (List Int)} {vs : List Value} (h : LstI B w v lss vs) (hw : Wrote B' isAny w w') : LstI B w' v lss vs := by
  have key : ∀ {e : TypeId} {u : Value} {n : Nat} {xs : List Value}, ¬ isAny e → w.ownsRow B e 1 u n xs → w'.ownsRow B e 1 u n xs := fun {e u n xs} he ho => by
    obtain ⟨h1, h2⟩ := ho
    refine ⟨h1, h2.imp id ?_⟩
    rintro ⟨g, cap, cur, hv, hg, hc, r⟩
    exact ⟨g, cap, cur, hv, hg, (hw.other ⟨cur, hc⟩ he).trans hc, r⟩
  exact ⟨h.len, key (by decide) h.own, fun i hi => key (by decide) (h.row i hi), h.apart⟩
theorem LstI.lts {B : Nat} {w : World} {v : Value} {lss : List (List Int)} {vs : List Value} (h : LstI B w v lss vs) : (∀ j, v.ownBlock = some j → j < w.heap.size) ∧ ∀ i j, i < lss.length → (vs.getD i undef).ownBlock = some j → j < w.heap.size :=
  ⟨fun j hj => (h.own.lt j hj).2, fun i j hi hj => ((h.row i hi).lt j hj).2⟩
/-- All healthy states, as numbers. -/
def stateI (l : List PackD) (room : Int) : List (List Int) := (stateL l room).map intsOf
theorem stateI_len (l : List PackD) (room : Int) : (stateI l room).length ≤ 256 := by
  unfold stateI stateL
  rw [List.length_map]
  by_cases h : repoB ⟨l, room⟩ = true
  · rw [if_pos h]
    have h1 := states_le l room (2 ^ l.length)
    have h2 := shl_one l.length (OkL.of h).l8
    omega
  · rw [if_neg h]; simp
theorem stateI_row (l : List PackD) (room : Int) : ∀ r ∈ stateI l room, r.length ≤ 1000 := by
  intro r hr
  unfold stateI at hr
  obtain ⟨ns, hns, rfl⟩ := List.mem_map.1 hr
  have h8 : ns.length ≤ 8 := by
    unfold stateL at hns
    split at hns
    · unfold statesTo at hns
      obtain ⟨s, _, rfl⟩ := List.mem_map.1 hns
      exact places_le s 8
    · cases hns
  simp [intsOf]
  omega
theorem stateI_getD (l : List PackD) (room : Int) (i : Nat) (hi : i < (stateI l room).length) : ((stateI l room).getD i []).length ≤ 1000 := stateI_row l room _ (getD_mem hi)

set_option maxRecDepth 10000 in
set_option maxHeartbeats 8000000 in
theorem law_any (a : Option Addr) (l : List PackD) (cap : Nat) (room : Int) (w : World) (h : PacksAt (Old w) w a l) :
    Calls Try.prog 5 #[.agg #[.slice a l.length cap, .int .i64 room]] w fun e w' => e = .returned (.bool true) ∧ Below w.heap.size w w' := by
  have HV := hide h
  clear h
  have hLn := stateI_len l room
  have HLR := hide (stateI_row l room)
  have HLG := hide (stateI_getD l room)
  go_enter Try.func5, Try.ntmps5
  go_wp2_with fail
  refine (szRepo_any a l cap room 1048576 _ ((unhide HV).on ((Below.refl _ _).alloc (Nat.le_refl _) _)) (by omega) (by omega)).mono ?_
  rintro e w1 ⟨⟨r1, rfl, hr1⟩, hb⟩
  have x0 := hb.cell (p := ⟨w.heap.size, 0, none⟩) (by simp)
  have x1 := hb.cell (p := ⟨w.heap.size, 1, none⟩) (by simp)
  have hz := hb.size
  simp at x0 x1 hz
  have HB := hide (((Below.refl w.heap.size w).alloc (Nat.le_refl _) _).trans (hb.mono (by simp)))
  clear hb
  rcases hr1 with hr1 | ⟨hr10, hr11, hrs1⟩
  · go_wp2_with fail
    go_ret
    exact ⟨rfl, unhide HB⟩
  have hn1 : ¬ r1 < 0 := by omega
  go_wp2_with fail
  refine (toRepo_any a l cap room _ ((unhide HV).on (unhide HB)) hrs1).mono ?_
  rintro e w2 ⟨g1, rfl, hb, hn⟩
  rw [← hb.cell (p := ⟨w.heap.size, _, none⟩) (by simp; omega)] at x0 x1
  have hz2 := hb.size
  have hb1 := (unhide HB).trans (hb.mono (unhide HB).size)
  have HN := hide hn.old
  clear HB hn
  have HB := hide hb1
  clear hb hb1
  go_wp2_with fail
  refine (specStateList_any _ l _ room _ (unhide HN)).mono ?_
  rintro e w3 ⟨⟨v0, rfl, vs0, hl0⟩, hb⟩
  rw [← hb.cell (p := ⟨w.heap.size, _, none⟩) (by simp; omega)] at x0 x1
  have hz3 := hb.size
  have hb1 := (unhide HB).trans (hb.mono (unhide HB).size)
  have HO := hide (show LstI w2.heap.size w3 v0 (stateI l room) vs0 from hl0.ints)
  clear HB HN hl0
  have HB := hide hb1
  clear hb hb1
  have HOlt := hide (unhide HO).lts
  go_wp2_with fail
  refine (toRepo_any a l cap room _ ((unhide HV).on (unhide HB)) hrs1).mono ?_
  rintro e w4 ⟨g2, rfl, hb, hn⟩
  rw [← hb.cell (p := ⟨w.heap.size, _, none⟩) (by simp; omega)] at x0 x1
  have hz4 := hb.size
  have hb1 := (unhide HB).trans (hb.mono (unhide HB).size)
  have HX := hide hn
  have HO4 := hide ((unhide HO).on hb)
  clear HB hn HO
  have HB := hide hb1
  clear hb hb1
  go_wp2_with fail
  obtain ⟨w5, hw5⟩ : ∃ w5, w5 = w4.alloc (.cells #[.slice (some ⟨g2, 0, none⟩) l.length l.length, .int .i64 room] 30) := ⟨_, rfl⟩
  rw [← hw5]
  have hb : Below w4.heap.size w4 w5 := by rw [hw5]; exact (Below.refl _ _).alloc (Nat.le_refl _) _
  have y0 : w5.cell? ⟨w4.heap.size, 0, none⟩ = some (.slice (some ⟨g2, 0, none⟩) l.length l.length) := by rw [hw5]; simp
  have y1 : w5.cell? ⟨w4.heap.size, 1, none⟩ = some (.int .i64 room) := by rw [hw5]; simp
  have hz5 : w4.heap.size < w5.heap.size := by rw [hw5]; simp
  rw [← hb.cell (p := ⟨w.heap.size, _, none⟩) (by simp; omega)] at x0 x1
  have hb1 := (unhide HB).trans (hb.mono (unhide HB).size)
  have HX5 := hide ((unhide HX).newOn hb)
  have HO5 := hide ((unhide HO4).on hb)
  clear HB hw5 HX HO4
  have HB := hide hb1
  clear hb hb1
  refine (implStateList_any _ l _ room _ (unhide HX5).old).mono ?_
  rintro e w6 ⟨⟨v1, rfl, vs1, hl1⟩, hb⟩
  rw [← hb.cell (p := ⟨w.heap.size, _, none⟩) (by simp; omega)] at x0 x1
  rw [← hb.cell (p := ⟨w4.heap.size, _, none⟩) hz5] at y0 y1
  have hz6 := hb.size
  have hb1 := (unhide HB).trans (hb.mono (unhide HB).size)
  have HX6 := hide ((unhide HX5).newOn hb)
  have HO6 := hide ((unhide HO5).on hb)
  have HG6 := hide (show LstI w5.heap.size w6 v1 (stateI l room) vs1 from hl1.ints)
  clear HB HX5 HO5 hl1
  have HB := hide hb1
  clear hb hb1
  go_wp2_with fail
  refine (eqIntSS_any _ _ v1 v0 (stateI l room) vs1 vs0 _ (unhide HG6) (unhide HO6) (by omega) (unhide HLG)).mono ?_
  rintro e w7 ⟨rfl, hb⟩
  rw [← hb.cell (p := ⟨w.heap.size, _, none⟩) (by simp; omega)] at x0 x1
  rw [← hb.cell (p := ⟨w4.heap.size, _, none⟩) (by simp; omega)] at y0 y1
  have hz7 := hb.size
  have hb1 := (unhide HB).trans (hb.mono (unhide HB).size)
  have HX7 := hide ((unhide HX6).newOn hb)
  have HO7 := hide ((unhide HO6).on hb)
  have HG7 := hide ((unhide HG6).on hb)
  clear HB HX6 HO6 HG6
  have HB := hide hb1
  clear hb hb1
  have HT := hide (fun W (hW : Below w7.heap.size w7 W) => toRepo_any a l cap room W (((unhide HV).on (unhide HB)).on hW) hrs1)
  go_wp2_with fail
  go_cut [31] from 27 to 31 (fun s wx => s = .bool false ∧ Below w7.heap.size w7 wx)
  case first =>
    go_region_with (first
      | (go_at_call 9; refine (unhide HT _ ?_).mono ?_; exact (Below.refl _ _).drew; rintro e wA ⟨gA, rfl, hbA, hnA⟩; have hA : Below w7.heap.size w7 wA := (Below.refl w7.heap.size w7).drew.trans hbA; have a0 := (hA.cell (p := ⟨w4.heap.size, 0, none⟩) (by simp; omega)).trans y0; have a1 := (hA.cell (p := ⟨w4.heap.size, 1, none⟩) (by simp; omega)).trans y1; have HA := hide hA; have HNA := hide hnA.old; clear hbA hA hnA)
      | (go_at_call 12; refine (eqRepo_any _ _ l _ _ room _ ((unhide HX7).old.on (unhide HA)) (unhide HNA)).mono ?_; rintro e wC ⟨rfl, hbC⟩))
    all_goals (go_wp2_with fail; go_meet; exact ⟨rfl, (unhide HA).trans (hbC.mono (unhide HA).size)⟩)
  case rest =>
  obtain ⟨rfl, hb⟩ := hcut
  rename World => w8
  rw [← hb.cell (p := ⟨w.heap.size, _, none⟩) (by simp; omega)] at x0 x1
  rw [← hb.cell (p := ⟨w4.heap.size, _, none⟩) (by simp; omega)] at y0 y1
  have hz8 := hb.size
  have hb1 := (unhide HB).trans (hb.mono (unhide HB).size)
  have HX8 := hide ((unhide HX7).newOn hb)
  have HO8 := hide ((unhide HO7).on hb)
  have HG8 := hide ((unhide HG7).on hb)
  clear HB HX7 HO7 HG7 HT
  have HB := hide hb1
  clear hb hb1
  have HX0 := hide (And.intro x0 x1)
  clear x0 x1
  go_wp2_with fail
  refine (markRepo_any w3 _ g2 l _ room (unhide HX8) hrs1).mono ?_
  rintro e w9 ⟨⟨r9, rfl, hr9⟩, hw9⟩
  have hb9 := hw9.below (by omega)
  have HB9 := hide ((unhide HB).trans (hb9.mono (by have := (unhide HB).size; omega)))
  obtain ⟨x0, x1⟩ := unhide HX0
  rw [← hb9.cell (p := ⟨w.heap.size, _, none⟩) (by simp; omega)] at x0 x1
  have HO9 := hide ((unhide HO8).wrote hw9)
  have HG9 := hide ((unhide HG8).wrote hw9)
  have hz9 := hw9.size
  have hn9 : ¬ r9 < 0 := by omega
  clear hw9 HB HX8 HO8 HG8 y0 y1 hb9 HX0
  go_wp2_with fail
  refine (eqIntSS_any _ _ v1 v0 (stateI l room) vs1 vs0 _ (unhide HG9) (unhide HO9) (by omega) (unhide HLG)).mono ?_
  rintro e w10 ⟨rfl, hb⟩
  rw [← hb.cell (p := ⟨w.heap.size, _, none⟩) (by simp; omega)] at x0 x1
  have hz10 := hb.size
  have hb1 := (unhide HB9).trans (hb.mono (unhide HB9).size)
  have HO10 := hide ((unhide HO9).on hb)
  have HG10 := hide ((unhide HG9).on hb)
  clear HB9 HO9 HG9
  have HB := hide hb1
  clear hb hb1
  go_wp2_with fail
  refine (markIntSS_any w5.heap.size v1 (stateI l room) vs1 1 _ (unhide HG10) (by omega) (by omega) (unhide HLR) (by omega) (by omega)).mono ?_
  rintro e w11 ⟨rfl, hb, hG⟩
  rw [← hb.cell (p := ⟨w.heap.size, _, none⟩) (by simp; omega)] at x0 x1
  have hz11 := hb.size
  have HB11 := hide ((unhide HB).trans (hb.mono (by have := (unhide HB).size; omega)))
  have HO11 := hide ((unhide HO10).far hb (fun j hj => by have := (unhide HOlt).1 j hj; omega) (fun i j hi hj => by have := (unhide HOlt).2 i j hi hj; omega))
  have HG11 := hide hG
  have hend := endK_bound 1 (stateI l room) (by omega) (unhide HLR)
  clear hb hG HB HO10 HG10
  have hpos : ¬ (endK 1 (stateI l room) < 0) := by omega
  have HHE := hide (fun W (hW : LstI w5.heap.size W v1 (markL 1 (stateI l room)) vs1) => heldIntSS_any w5.heap.size v1 (stateI l room) vs1 1 W hW (by omega) (unhide HLR) (by omega) (by omega))
  generalize endK 1 (stateI l room) = ek at hpos hend HHE ⊢
  go_wp2_with fail
  refine (unhide HHE _ (unhide HG11)).mono ?_
  rintro e w12 ⟨rfl, hb⟩
  rw [← hb.cell (p := ⟨w.heap.size, _, none⟩) (by simp; omega)] at x0 x1
  have hz12 := hb.size
  have HB12 := hide ((unhide HB11).trans (hb.mono (unhide HB11).size))
  have HO12 := hide ((unhide HO11).on hb)
  have HG12 := hide ((unhide HG11).on hb)
  clear hb HB11 HO11 HG11
  go_wp2_with fail
  refine (toRepo_any a l cap room _ ((unhide HV).on (unhide HB12)) hrs1).mono ?_
  rintro e w13 ⟨g3, rfl, hb, hn⟩
  have hz13 := hb.size
  have HB13 := hide ((unhide HB12).trans (hb.mono (unhide HB12).size))
  have HO13 := hide ((unhide HO12).on hb)
  have HG13 := hide ((unhide HG12).on hb)
  have HN13 := hide hn.old
  clear hb hn HB12 HO12 HG12 x0 x1
  go_wp2_with fail
  refine (implStateList_any _ l _ room _ (unhide HN13)).mono ?_
  rintro e w14 ⟨⟨v2, rfl, vs2, hl2⟩, hb⟩
  have HB14 := hide ((unhide HB13).trans (hb.mono (unhide HB13).size))
  have HO14 := hide ((unhide HO13).on hb)
  have HG14 := hide ((unhide HG13).on hb)
  have HH14 := hide (show LstI w13.heap.size w14 v2 (stateI l room) vs2 from hl2.ints)
  clear hb hl2 HB13 HO13 HG13 HN13
  go_wp2_with fail
  refine (eqIntSS_any _ _ v2 v0 (stateI l room) vs2 vs0 _ (unhide HH14) (unhide HO14) (by omega) (unhide HLG)).mono ?_
  rintro e w15 ⟨rfl, hb⟩
  have HB15 := hide ((unhide HB14).trans (hb.mono (unhide HB14).size))
  have HG15 := hide ((unhide HG14).on hb)
  clear hb HB14 HO14 HG14 HH14
  go_wp2_with fail
  refine (unhide HHE _ (unhide HG15)).mono ?_
  rintro e w16 ⟨rfl, hb⟩
  have HB16 := hide ((unhide HB15).trans (hb.mono (unhide HB15).size))
  clear hb HB15 HG15
  go_wp2_with fail
  go_ret
  exact ⟨rfl, unhide HB16⟩
end Go.Proofs.Ytecipjdbfmldlaw
