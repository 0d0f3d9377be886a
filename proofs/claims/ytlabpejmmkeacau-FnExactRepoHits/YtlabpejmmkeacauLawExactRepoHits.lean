/- The walk of the law FnExactRepoHits. -/
import Derived.Test.YtlabpejmmkeacauSz
import Derived.Test.YtlabpejmmkeacauEq
import Derived.Test.YtlabpejmmkeacauMarkB
import Derived.Test.YtlabpejmmkeacauIntsLaw
import Derived.Deep.RegionWith
import Derived.Deep.CutRange
namespace Go.Proofs.Ytlabpejmmkeacau
set_option linter.unusedVariables false
set_option linter.unusedSimpArgs false
open Go.RowKit Go.Deep

theorem PacksAt.old {w w' : World} {a : Option Addr} {l : List PackD} (h : PacksAt (New w w') w' a l) : PacksAt (Old w') w' a l := h.wider fun _ _ hb => hb.2.lt
theorem PacksAt.newOn {v w w' : World} {a : Option Addr} {l : List PackD} (h : PacksAt (New v w) w a l) (hb : Below w.heap.size w w') : PacksAt (New v w') w' a l :=
  (h.stay fun _ b hs => hb.block b hs.2.lt).wider fun _ b hs => ⟨hs.1, hs.2.of_block (hb.block b hs.2.lt)⟩
theorem ownsRow_wrote {w w' : World} {B b : Nat} {v : Value} {n : Nat} {xs : List Value} (h : w.ownsRow b 3 1 v n xs) (hw : Wrote B isAny w w') : w'.ownsRow b 3 1 v n xs := by
  obtain ⟨h1, h2⟩ := h
  refine ⟨h1, ?_⟩
  rcases h2 with h2 | ⟨g, cap, cur, hv, hg, hc, r⟩
  · exact Or.inl h2
  · exact Or.inr ⟨g, cap, cur, hv, hg, (hw.other ⟨cur, hc⟩ (by decide)).trans hc, r⟩
theorem hitsL_le (q : ReqD) (l : List PackD) (room : Int) : (hitsL q l room).length ≤ 8 := by
  unfold hitsL
  by_cases h : repoB ⟨l, room⟩ = true
  · rw [if_pos h]
    simp only [repoB, Bool.and_eq_true, decide_eq_true_eq] at h
    exact Nat.le_trans (hits_le q l l.length) h.1.1.1
  · rw [if_neg h]; simp
/-- The same numbers, as Int. -/
def hitsI (q : ReqD) (l : List PackD) (room : Int) : List Int := (hitsL q l room).map fun i : Nat => (i : Int)
theorem hitsI_vs (q : ReqD) (l : List PackD) (room : Int) : intVs (hitsL q l room) = (hitsI q l room).map fun i => Value.int .i64 i := by simp [intVs, hitsI]
theorem hitsI_len (q : ReqD) (l : List PackD) (room : Int) : (hitsI q l room).length = (hitsL q l room).length := by simp [hitsI]
theorem Ints.hits {B : Nat} {w : World} {v : Value} {q : ReqD} {l : List PackD} {room : Int} (h : Ints B w v (hitsL q l room)) : IntsAt w v (hitsI q l room) := by
  have h' : w.ownsRow B 3 1 v (hitsL q l room).length ((hitsI q l room).map fun i => Value.int .i64 i) := by rw [← hitsI_vs]; exact h
  exact Ints.at h' (hitsI_len q l room) (by have := hitsL_le q l room; omega)

theorem hits_apart {w : World} {B n' : Nat} {v v' : Value} {xs' : List Value} (h0 : ∀ j, v.ownBlock = some j → j < B) (h1 : w.ownsRow B 3 1 v' n' xs') : v.ownBlock = none ∨ v.ownBlock ≠ v'.ownBlock := by
  cases e : v.ownBlock with
  | none => exact Or.inl rfl
  | some j =>
    right
    intro e'
    have a := h0 j e
    have b := (World.ownsRow.lt h1 j e'.symm).1
    omega

theorem below3 {a b c d : World} (h : Below a.heap.size a b) (k : Below b.heap.size b c) (m : Below c.heap.size c d) : Below a.heap.size a d :=
  (h.trans (k.mono h.size)).trans (m.mono (Nat.le_trans h.size k.size))
theorem below2 {a b c : World} (h : Below a.heap.size a b) (k : Below b.heap.size b c) : Below a.heap.size a c := h.trans (k.mono h.size)

set_option maxHeartbeats 8000000 in
theorem lawHits_any (q : ReqD) (a : Option Addr) (l : List PackD) (cap : Nat) (room : Int) (w : World) (h : PacksAt (Old w) w a l) (hq : q.name.size ≤ maxLen) :
    Calls Try.prog 3 #[.agg #[.slice a l.length cap, .int .i64 room], .agg #[.string q.name, .int .i64 q.low, .int .i64 q.high]] w fun e w' => e = .returned (.bool true) ∧ Below w.heap.size w w' := by
  have HV := hide h
  have HQ := hide hq
  clear h hq
  have e0 : ∀ A B, Below w.heap.size w ((w.alloc A).alloc B) := fun A B => ((Below.refl _ _).alloc (Nat.le_refl _) _).alloc (by simp) _
  have E0 := hide e0
  clear e0
  go_enter Try.func3, Try.ntmps3
  go_wp2_with fail
  refine (szRepo_any a l cap room 1048576 _ ((unhide HV).on (unhide E0 _ _)) (by omega) (by omega)).mono ?_
  rintro e w1 ⟨⟨r1, rfl, hr1⟩, hb⟩
  have HB := hide (hb.mono (show w.heap.size + 1 + 1 ≤ _ by simp))
  clear hb
  rcases hr1 with hr1 | ⟨hr10, hr11, hrs1⟩
  · go_wp2_with fail
    go_ret
    exact ⟨rfl, (unhide E0 _ _).trans ((unhide HB).mono (by omega))⟩
  have hn1 : ¬ r1 < 0 := by omega
  have q0 := (unhide HB).cell (p := ⟨w.heap.size + 1, 0, none⟩) (by simp)
  have q1 := (unhide HB).cell (p := ⟨w.heap.size + 1, 1, none⟩) (by simp)
  have q2 := (unhide HB).cell (p := ⟨w.heap.size + 1, 2, none⟩) (by simp)
  have hz := (unhide HB).size
  simp at q0 q1 q2 hz
  go_wp2_with fail
  refine (szReq_any q r1 _ (unhide HQ) (by omega) (by omega)).mono ?_
  rintro e w2 ⟨⟨r2, rfl, hr2⟩, hb⟩
  have HB2 := hide ((unhide HB).trans (hb.mono (by omega)))
  clear hb HB q0 q1 q2 hz
  rcases hr2 with hr2 | ⟨hr20, hr21, _⟩
  · go_wp2_with fail
    go_ret
    exact ⟨rfl, (unhide E0 _ _).trans ((unhide HB2).mono (by omega))⟩
  have hn2 : ¬ r2 < 0 := by omega
  have r0 := (unhide HB2).cell (p := ⟨w.heap.size, 0, none⟩) (by simp; omega)
  have r1' := (unhide HB2).cell (p := ⟨w.heap.size, 1, none⟩) (by simp; omega)
  have q0 := (unhide HB2).cell (p := ⟨w.heap.size + 1, 0, none⟩) (by simp)
  have q1 := (unhide HB2).cell (p := ⟨w.heap.size + 1, 1, none⟩) (by simp)
  have q2 := (unhide HB2).cell (p := ⟨w.heap.size + 1, 2, none⟩) (by simp)
  have hz := (unhide HB2).size
  simp at r0 r1' q0 q1 q2 hz
  have HT := hide (fun W (hW : Below w2.heap.size w2 W) => toRepo_any a l cap room W (((unhide HV).on ((unhide E0 _ _).trans ((unhide HB2).mono (by omega)))).on hW) hrs1)
  go_wp2_with fail
  go_cut [6] from 23 to 27 (fun s wx => Ints w2.heap.size wx s (hitsL q l room) ∧ Below w2.heap.size w2 wx)
  case first =>
    go_region_with (first
      | (go_at_call 7; refine (unhide HT _ ?_).mono ?_; exact (Below.refl _ _).drew; rintro e wA ⟨gA, rfl, hbA, hnA⟩; have hA : Below w2.heap.size w2 wA := (Below.refl w2.heap.size w2).drew.trans hbA; have a0 := (hA.cell (p := ⟨w.heap.size + 1, 0, none⟩) (by simp; omega)).trans q0; have a1 := (hA.cell (p := ⟨w.heap.size + 1, 1, none⟩) (by simp; omega)).trans q1; have a2 := (hA.cell (p := ⟨w.heap.size + 1, 2, none⟩) (by simp; omega)).trans q2; have HA := hide hA; have HNA := hide hnA.old; clear hbA hA hnA)
      | (go_at_call 8; refine (toReq_any q _).mono ?_; rintro e wB ⟨rfl, hbB⟩; have HBB := hide hbB; clear hbB)
      | (go_at_call 6; refine (specRepoHits_any q _ l _ room _ ((unhide HNA).on (unhide HBB))).mono ?_; rintro e w3 ⟨⟨v0, rfl, hv0⟩, hbC⟩))
    all_goals (go_wp2_with fail; go_meet; exact ⟨ownsRow_base hv0 (Nat.le_trans (unhide HA).size (unhide HBB).size), below3 (unhide HA) (unhide HBB) hbC⟩)
  case rest =>
  obtain ⟨hv0, hb3⟩ := hcut
  have HO0 := hide hv0
  have HB3 := hide ((unhide HB2).trans (hb3.mono (by omega)))
  clear hv0 HT r0 r1' q0 q1 q2
  have hz3 := hb3.size
  clear hb3
  rename World => w3
  have r0 := (unhide HB3).cell (p := ⟨w.heap.size, 0, none⟩) (by simp; omega)
  have r1' := (unhide HB3).cell (p := ⟨w.heap.size, 1, none⟩) (by simp; omega)
  have q0 := (unhide HB3).cell (p := ⟨w.heap.size + 1, 0, none⟩) (by simp)
  have q1 := (unhide HB3).cell (p := ⟨w.heap.size + 1, 1, none⟩) (by simp)
  have q2 := (unhide HB3).cell (p := ⟨w.heap.size + 1, 2, none⟩) (by simp)
  simp at r0 r1' q0 q1 q2
  have HP3 := hide ((unhide HV).on ((unhide E0 _ _).trans ((unhide HB3).mono (by omega))))
  go_wp2_with fail
  refine (toRepo_any a l cap room _ (unhide HP3) hrs1).mono ?_
  rintro e w4 ⟨g2, rfl, hb, hn⟩
  have HB4 := hide ((unhide HB3).trans (hb.mono (by omega)))
  have HX4 := hide hn
  have HO4 := hide (ownsRow_below (unhide HO0) hb)
  have hz4 := hb.size
  clear hb hn HB3 HP3 HO0 r0 r1' q0 q1 q2
  have q0 := (unhide HB4).cell (p := ⟨w.heap.size + 1, 0, none⟩) (by simp)
  have q1 := (unhide HB4).cell (p := ⟨w.heap.size + 1, 1, none⟩) (by simp)
  have q2 := (unhide HB4).cell (p := ⟨w.heap.size + 1, 2, none⟩) (by simp)
  simp at q0 q1 q2
  go_wp2_with fail
  obtain ⟨w5, hw5⟩ : ∃ w5, w5 = w4.alloc (.cells #[.slice (some ⟨g2, 0, none⟩) l.length l.length, .int .i64 room] 33) := ⟨_, rfl⟩
  rw [← hw5]
  have hb : Below w4.heap.size w4 w5 := by rw [hw5]; exact (Below.refl _ _).alloc (Nat.le_refl _) _
  have y0 : w5.cell? ⟨w4.heap.size, 0, none⟩ = some (.slice (some ⟨g2, 0, none⟩) l.length l.length) := by rw [hw5]; simp
  have y1 : w5.cell? ⟨w4.heap.size, 1, none⟩ = some (.int .i64 room) := by rw [hw5]; simp
  have hz5 : w4.heap.size < w5.heap.size := by rw [hw5]; simp
  have HB5 := hide ((unhide HB4).trans (hb.mono (by omega)))
  have HX5 := hide ((unhide HX4).newOn hb)
  have HO5 := hide (ownsRow_below (unhide HO4) hb)
  clear hb hw5 HB4 HX4 HO4 q0 q1 q2
  have q0 := (unhide HB5).cell (p := ⟨w.heap.size + 1, 0, none⟩) (by simp)
  have q1 := (unhide HB5).cell (p := ⟨w.heap.size + 1, 1, none⟩) (by simp)
  have q2 := (unhide HB5).cell (p := ⟨w.heap.size + 1, 2, none⟩) (by simp)
  simp at q0 q1 q2
  go_cut [8] from 30 to 33 (fun s wx => Ints w5.heap.size wx s (hitsL q l room) ∧ Below w5.heap.size w5 wx)
  case first =>
    go_region_with (first
      | (go_at_call 8; refine (toReq_any q _).mono ?_; rintro e wB ⟨rfl, hbB⟩; have hB : Below w5.heap.size w5 wB := (Below.refl w5.heap.size w5).drew.trans hbB; have b0 := (hB.cell (p := ⟨w4.heap.size, 0, none⟩) (by simp; omega)).trans y0; have b1 := (hB.cell (p := ⟨w4.heap.size, 1, none⟩) (by simp; omega)).trans y1; have HBB := hide hB; clear hbB hB)
      | (go_at_call 9; refine (implRepoHits_any q _ l _ room _ ((unhide HX5).old.on (unhide HBB))).mono ?_; rintro e wC ⟨⟨v1, rfl, hv1⟩, hbC⟩))
    all_goals (go_wp2_with fail; go_meet; exact ⟨ownsRow_base hv1 (unhide HBB).size, below2 (unhide HBB) hbC⟩)
  case rest =>
  obtain ⟨hv1, hb⟩ := hcut
  rename World => w6
  have y0' := (hb.cell (p := ⟨w4.heap.size, 0, none⟩) (by simp; omega)).trans y0
  have y1' := (hb.cell (p := ⟨w4.heap.size, 1, none⟩) (by simp; omega)).trans y1
  have HB6 := hide ((unhide HB5).trans (hb.mono (by omega)))
  have HX6 := hide ((unhide HX5).newOn hb)
  have HO6lt := hide (fun j hj => (World.ownsRow.lt (unhide HO5) j hj).2)
  have HO6 := hide (ownsRow_below (unhide HO5) hb)
  have HG6 := hide hv1
  have hz6 := hb.size
  clear hb hv1 HB5 HX5 HO5 q0 q1 q2 y0 y1
  go_wp2_with fail
  refine (eqIntS_any _ _ (hitsI q l room) _ (Ints.hits (unhide HG6)) (Ints.hits (unhide HO6))).mono ?_
  rintro e w7 ⟨rfl, hb⟩
  have y0 := (hb.cell (p := ⟨w4.heap.size, 0, none⟩) (by simp; omega)).trans y0'
  have y1 := (hb.cell (p := ⟨w4.heap.size, 1, none⟩) (by simp; omega)).trans y1'
  have HB7 := hide ((unhide HB6).trans (hb.mono (by omega)))
  have HX7 := hide ((unhide HX6).newOn hb)
  have HO7 := hide (ownsRow_below (unhide HO6) hb)
  have HG7 := hide (ownsRow_below (unhide HG6) hb)
  have hz7 := hb.size
  clear hb HB6 HX6 HO6 HG6 y0' y1'
  have r0 := (unhide HB7).cell (p := ⟨w.heap.size, 0, none⟩) (by simp; omega)
  have r1' := (unhide HB7).cell (p := ⟨w.heap.size, 1, none⟩) (by simp; omega)
  simp at r0 r1'
  have HT := hide (fun W (hW : Below w7.heap.size w7 W) => toRepo_any a l cap room W (((unhide HV).on ((unhide E0 _ _).trans ((unhide HB7).mono (by omega)))).on hW) hrs1)
  go_wp2_with fail
  go_cut [42] from 38 to 42 (fun s wx => s = .bool false ∧ Below w7.heap.size w7 wx)
  case first =>
    go_region_with (first
      | (go_at_call 7; refine (unhide HT _ ?_).mono ?_; exact (Below.refl _ _).drew; rintro e wA ⟨gA, rfl, hbA, hnA⟩; have hA : Below w7.heap.size w7 wA := (Below.refl w7.heap.size w7).drew.trans hbA; have a0 := (hA.cell (p := ⟨w4.heap.size, 0, none⟩) (by simp; omega)).trans y0; have a1 := (hA.cell (p := ⟨w4.heap.size, 1, none⟩) (by simp; omega)).trans y1; have HA := hide hA; have HNA := hide hnA.old; clear hbA hA hnA)
      | (go_at_call 11; refine (eqRepo_any _ _ l _ _ room _ ((unhide HX7).old.on (unhide HA)) (unhide HNA)).mono ?_; rintro e wC ⟨rfl, hbC⟩))
    all_goals (go_wp2_with fail; go_meet; exact ⟨rfl, below2 (unhide HA) hbC⟩)
  case rest =>
  obtain ⟨rfl, hb⟩ := hcut
  rename World => w8
  have y0' := (hb.cell (p := ⟨w4.heap.size, 0, none⟩) (by simp; omega)).trans y0
  have y1' := (hb.cell (p := ⟨w4.heap.size, 1, none⟩) (by simp; omega)).trans y1
  have HB8 := hide ((unhide HB7).trans (hb.mono (by omega)))
  have HX8 := hide ((unhide HX7).newOn hb)
  have HO8 := hide (ownsRow_below (unhide HO7) hb)
  have HG8 := hide (ownsRow_below (unhide HG7) hb)
  have hz8 := hb.size
  clear hb HB7 HX7 HO7 HG7 HT r0 r1' y0 y1
  go_wp2_with fail
  refine (markRepo_any w3 _ g2 l _ room (unhide HX8) hrs1).mono ?_
  rintro e w9 ⟨⟨r9, rfl, hr9⟩, hw9⟩
  have HB9 := hide ((unhide HB8).trans ((hw9.below (by omega)).mono (by omega)))
  have HO9 := hide (ownsRow_wrote (unhide HO8) hw9)
  have HG9 := hide (ownsRow_wrote (unhide HG8) hw9)
  have hz9 := hw9.size
  have hn9 : ¬ r9 < 0 := by omega
  clear hw9 HB8 HX8 HO8 HG8 y0' y1'
  go_wp2_with fail
  refine (eqIntS_any _ _ (hitsI q l room) _ (Ints.hits (unhide HG9)) (Ints.hits (unhide HO9))).mono ?_
  rintro e w10 ⟨rfl, hb⟩
  have HB10 := hide ((unhide HB9).trans (hb.mono (by omega)))
  have HO10 := hide (ownsRow_below (unhide HO9) hb)
  have HG10 := hide (ownsRow_below (unhide HG9) hb)
  have hz10 := hb.size
  clear hb HB9 HO9 HG9
  have hnn := hitsL_le q l room
  have hlen := hitsI_len q l room
  have HLEN := hide hlen
  clear hlen
  go_wp2_with fail
  refine (markIntS_any w5.heap.size _ (hitsI q l room) _ (by rw [hitsI_len, ← hitsI_vs]; exact unhide HG10) (by rw [unhide HLEN]; omega)).mono ?_
  rintro e w11 ⟨rfl, hg, ho⟩
  have HO11 := hide (World.ownsRow.kept (unhide HO10) hg (hits_apart (unhide HO6lt) (unhide HG10)))
  have HB11 := hide ((unhide HB10).grown hg (by omega) (fun j hj => Nat.le_trans (by omega) (World.ownsRow.lt (unhide HG10) j hj).1))
  have HG11 := hide (Ints.at ho (ups_length 1 _) (by rw [unhide HLEN]; omega))
  have HGO := hide ho
  have hz11 := hg.size
  clear hg ho HB10 HO10 HG10
  have hpos : ¬ ((1 : Int) + ((hitsI q l room).length : Int) < 0) := by omega
  go_wp2_with fail
  refine (heldIntS_any _ (hitsI q l room).length _ (unhide HG11)).mono ?_
  rintro e w12 ⟨rfl, hb⟩
  have HB12 := hide ((unhide HB11).trans (hb.mono (by omega)))
  have HO12 := hide (ownsRow_below (unhide HO11) hb)
  have HGO12 := hide (ownsRow_below (unhide HGO) hb)
  have hz12 := hb.size
  clear hb HB11 HO11 HG11 HGO
  have r0 := (unhide HB12).cell (p := ⟨w.heap.size, 0, none⟩) (by simp; omega)
  have r1' := (unhide HB12).cell (p := ⟨w.heap.size, 1, none⟩) (by simp; omega)
  have q0 := (unhide HB12).cell (p := ⟨w.heap.size + 1, 0, none⟩) (by simp)
  have q1 := (unhide HB12).cell (p := ⟨w.heap.size + 1, 1, none⟩) (by simp)
  have q2 := (unhide HB12).cell (p := ⟨w.heap.size + 1, 2, none⟩) (by simp)
  simp at r0 r1' q0 q1 q2
  have HT := hide (fun W (hW : Below w12.heap.size w12 W) => toRepo_any a l cap room W (((unhide HV).on ((unhide E0 _ _).trans ((unhide HB12).mono (by omega)))).on hW) hrs1)
  go_wp2_with fail
  go_cut [12] from 65 to 69 (fun s wx => Ints w12.heap.size wx s (hitsL q l room) ∧ Below w12.heap.size w12 wx)
  case first =>
    go_region_with (first
      | (go_at_call 7; refine (unhide HT _ ?_).mono ?_; exact (Below.refl _ _).drew; rintro e wA ⟨gA, rfl, hbA, hnA⟩; have hA : Below w12.heap.size w12 wA := (Below.refl w12.heap.size w12).drew.trans hbA; have a0 := (hA.cell (p := ⟨w.heap.size + 1, 0, none⟩) (by simp; omega)).trans q0; have a1 := (hA.cell (p := ⟨w.heap.size + 1, 1, none⟩) (by simp; omega)).trans q1; have a2 := (hA.cell (p := ⟨w.heap.size + 1, 2, none⟩) (by simp; omega)).trans q2; have HA := hide hA; have HNA := hide hnA.old; clear hbA hA hnA)
      | (go_at_call 8; refine (toReq_any q _).mono ?_; rintro e wB ⟨rfl, hbB⟩; have HBB := hide hbB; clear hbB)
      | (go_at_call 9; refine (implRepoHits_any q _ l _ room _ ((unhide HNA).on (unhide HBB))).mono ?_; rintro e wC ⟨⟨v2, rfl, hv2⟩, hbC⟩))
    all_goals (go_wp2_with fail; go_meet; exact ⟨ownsRow_base hv2 (Nat.le_trans (unhide HA).size (unhide HBB).size), below3 (unhide HA) (unhide HBB) hbC⟩)
  case rest =>
  obtain ⟨hv2, hb⟩ := hcut
  rename World => w13
  have HB13 := hide ((unhide HB12).trans (hb.mono (by omega)))
  have HO13 := hide (ownsRow_below (unhide HO12) hb)
  have HGO13 := hide (ownsRow_below (unhide HGO12) hb)
  have HH13 := hide hv2
  have hz13 := hb.size
  clear hb hv2 HB12 HO12 HGO12 HT r0 r1' q0 q1 q2
  go_wp2_with fail
  refine (eqIntS_any _ _ (hitsI q l room) _ (Ints.hits (unhide HH13)) (Ints.hits (unhide HO13))).mono ?_
  rintro e w14 ⟨rfl, hb⟩
  have HB14 := hide ((unhide HB13).trans (hb.mono (by omega)))
  have HG14 := hide (Ints.at (ownsRow_below (unhide HGO13) hb) (ups_length 1 _) (by rw [unhide HLEN]; omega))
  have hz14 := hb.size
  clear hb HB13 HO13 HGO13 HH13
  go_wp2_with fail
  refine (heldIntS_any _ (hitsI q l room).length _ (unhide HG14)).mono ?_
  rintro e w15 ⟨rfl, hb⟩
  have HB15 := hide ((unhide HB14).trans (hb.mono (by omega)))
  clear hb HB14 HG14
  go_wp2_with fail
  go_ret
  exact ⟨rfl, (unhide E0 _ _).trans ((unhide HB15).mono (by omega))⟩
end Go.Proofs.Ytlabpejmmkeacau
