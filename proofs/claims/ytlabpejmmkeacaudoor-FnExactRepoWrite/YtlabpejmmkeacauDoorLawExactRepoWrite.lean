/- The walk of the law FnExactRepoWrite: of every packs it answers true, and writes nothing that was there. -/
import Derived.Test.YtlabpejmmkeacauDoorSz
import Derived.Test.YtlabpejmmkeacauDoorEq
import Derived.Test.YtlabpejmmkeacauDoorImplW
import Derived.Test.YtlabpejmmkeacauDoorSpecW
import Derived.Deep.RegionWith
namespace Go.Proofs.YtlabpejmmkeacauDoor
set_option linter.unusedVariables false
set_option linter.unusedSimpArgs false
open Go.RowKit Go.Deep

theorem PacksAt.old {w w' : World} {a : Option Addr} {l : List PackD} (h : PacksAt (New w w') w' a l) : PacksAt (Old w') w' a l := h.wider fun _ _ hb => hb.2.lt

set_option maxHeartbeats 4000000 in
theorem law_any (a : Option Addr) (l : List PackD) (cap : Nat) (room : Int) (w : World) (h : PacksAt (Old w) w a l) (ht : Tab w) :
    Calls Tryd.prog 3 #[.agg #[.slice a l.length cap, .int .i64 room]] w fun e w' => e = .returned (.bool true) ∧ Below w.heap.size w w' := by
  have HV := hide h
  have HTab := hide ht
  clear h ht
  go_enter Tryd.func3, Tryd.ntmps3
  go_wp2_with fail
  refine (szRepo_any a l cap room 1048576 _ ((unhide HV).on ((Below.refl _ _).alloc (Nat.le_refl _) _)) (by omega) (by omega)).mono ?_
  rintro e w1 ⟨⟨r1, rfl, hr1⟩, hb⟩
  have x0 := hb.cell (p := ⟨w.heap.size, 0, none⟩) (by simp)
  have x1 := hb.cell (p := ⟨w.heap.size, 1, none⟩) (by simp)
  have hz := hb.size
  simp at x0 x1 hz
  have HB := hide (((Below.refl w.heap.size w).alloc (Nat.le_refl _) _).trans (hb.mono (by simp)))
  clear hb
  rcases hr1 with hr1 | ⟨hr10, hr11, hrs1⟩
  · go_wp2_with fail
    go_ret
    exact ⟨rfl, unhide HB⟩
  have hn1 : ¬ r1 < 0 := by omega
  go_wp2_with fail
  refine (toRepo_any a l cap room _ ((unhide HV).on (unhide HB)) hrs1).mono ?_
  rintro e w2 ⟨g1, rfl, hb, hn⟩
  rw [← hb.cell (p := ⟨w.heap.size, _, none⟩) (by simp; omega)] at x0 x1
  have hz2 := hb.size
  have hb1 := (unhide HB).trans (hb.mono (unhide HB).size)
  have HN := hide hn.old
  clear HB hn
  have HB := hide hb1
  clear hb hb1
  go_wp2_with fail
  refine (specRepoWrite_any _ l _ room _ (unhide HN)).mono ?_
  rintro e w3 ⟨rfl, hb⟩
  rw [← hb.cell (p := ⟨w.heap.size, _, none⟩) (by simp; omega)] at x0 x1
  have hz3 := hb.size
  have hb1 := (unhide HB).trans (hb.mono (unhide HB).size)
  clear HB HN
  have HB := hide hb1
  clear hb hb1
  go_wp2_with fail
  refine (toRepo_any a l cap room _ ((unhide HV).on (unhide HB)) hrs1).mono ?_
  rintro e w4 ⟨g2, rfl, hb, hn⟩
  rw [← hb.cell (p := ⟨w.heap.size, _, none⟩) (by simp; omega)] at x0 x1
  have hz4 := hb.size
  have hb1 := (unhide HB).trans (hb.mono (unhide HB).size)
  have HN := hide hn.old
  clear HB hn
  have HB := hide hb1
  clear hb hb1
  have HT4 := hide ((unhide HTab).on (unhide HB))
  obtain ⟨ws, hws⟩ : ∃ s, s = bs (writeL l room) := ⟨_, rfl⟩
  have HI := hide (fun (c2 : Nat) A => implRepoWrite_any _ l c2 room (w4.alloc A) ((unhide HN).on ((Below.refl _ _).alloc (Nat.le_refl _) _)) ((unhide HT4).on ((Below.refl _ _).alloc (Nat.le_refl _) _)))
  rw [← hws] at HI ⊢
  clear hws
  go_wp2_with fail
  refine (unhide HI _ _).mono ?_
  rintro e w5 ⟨rfl, hb⟩
  have y0 := hb.cell (p := ⟨w4.heap.size, 0, none⟩) (by simp)
  have y1 := hb.cell (p := ⟨w4.heap.size, 1, none⟩) (by simp)
  have z0 := (hb.cell (p := ⟨w.heap.size, 0, none⟩) (by simp; omega)).trans (((Below.refl w4.heap.size w4).alloc (Nat.le_refl _) _).cell (p := ⟨w.heap.size, 0, none⟩) (by simp; omega))
  have z1 := (hb.cell (p := ⟨w.heap.size, 1, none⟩) (by simp; omega)).trans (((Below.refl w4.heap.size w4).alloc (Nat.le_refl _) _).cell (p := ⟨w.heap.size, 1, none⟩) (by simp; omega))
  have hz5 := hb.size
  simp at y0 y1 hz5
  rw [← z0] at x0
  rw [← z1] at x1
  have hb4 := ((Below.refl w4.heap.size w4).alloc (Nat.le_refl _) _).trans (hb.mono (by simp))
  have hb1 := (unhide HB).trans (hb4.mono (unhide HB).size)
  have hn5 := (unhide HN).on hb4
  clear HB HN
  have HB := hide hb1
  have HN := hide hn5
  clear hb hb1 hb4 hn5 z0 z1
  have H6 := hide (fun W (hW : Below w5.heap.size w5 W) => toRepo_any a l cap room W (((unhide HV).on (unhide HB)).on hW) hrs1)
  go_wp2_with fail
  go_region_with (first
    | (go_at_call 6; refine (unhide H6 _ ?_).mono ?_; exact (Below.refl _ _).drew; rintro e w6 ⟨g3, rfl, hb6, hn6⟩; have hb6' : Below w5.heap.size w5 w6 := (Below.refl w5.heap.size w5).drew.trans hb6; have q0 := (hb6'.cell (p := ⟨w4.heap.size, 0, none⟩) (by simp; omega)).trans y0; have q1 := (hb6'.cell (p := ⟨w4.heap.size, 1, none⟩) (by simp; omega)).trans y1; have HB6 := hide hb6'; have HN6 := hide hn6.old; clear hb6 hb6' hn6)
    | (go_at_call 8; refine (eqRepo_any _ _ l _ _ room _ ((unhide HN).on (unhide HB6)) (unhide HN6)).mono ?_; rintro e w7 ⟨rfl, hb7⟩))
  all_goals
    go_wp2_with fail
    go_ret
    exact ⟨rfl, (unhide HB).trans (((unhide HB6).trans (hb7.mono (unhide HB6).size)).mono (unhide HB).size)⟩
end Go.Proofs.YtlabpejmmkeacauDoor
