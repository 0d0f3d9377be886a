/- The walk of the law FnExactCoreCount: at every argument it answers true, and writes nothing that was there. -/
import Derived.Test.YthkhaemlcmkkjatGCn
import Derived.Test.YthkhaemlcmkkjatCoE
import Derived.Deep.RegionWith
namespace Go.Proofs.Ythkhaemlcmkkjat
set_option linter.unusedVariables false
set_option linter.unusedSimpArgs false
open Go.RowKit Go.Deep

set_option maxRecDepth 10000 in
set_option maxHeartbeats 8000000 in
theorem exactcount_law (vars : Int) (a : Option Addr) (l : List (List Int)) (cap : Nat) (w : World) (h : ClsRaw w a l) :
    Calls Try.prog 6 #[.agg #[.int .i64 vars, .slice a l.length cap]] w fun e w' => e = .returned (.bool true) ∧ Below w.heap.size w w' := by
  have HV := hide h
  clear h
  go_enter Try.func6, Try.ntmps6
  go_wp2_with fail
  refine (szCnf_any vars a l cap 1048576 _ ((unhide HV).on ((Below.refl _ _).alloc (Nat.le_refl _) _)) (by omega) (by omega)).mono ?_
  rintro e w1 ⟨⟨r1, rfl, hr1⟩, hb⟩
  have x0 := hb.cell (p := ⟨w.heap.size, 0, none⟩) (by simp)
  have x1 := hb.cell (p := ⟨w.heap.size, 1, none⟩) (by simp)
  have hz := hb.size
  simp at x0 x1 hz
  have HB := hide (((Below.refl w.heap.size w).alloc (Nat.le_refl _) _).trans (hb.mono (by simp)))
  clear hb
  rcases hr1 with hr1 | ⟨hr10, hr11, hrs1⟩
  · go_wp2_with fail
    go_ret
    exact ⟨rfl, unhide HB⟩
  have hn1 : ¬ r1 < 0 := by omega
  have HC := hide ((unhide HV).cls hrs1)
  clear HV hrs1
  go_wp2_with fail
  refine (toCnf_any vars a l cap _ ((unhide HC).on (unhide HB))).mono ?_
  rintro e w2 ⟨g1, rfl, hb, hn⟩
  rw [← hb.cell (p := ⟨w.heap.size, _, none⟩) (by simp; omega)] at x0 x1
  have hz2 := hb.size
  have hb1 := (unhide HB).trans (hb.mono (unhide HB).size)
  have HN := hide hn.cls
  clear HB hn
  have HB := hide hb1
  clear hb hb1
  go_wp2_with fail
  refine (specCoreCount_any vars _ l _ _ (unhide HN)).mono ?_
  rintro e w3 ⟨rfl, hb⟩
  rw [← hb.cell (p := ⟨w.heap.size, _, none⟩) (by simp; omega)] at x0 x1
  have hz3 := hb.size
  have hb1 := (unhide HB).trans (hb.mono (unhide HB).size)
  clear HB HN
  have HB := hide hb1
  clear hb hb1
  go_wp2_with fail
  refine (toCnf_any vars a l cap _ ((unhide HC).on (unhide HB))).mono ?_
  rintro e w4 ⟨g2, rfl, hb, hn⟩
  rw [← hb.cell (p := ⟨w.heap.size, _, none⟩) (by simp; omega)] at x0 x1
  have hz4 := hb.size
  have hb1 := (unhide HB).trans (hb.mono (unhide HB).size)
  have HN := hide hn.cls
  clear HB hn
  have HB := hide hb1
  clear hb hb1
  go_wp2_with fail
  have bX := (Below.refl w4.heap.size w4).alloc (Nat.le_refl _) (.cells #[.int .i64 vars, .slice (some ⟨g2, 0, none⟩) l.length l.length] 29)
  refine (implCoreCount_any vars _ l _ _ ((unhide HN).on bX)).mono ?_
  rintro e w5 ⟨rfl, hb⟩
  have y0 := hb.cell (p := ⟨w4.heap.size, 0, none⟩) (by simp)
  have y1 := hb.cell (p := ⟨w4.heap.size, 1, none⟩) (by simp)
  have hb4 := bX.trans (hb.mono (by simp))
  rw [← hb4.cell (p := ⟨w.heap.size, _, none⟩) (by simp; omega)] at x0 x1
  have hz5 := hb.size
  simp at y0 y1 hz5
  have hb1 := (unhide HB).trans (hb4.mono (unhide HB).size)
  have hn5 := (unhide HN).on hb4
  clear HB HN bX
  have HB := hide hb1
  have HN := hide hn5
  clear hb hb1 hb4 hn5
  have H6 := hide (fun W (hW : Below w5.heap.size w5 W) => toCnf_any vars a l cap W (((unhide HC).on (unhide HB)).on hW))
  go_wp2_with fail
  go_region_with (first
    | (go_at_call 11; refine (unhide H6 _ ?_).mono ?_; exact (Below.refl _ _).drew; rintro e w6 ⟨g3, rfl, hb6, hn6⟩; have hb6' : Below w5.heap.size w5 w6 := (Below.refl w5.heap.size w5).drew.trans hb6; have q0 := (hb6'.cell (p := ⟨w4.heap.size, 0, none⟩) (by simp; omega)).trans y0; have q1 := (hb6'.cell (p := ⟨w4.heap.size, 1, none⟩) (by simp; omega)).trans y1; have HB6 := hide hb6'; have HN6 := hide hn6.cls; clear hb6 hb6' hn6)
    | (go_at_call 15; refine (eqCnf_same vars _ _ l _ _ _ ((unhide HN).on (unhide HB6)) (unhide HN6)).mono ?_; rintro e w7 ⟨rfl, hb7⟩))
  all_goals
    have HB7 := hide ((unhide HB6).trans (hb7.mono (unhide HB6).size))
    have HBB := hide ((unhide HB).trans ((unhide HB7).mono (unhide HB).size))
    clear hb7
    go_wp2_with fail
    go_ret
    exact ⟨rfl, unhide HBB⟩
end Go.Proofs.Ythkhaemlcmkkjat
