/- The walk of the law FnExactCostOf: at every argument it answers true, and writes nothing that was there. -/
import Derived.Test.YthkhaemlcmkkjaySz
import Derived.Test.YthkhaemlcmkkjayEq
import Derived.Test.YthkhaemlcmkkjayToS
import Derived.Test.YthkhaemlcmkkjayCostA
import Derived.Test.YthkhaemlcmkkjayCostS
import Derived.Deep.RegionWith
namespace Go.Proofs.Ythkhaemlcmkkjay
set_option linter.unusedVariables false
set_option linter.unusedSimpArgs false
open Go.RowKit Go.Deep

theorem PacksAt.old {w w' : World} {a : Option Addr} {l : List PackD} (h : PacksAt (New w w') w' a l) : PacksAt (Old w') w' a l := h.wider fun _ _ hb => hb.2.lt
/-- The worlds of a region that copies packs. -/
structure CR (W : World) (l : List PackD) (room : Int) (b : Bool) (us : List Value) (x : World) : Prop where
  below : Below W.heap.size W x
  copy : ∀ y, us = [y] → ∃ g : Nat, y = .agg #[.slice (some ⟨g, 0, none⟩) l.length l.length, .int .i64 room] ∧ PacksAt (Old x) x (some ⟨g, 0, none⟩) l
theorem CR.on {W x x' : World} {l : List PackD} {room : Int} {b b' : Bool} {us : List Value} (h : CR W l room b us x) (hb : Below x.heap.size x x') : CR W l room b' us x' := ⟨h.below.trans (hb.mono h.below.size), fun y hy => by
  obtain ⟨g, e, hp⟩ := h.copy y hy
  exact ⟨g, e, hp.on hb⟩⟩
set_option maxRecDepth 100000 in
set_option maxHeartbeats 8000000 in
theorem law_any (a : Option Addr) (l : List PackD) (cap : Nat) (room : Int) (s : StepD) (w : World) (h : PacksAt (Old w) w a l) :
    Calls Try.prog 4 #[.agg #[.slice a l.length cap, .int .i64 room], .agg #[.int .i64 s.kind, .int .i64 s.inn, .int .i64 s.out]] w fun e w' => e = .returned (.bool true) ∧ Below w.heap.size w w' := by
  have HV := hide h
  clear h
  go_enter Try.func4, Try.ntmps4
  have bA := ((Below.refl w.heap.size w).alloc (Nat.le_refl _) (.cells #[.slice a l.length cap, .int .i64 room] 24)).alloc (by simp) (.cells #[.int .i64 s.kind, .int .i64 s.inn, .int .i64 s.out] 42)
  go_wp2_with fail
  refine (szRepo_any a l cap room 1048576 _ ((unhide HV).on bA) (by omega) (by omega)).mono ?_
  rintro e w1 ⟨⟨r1, rfl, hr1⟩, hb⟩
  have x0 := hb.cell (p := ⟨w.heap.size, 0, none⟩) (by simp; omega)
  have x1 := hb.cell (p := ⟨w.heap.size, 1, none⟩) (by simp; omega)
  have s0 := hb.cell (p := ⟨w.heap.size + 1, 0, none⟩) (by simp)
  have s1 := hb.cell (p := ⟨w.heap.size + 1, 1, none⟩) (by simp)
  have s2 := hb.cell (p := ⟨w.heap.size + 1, 2, none⟩) (by simp)
  have hz := hb.size
  simp at x0 x1 s0 s1 s2 hz
  have HB := hide (bA.trans (hb.mono (by simp; omega)))
  clear hb bA
  rcases hr1 with hr1 | ⟨hr10, hr11, hrs1⟩
  · go_wp2_with fail
    go_ret
    exact ⟨rfl, unhide HB⟩
  have hn1 : ¬ r1 < 0 := by omega
  obtain ⟨cz, hcz⟩ : ∃ cz, cz = costZ l room s := ⟨_, rfl⟩
  have HCZ := hide hcz.symm
  clear hcz
  have HTR := hide (fun x (hx : Below w1.heap.size w1 x) => toRepo_any a l cap room x (((unhide HV).on (unhide HB)).on hx) hrs1)
  have hk0 : w.heap.size < w1.heap.size := by omega
  have hk1 : w.heap.size + 1 < w1.heap.size := by omega
  go_upto_region 5 with fail
  refine wp_region_mix (k := 100) 4 [1] [.agg #[.slice a l.length cap, .int .i64 room], undef, .agg #[.int .i64 s.kind, .int .i64 s.inn, .int .i64 s.out], .agg #[.int .i64 s.kind, .int .i64 s.inn, .int .i64 s.out]] (CR w1 l room) (by kernel_rfl) (by kernel_rfl) (by kernel_rfl) (by kernel_rfl) (by kernel_rfl) (by kernel_rfl) ⟨(Below.refl _ _).drew, (fun y h => by cases h)⟩ ?_ ?_ ?_
  · intro full hfull i oo hi hns ho x fl us hC hb
    simp [putAll, slotOf, Act.put] at hfull
    subst hfull
    have bx := hC.below
    rw [← bx.cell (p := ⟨w.heap.size, _, none⟩) hk0] at x0 x1
    rw [← bx.cell (p := ⟨w.heap.size + 1, _, none⟩) hk1] at s0 s1 s2
    have hC0 := hC.on (b' := fl) (Below.refl _ _)
    match i with
    | 0 => simp at ho; subst ho; simp [gwp, Region.wanted, yielded]; go_simp; first | done | exact hC0 | exact ⟨rfl, hC0⟩ | (simp; exact hC0)
    | 1 => simp at hns
    | 2 => simp at ho; subst ho; simp [gwp, Region.wanted, yielded]; go_simp; first | done | exact hC0 | exact ⟨rfl, hC0⟩ | (simp; exact hC0)
    | 3 =>
      simp at ho; subst ho; simp [gwp, Region.wanted, yielded]; go_simp
      refine (toStep_any s x).mono ?_
      rintro e w' ⟨rfl, hb2⟩
      go_simp
      first | done | exact hC.on hb2 | exact ⟨rfl, hC.on hb2⟩ | (simp; exact hC.on hb2)
    | i + 4 => omega
  · intro full hfull us j hj o ho x b hC
    simp [putAll, slotOf, Act.put] at hfull
    subst hfull
    match us with
    | [] =>
      simp at hj
      subst hj
      simp at ho
      subst ho
      have bx := hC.below
      simp [gwp, Region.wanted, yielded, putP]
      go_simp
      refine (unhide HTR x bx).mono ?_
      rintro e w' ⟨g, rfl, hb2, hn2⟩
      go_simp
      have hC2 := hC.on (b' := b) hb2
      refine ⟨hC2.below, fun z hz => ?_⟩
      cases hz
      exact ⟨g, rfl, hn2.old⟩
    | _ :: _ => simp at hj
  intro full hfull us w2 hus hC
  simp [putAll, slotOf, Act.put] at hfull
  subst hfull
  match us, hus with
  | [y], _ =>
  obtain ⟨g1, hy, hp1⟩ := hC.copy y rfl
  subst hy
  have hb := hC.below
  have HCO := hide (specCostOf_any _ l l.length room s _ hp1)
  rw [unhide HCZ] at HCO
  clear hC hp1
  rw [← hb.cell (p := ⟨w.heap.size, _, none⟩) (by simp; omega)] at x0 x1
  rw [← hb.cell (p := ⟨w.heap.size + 1, _, none⟩) (by simp; omega)] at s0 s1 s2
  have hz2 := hb.size
  have hb1 := (unhide HB).trans (hb.mono (unhide HB).size)
  clear HB 
  have HB := hide hb1
  clear hb hb1
  simp [putP, slotOf, Act.put]
  go_wp2_with fail
  refine (unhide HCO).mono ?_
  rintro e w3 ⟨rfl, hb⟩
  clear HCO HTR
  rw [← hb.cell (p := ⟨w.heap.size, _, none⟩) (by simp; omega)] at x0 x1
  rw [← hb.cell (p := ⟨w.heap.size + 1, _, none⟩) (by simp; omega)] at s0 s1 s2
  have hz3 := hb.size
  have hb1 := (unhide HB).trans (hb.mono (unhide HB).size)
  clear HB 
  have HB := hide hb1
  clear hb hb1
  go_wp2_with fail
  refine (toRepo_any a l cap room _ ((unhide HV).on (unhide HB)) hrs1).mono ?_
  rintro e w4 ⟨g2, rfl, hb, hn⟩
  rw [← hb.cell (p := ⟨w.heap.size, _, none⟩) (by simp; omega)] at x0 x1
  rw [← hb.cell (p := ⟨w.heap.size + 1, _, none⟩) (by simp; omega)] at s0 s1 s2
  have hz4 := hb.size
  have hb1 := (unhide HB).trans (hb.mono (unhide HB).size)
  have HN := hide hn.old
  clear hn
  clear HB 
  have HB := hide hb1
  clear hb hb1
  go_upto_region 7 with fail
  obtain ⟨w4b, hw4b⟩ : ∃ w4b, w4b = w4.alloc (.cells #[.slice (some ⟨g2, 0, none⟩) l.length l.length, .int .i64 room] 31) := ⟨_, rfl⟩
  rw [← hw4b]
  have hb : Below w4.heap.size w4 w4b := by rw [hw4b]; exact (Below.refl _ _).alloc (Nat.le_refl _) _
  have y0 : w4b.cell? ⟨w4.heap.size, 0, none⟩ = some (.slice (some ⟨g2, 0, none⟩) l.length l.length) := by rw [hw4b]; simp
  have y1 : w4b.cell? ⟨w4.heap.size, 1, none⟩ = some (.int .i64 room) := by rw [hw4b]; simp
  have hlt4 : w4.heap.size < w4b.heap.size := by rw [hw4b]; simp
  clear hw4b
  rw [← hb.cell (p := ⟨w.heap.size, _, none⟩) (by simp; omega)] at x0 x1
  rw [← hb.cell (p := ⟨w.heap.size + 1, _, none⟩) (by simp; omega)] at s0 s1 s2
  have hz4b := hb.size
  have hb1 := (unhide HB).trans (hb.mono (unhide HB).size)
  have HN4 := hide ((unhide HN).on hb)
  clear HB HN
  have HB := hide hb1
  clear hb hb1
  have HCI := hide (fun x (hx : Below w4b.heap.size w4b x) => implCostOf_any _ l l.length room s x ((unhide HN4).on hx))
  rw [unhide HCZ] at HCI
  have hk2 : w.heap.size + 1 < w4b.heap.size := by omega
  refine wp_region_mix (k := 100) 4 [] [.agg #[.slice (some ⟨g2, 0, none⟩) l.length l.length, .int .i64 room], .agg #[.int .i64 s.kind, .int .i64 s.inn, .int .i64 s.out], .agg #[.int .i64 s.kind, .int .i64 s.inn, .int .i64 s.out], .int .i64 cz] (CZ w4b) (by kernel_rfl) (by kernel_rfl) (by kernel_rfl) (by kernel_rfl) (by kernel_rfl) (by kernel_rfl) ⟨(Below.refl _ _).drew⟩ ?_ ?_ ?_
  · intro full hfull i oo hi hns ho x fl us hC hb
    simp [putAll, slotOf, Act.put] at hfull
    subst hfull
    have bx := hC.below
    rw [← bx.cell (p := ⟨w4.heap.size, _, none⟩) hlt4] at y0 y1
    rw [← bx.cell (p := ⟨w.heap.size + 1, _, none⟩) hk2] at s0 s1 s2
    have hC0 := hC.on (b' := fl) (Below.refl _ _)
    match i with
    | 0 => simp at ho; subst ho; simp [gwp, Region.wanted, yielded]; go_simp; first | done | exact hC0 | exact ⟨rfl, hC0⟩ | (simp; exact hC0)
    | 1 => simp at ho; subst ho; simp [gwp, Region.wanted, yielded]; go_simp; first | done | exact hC0 | exact ⟨rfl, hC0⟩ | (simp; exact hC0)
    | 2 =>
      simp at ho; subst ho; simp [gwp, Region.wanted, yielded]; go_simp
      refine (toStep_any s x).mono ?_
      rintro e w' ⟨rfl, hb2⟩
      go_simp
      first | done | exact hC.on hb2 | exact ⟨rfl, hC.on hb2⟩ | (simp; exact hC.on hb2)
    | 3 =>
      simp at ho; subst ho; simp [gwp, Region.wanted, yielded]; go_simp
      refine (unhide HCI x bx).mono ?_
      rintro e w' ⟨rfl, hb2⟩
      go_simp
      first | done | exact hC.on hb2 | exact ⟨rfl, hC.on hb2⟩ | (simp; exact hC.on hb2)
    | i + 4 => omega
  · intro full hfull us j hj
    simp at hj
  intro full hfull us w5 hus hC
  simp [putAll, slotOf, Act.put] at hfull
  subst hfull
  match us, hus with
  | [], _ =>
  have hb := hC.below
  clear hC HCI
  rw [← hb.cell (p := ⟨w.heap.size, _, none⟩) (by simp; omega)] at x0 x1
  rw [← hb.cell (p := ⟨w.heap.size + 1, _, none⟩) (by simp; omega)] at s0 s1 s2
  rw [← hb.cell (p := ⟨w4.heap.size, _, none⟩) (by simp; omega)] at y0 y1
  have hz5 := hb.size
  have hb1 := (unhide HB).trans (hb.mono (unhide HB).size)
  have HN := hide ((unhide HN4).on hb)
  clear HB HN4
  have HB := hide hb1
  clear hb hb1
  simp [putP]
  have H6 := hide (fun W (hW : Below w5.heap.size w5 W) => toRepo_any a l cap room W (((unhide HV).on (unhide HB)).on hW) hrs1)
  go_wp2_with fail
  go_region_with (first
    | (go_at_call 8; refine (unhide H6 _ ?_).mono ?_; exact (Below.refl _ _).drew; rintro e w6 ⟨g3, rfl, hb6, hn6⟩; have hb6' : Below w5.heap.size w5 w6 := (Below.refl w5.heap.size w5).drew.trans hb6; have q0 := (hb6'.cell (p := ⟨w4.heap.size, 0, none⟩) (by simp; omega)).trans y0; have q1 := (hb6'.cell (p := ⟨w4.heap.size, 1, none⟩) (by simp; omega)).trans y1; have HB6 := hide hb6'; have HN6 := hide hn6.old; clear hb6 hb6' hn6)
    | (go_at_call 12; refine (eqRepo_any _ _ l _ _ room _ ((unhide HN).on (unhide HB6)) (unhide HN6)).mono ?_; rintro e w7 ⟨rfl, hb7⟩))
  all_goals
    have HB7 := hide ((unhide HB6).trans (hb7.mono (unhide HB6).size))
    have HBB := hide ((unhide HB).trans ((unhide HB7).mono (unhide HB).size))
    clear hb7
    go_wp2_with fail
    go_ret
    exact ⟨rfl, unhide HBB⟩
end Go.Proofs.Ythkhaemlcmkkjay
