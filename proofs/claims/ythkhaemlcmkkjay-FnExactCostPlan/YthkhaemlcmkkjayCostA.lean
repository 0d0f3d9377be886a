/- The program's CostOf and CostPlan. -/
import Derived.Test.YthkhaemlcmkkjayCostP
import Derived.Test.YthkhaemlcmkkjayMoveA
import Derived.Test.YthkhaemlcmkkjayGMv
import Derived.Test.YthkhaemlcmkkjayGMw
import Derived.Test.YthkhaemlcmkkjayGStO
import Derived.Test.YthkhaemlcmkkjayGImpl
import Derived.Test.YthkhaemlcmkkjayGPd
import Derived.Deep.QuietTactic
namespace Go.Proofs.Ythkhaemlcmkkjay
set_option linter.unusedVariables false
set_option linter.unusedSimpArgs false
open Go.RowKit Go.Deep

theorem goes_place {l : List PackD} {m : MvD} (hm : m.within l.length) (h8 : l.length ≤ 8) : ∀ p ∈ placesTo m.goes 8, p < l.length := by
  cases m with
  | put i =>
    intro p hp
    have e : placesTo (MvD.put i).goes 8 = [] := by simp [placesTo, MvD.goes]
    rw [e] at hp
    cases hp
  | take o =>
    have h : o < l.length := hm
    intro p hp
    rw [show (MvD.take o).goes = 2 ^ o from rfl, places_pow (by omega)] at hp
    simp at hp
    omega
  | swap i o =>
    have h : i < l.length ∧ o < l.length := hm
    intro p hp
    rw [show (MvD.swap i o).goes = 2 ^ o from rfl, places_pow (by omega)] at hp
    simp at hp
    omega
set_option maxRecDepth 100000 in
set_option maxHeartbeats 4000000 in
theorem moved_any (l : List PackD) (room : Int) (V : Value) (m : MvD) (hm : m.within l.length) (hok : OkL l) (w : World) (h : Stock w V l room) :
    Calls Try.prog 66 #[V, m.val] w fun e w' => e = .returned (.int .i64 (m.cost l)) ∧ Below w.heap.size w w' := by
  have hf := within_fine hm hok.l8
  obtain ⟨T, X, Fg, Fc, M⟩ := mv_meth m hf
  obtain ⟨hgl, hcl⟩ := fine_bits hf
  obtain ⟨a, cap, bm, v, rfl, hP, ⟨⟨xa, xc, rfl⟩, hA⟩⟩ := h
  have HPP := hide hP
  have hpc := comes_place hm
  have hpg := goes_place hm hok.l8
  have hbg := sumP_bound hpg hok.size (placesTo m.goes 8).length (Nat.le_refl _)
  have hbc := sumP_bound hpc hok.size (placesTo m.comes 8).length (Nat.le_refl _)
  have hp1 := places_le m.goes 8
  have hp2 := places_le m.comes 8
  have hwr : IntKind.i64.wrap (sumP l (placesTo m.comes 8) (placesTo m.comes 8).length + sumP l (placesTo m.goes 8) (placesTo m.goes 8).length) = sumP l (placesTo m.comes 8) (placesTo m.comes 8).length + sumP l (placesTo m.goes 8) (placesTo m.goes 8).length := by rw [IntKind.wrap_i64]; omega
  have HR := hide (show m.cost l = sumP l (placesTo m.comes 8) (placesTo m.comes 8).length + sumP l (placesTo m.goes 8) (placesTo m.goes 8).length from rfl)
  have HZ10 := hide (fun x (hx : Below w.heap.size w x) => size_any m.comes hcl a l cap room (.map (some bm)) (.slice xa l.length xc) ⟨_, _, _, rfl⟩ rfl x ((unhide HPP).on hx) hpc hok.size)
  have HZ20 := hide (fun x (hx : Below w.heap.size w x) => size_any m.goes hgl a l cap room (.map (some bm)) (.slice xa l.length xc) ⟨_, _, _, rfl⟩ rfl x ((unhide HPP).on hx) hpg hok.size)
  have HCG0 := hide M.cg
  have HCC0 := hide M.cc
  rw [M.val]
  have mg := M.mg
  have mc := M.mc
  have eg := M.eg
  have ec := M.ec
  clear M hA hP hok hm hf hpc hpg hbg hbc hp1 hp2 HPP hgl hcl
  generalize m.cost l = R at HR
  generalize sumP l (placesTo m.comes 8) (placesTo m.comes 8).length = z1 at hwr HR HZ10
  generalize sumP l (placesTo m.goes 8) (placesTo m.goes 8).length = z2 at hwr HR HZ20
  generalize m.goes = g at HCG0 HZ20
  generalize m.comes = c at HCC0 HZ10
  go_enter Try.func66, Try.ntmps66
  go_upto_region 1 with fail
  obtain ⟨W, hW⟩ : ∃ W, W = w.alloc (.cells #[.slice a l.length cap, .int .i64 room, .map (some bm), .slice xa l.length xc] 68) := ⟨_, rfl⟩
  rw [← hW]
  have bW : Below w.heap.size w W := by rw [hW]; exact (Below.refl _ _).alloc (Nat.le_refl _) _
  have x0 : W.cell? ⟨w.heap.size, 0, none⟩ = some (.slice a l.length cap) := by rw [hW]; simp
  have x1 : W.cell? ⟨w.heap.size, 1, none⟩ = some (.int .i64 room) := by rw [hW]; simp
  have x2 : W.cell? ⟨w.heap.size, 2, none⟩ = some (.map (some bm)) := by rw [hW]; simp
  have x3 : W.cell? ⟨w.heap.size, 3, none⟩ = some (.slice xa l.length xc) := by rw [hW]; simp
  have hltW : w.heap.size < W.heap.size := by rw [hW]; simp
  have HBW := hide bW
  clear hW bW
  have HCG := hide (fun x (hx : Below W.heap.size W x) => unhide HCG0 x)
  have HCC := hide (fun x (hx : Below W.heap.size W x) => unhide HCC0 x)
  have HZ1 := hide (fun x (hx : Below W.heap.size W x) => unhide HZ10 x ((unhide HBW).trans (hx.mono (unhide HBW).size)))
  have HZ2 := hide (fun x (hx : Below W.heap.size W x) => unhide HZ20 x ((unhide HBW).trans (hx.mono (unhide HBW).size)))
  clear HCG0 HCC0 HZ10 HZ20
  refine wp_region_mix (k := 100) 9 [] [.agg #[.slice a l.length cap, .int .i64 room, .map (some bm), .slice xa l.length xc], .iface T X, .int .u64 ((c : Nat) : Int), .int .i64 z1, .agg #[.slice a l.length cap, .int .i64 room, .map (some bm), .slice xa l.length xc], .iface T X, .int .u64 ((g : Nat) : Int), .int .i64 z2, .int .i64 (z1 + z2)] (CZ W) (by kernel_rfl) (by kernel_rfl) (by kernel_rfl) (by kernel_rfl) (by kernel_rfl) (by kernel_rfl) ⟨(Below.refl _ _).drew⟩ ?_ ?_ ?_
  · intro full hfull i oo hi hns ho x fl us hC hb
    simp [putAll, slotOf, Act.put] at hfull
    subst hfull
    have bx := hC.below
    rw [← bx.cell (p := ⟨w.heap.size, _, none⟩) hltW] at x0 x1 x2 x3
    have hC0 := hC.on (b' := fl) (Below.refl _ _)
    match i with
    | 0 => simp at ho; subst ho; simp [gwp, Region.wanted, yielded]; go_simp; first | done | exact hC0 | exact ⟨rfl, hC0⟩ | (simp; exact hC0)
    | 1 => simp at ho; subst ho; simp [gwp, Region.wanted, yielded]; go_simp; first | done | exact hC0 | exact ⟨rfl, hC0⟩ | (simp; exact hC0)
    | 2 =>
      simp at ho; subst ho; simp [gwp, Region.wanted, yielded]; go_simp
      refine (unhide HCC x bx).mono ?_
      rintro e w' ⟨rfl, hb2⟩
      go_simp
      first | done | exact hC.on hb2 | exact ⟨rfl, hC.on hb2⟩ | (simp; exact hC.on hb2)
    | 3 =>
      simp at ho; subst ho; simp [gwp, Region.wanted, yielded]; go_simp
      refine (unhide HZ1 x bx).mono ?_
      rintro e w' ⟨rfl, hb2⟩
      go_simp
      first | done | exact hC.on hb2 | exact ⟨rfl, hC.on hb2⟩ | (simp; exact hC.on hb2)
    | 4 => simp at ho; subst ho; simp [gwp, Region.wanted, yielded]; go_simp; first | done | exact hC0 | exact ⟨rfl, hC0⟩ | (simp; exact hC0)
    | 5 => simp at ho; subst ho; simp [gwp, Region.wanted, yielded]; go_simp; first | done | exact hC0 | exact ⟨rfl, hC0⟩ | (simp; exact hC0)
    | 6 =>
      simp at ho; subst ho; simp [gwp, Region.wanted, yielded]; go_simp
      refine (unhide HCG x bx).mono ?_
      rintro e w' ⟨rfl, hb2⟩
      go_simp
      first | done | exact hC.on hb2 | exact ⟨rfl, hC.on hb2⟩ | (simp; exact hC.on hb2)
    | 7 =>
      simp at ho; subst ho; simp [gwp, Region.wanted, yielded]; go_simp
      refine (unhide HZ2 x bx).mono ?_
      rintro e w' ⟨rfl, hb2⟩
      go_simp
      first | done | exact hC.on hb2 | exact ⟨rfl, hC.on hb2⟩ | (simp; exact hC.on hb2)
    | 8 => simp at ho; subst ho; simp [gwp, Region.wanted, yielded]; go_simp; first | done | exact hC0 | exact ⟨rfl, hC0⟩ | (simp; exact hC0)
    | i + 9 => omega
  · intro full hfull us j hj
    simp at hj
  · intro full hfull us wz hus hC
    simp [putAll, slotOf, Act.put] at hfull
    subst hfull
    match us, hus with
    | [], _ =>
    have HBz := hide ((unhide HBW).trans (hC.below.mono (unhide HBW).size))
    clear hC
    simp [putP]
    go_wp2_with fail
    go_ret
    exact ⟨retI (unhide HR).symm, unhide HBz⟩

set_option maxRecDepth 100000 in
set_option maxHeartbeats 4000000 in
theorem cost_of (l : List PackD) (room : Int) (V : Value) (s : StepD) (hr : repoB ⟨l, room⟩ = true) (w : World) (h : Stock w V l room) :
    Calls Try.prog 39 #[V, .agg #[.int .i64 s.kind, .int .i64 s.inn, .int .i64 s.out]] w fun e w' => e = .returned (.int .i64 (costZ l room s)) ∧ Below w.heap.size w w' := by
  have hok := OkL.of hr
  have HST := hide h
  obtain ⟨a, cap, bm, v, rfl, hP, ⟨⟨xa, xc, rfl⟩, hA⟩⟩ := h
  clear hP hA
  have HCZ := hide (costZ_ok s hr)
  have HMW : Hid (∀ m, (movesL l).find? (fun m => eqS m.step s) = some m → m.within l.length) := fun m hm => moves_within hok.l8 (find_step hm).1
  clear hr
  go_enter Try.func39, Try.ntmps39
  go_upto_region 1 with fail
  obtain ⟨w0, hw0⟩ : ∃ w0, w0 = (w.alloc (.cells #[.slice a l.length cap, .int .i64 room, .map (some bm), .slice xa l.length xc] 68)).alloc (.cells #[.int .i64 s.kind, .int .i64 s.inn, .int .i64 s.out] 44) := ⟨_, rfl⟩
  rw [← hw0]
  have b0 : Below w.heap.size w w0 := by rw [hw0]; exact ((Below.refl _ _).alloc (Nat.le_refl _) _).alloc (by simp) _
  have z0 : w.heap.size + 1 < w0.heap.size := by rw [hw0]; simp
  have x0 : w0.cell? ⟨w.heap.size, 0, none⟩ = some (.slice a l.length cap) := by rw [hw0]; simp
  have x1 : w0.cell? ⟨w.heap.size, 1, none⟩ = some (.int .i64 room) := by rw [hw0]; simp
  have x2 : w0.cell? ⟨w.heap.size, 2, none⟩ = some (.map (some bm)) := by rw [hw0]; simp
  have x3 : w0.cell? ⟨w.heap.size, 3, none⟩ = some (.slice xa l.length xc) := by rw [hw0]; simp
  have s0 : w0.cell? ⟨w.heap.size + 1, 0, none⟩ = some (.int .i64 s.kind) := by rw [hw0]; simp
  have s1 : w0.cell? ⟨w.heap.size + 1, 1, none⟩ = some (.int .i64 s.inn) := by rw [hw0]; simp
  have s2 : w0.cell? ⟨w.heap.size + 1, 2, none⟩ = some (.int .i64 s.out) := by rw [hw0]; simp
  have HB0 := hide b0
  clear hw0 b0
  have HMO := hide (moveOf_any l room _ s hok.l8 w0 ((unhide HST).on (unhide HB0)))
  generalize (movesL l).find? (fun m => eqS m.step s) = fd at HCZ HMW HMO
  cases fd with
  | none =>
    simp only [moveV] at HMO HCZ
    clear HMW HST
    go_wp2_with fail
    refine (unhide HMO).mono ?_
    rintro e w3 ⟨rfl, b3⟩
    have HB3 := hide ((unhide HB0).trans (b3.mono (unhide HB0).size))
    clear b3 HMO HB0 x0 x1 x2 x3 s0 s1 s2
    go_wp2_with fail
    go_ret
    exact ⟨retI (unhide HCZ).symm, unhide HB3⟩
  | some m =>
    have hmw := unhide HMW m rfl
    have hv : ∃ T X, m.val = .iface T X := by cases m <;> exact ⟨_, _, rfl⟩
    obtain ⟨T, X, hv⟩ := hv
    simp only [moveV] at HMO HCZ
    rw [hv] at HMO
    clear HMW
    go_wp2_with fail
    refine (unhide HMO).mono ?_
    rintro e w3 ⟨rfl, b3⟩
    have hz3 := b3.size
    have HB3 := hide ((unhide HB0).trans (b3.mono (unhide HB0).size))
    rw [← b3.cell (p := ⟨w.heap.size, _, none⟩) (by simp; omega)] at x0 x1 x2 x3
    have HMD := hide (moved_any l room _ m hmw hok w3 ((unhide HST).on (unhide HB3)))
    rw [hv] at HMD
    clear b3 HMO HB0 s0 s1 s2 hv hmw hok HST
    go_wp2_with fail
    refine (unhide HMD).mono ?_
    rintro e w4 ⟨rfl, b4⟩
    have HB4 := hide ((unhide HB3).trans (b4.mono (unhide HB3).size))
    clear b4 HMD HB3
    go_wp2_with fail
    go_ret
    exact ⟨retI (unhide HCZ).symm, unhide HB4⟩

/-- The worlds of a region that makes a stock. -/
structure CK (W : World) (l : List PackD) (room : Int) (b : Bool) (us : List Value) (x : World) : Prop where
  below : Below W.heap.size W x
  stock : ∀ y, us = [y] → Stock x y l room
theorem CK.on {W x x' : World} {l : List PackD} {room : Int} {b b' : Bool} {us : List Value} (h : CK W l room b us x) (hb : Below x.heap.size x x') : CK W l room b' us x' := ⟨h.below.trans (hb.mono h.below.size), fun y hy => (h.stock y hy).on hb⟩
set_option maxRecDepth 100000 in
set_option maxHeartbeats 4000000 in
theorem implCostOf_any (a : Option Addr) (l : List PackD) (cap : Nat) (room : Int) (s : StepD) (w : World) (h : PacksAt (Old w) w a l) :
    Calls Try.prog 20 #[.agg #[.slice a l.length cap, .int .i64 room], .agg #[.int .i64 s.kind, .int .i64 s.inn, .int .i64 s.out]] w fun e w' => e = .returned (.int .i64 (costZ l room s)) ∧ Below w.heap.size w w' := by
  obtain ⟨w0, hw0⟩ : ∃ w0, w0 = (w.alloc (.cells #[.slice a l.length cap, .int .i64 room] 31)).alloc (.cells #[.int .i64 s.kind, .int .i64 s.inn, .int .i64 s.out] 44) := ⟨_, rfl⟩
  have b0 : Below w.heap.size w w0 := by rw [hw0]; exact ((Below.refl _ _).alloc (Nat.le_refl _) _).alloc (by simp) _
  have z0 : w.heap.size + 1 < w0.heap.size := by rw [hw0]; simp
  have x0 : w0.cell? ⟨w.heap.size, 0, none⟩ = some (.slice a l.length cap) := by rw [hw0]; simp
  have x1 : w0.cell? ⟨w.heap.size, 1, none⟩ = some (.int .i64 room) := by rw [hw0]; simp
  have s0 : w0.cell? ⟨w.heap.size + 1, 0, none⟩ = some (.int .i64 s.kind) := by rw [hw0]; simp
  have s1 : w0.cell? ⟨w.heap.size + 1, 1, none⟩ = some (.int .i64 s.inn) := by rw [hw0]; simp
  have s2 : w0.cell? ⟨w.heap.size + 1, 2, none⟩ = some (.int .i64 s.out) := by rw [hw0]; simp
  have HB0 := hide b0
  have HP0 := hide (h.on b0)
  clear h b0
  go_enter Try.func20, Try.ntmps20
  go_upto_region 1 with fail
  rw [← hw0]
  clear hw0
  go_wp2_with fail
  refine (implRepoOk_any a l cap room w0 (unhide HP0)).mono ?_
  rintro e w1 ⟨rfl, b1⟩
  have z1 := b1.size
  have HB1 := hide ((unhide HB0).trans (b1.mono (unhide HB0).size))
  have HP1 := hide ((unhide HP0).on b1)
  rw [← b1.cell (p := ⟨w.heap.size, _, none⟩) (by simp; omega)] at x0 x1
  rw [← b1.cell (p := ⟨w.heap.size + 1, _, none⟩) (by simp; omega)] at s0 s1 s2
  clear b1 HB0 HP0
  cases hrb : repoB ⟨l, room⟩ with
  | false =>
    have HCZ := hide (costZ_not s hrb)
    clear hrb
    go_wp2_with fail
    go_ret
    exact ⟨retI (unhide HCZ).symm, unhide HB1⟩
  | true =>
    have HRB := hide hrb
    have HSO := hide (fun x (hx : Below w1.heap.size w1 x) => stockOf_any a l cap room x ((unhide HP1).on hx) (repo_l8 hrb) (ok_small hrb))
    have hlx : w.heap.size < w1.heap.size := by omega
    have hly : w.heap.size + 1 < w1.heap.size := by omega
    clear hrb
    go_upto_region 3 with fail
    refine wp_region_mix (k := 100) 3 [1] [.agg #[.slice a l.length cap, .int .i64 room], undef, .agg #[.int .i64 s.kind, .int .i64 s.inn, .int .i64 s.out]] (CK w1 l room) (by kernel_rfl) (by kernel_rfl) (by kernel_rfl) (by kernel_rfl) (by kernel_rfl) (by kernel_rfl) ⟨(Below.refl _ _).drew, (fun y h => by cases h)⟩ ?_ ?_ ?_
    · intro full hfull i oo hi hns ho x fl us hC hb
      simp [putAll, slotOf, Act.put] at hfull
      subst hfull
      have bx := hC.below
      rw [← bx.cell (p := ⟨w.heap.size, _, none⟩) hlx] at x0 x1
      rw [← bx.cell (p := ⟨w.heap.size + 1, _, none⟩) hly] at s0 s1 s2
      have hC0 := hC.on (b' := fl) (Below.refl _ _)
      match i with
      | 0 => simp at ho; subst ho; simp [gwp, Region.wanted, yielded]; go_simp; first | done | exact hC0 | exact ⟨rfl, hC0⟩ | (simp; exact hC0)
      | 1 => simp at hns
      | 2 => simp at ho; subst ho; simp [gwp, Region.wanted, yielded]; go_simp; first | done | exact hC0 | exact ⟨rfl, hC0⟩ | (simp; exact hC0)
      | i + 3 => omega
    · intro full hfull us j hj o ho x b hC
      simp [putAll, slotOf, Act.put] at hfull
      subst hfull
      match us with
      | [] =>
        simp at hj
        subst hj
        simp at ho
        subst ho
        have bx := hC.below
        simp [gwp, Region.wanted, yielded, putP]
        go_simp
        refine (unhide HSO x bx).mono ?_
        rintro e w' ⟨⟨bm, av, rfl, hA, _⟩, hb2⟩
        go_simp
        have hC2 := hC.on (b' := b) hb2
        refine ⟨hC2.below, fun z hz => ?_⟩
        cases hz
        exact ⟨a, cap, bm, av, rfl, (unhide HP1).on (bx.trans (hb2.mono bx.size)), hA⟩
      | _ :: _ => simp at hj
    · intro full hfull us x hus hC
      simp [putAll, slotOf, Act.put] at hfull
      subst hfull
      match us, hus with
      | [y], _ =>
      have hS := hC.stock y rfl
      have HCO := hide (cost_of l room y s (unhide HRB) x hS)
      have HBx := hide ((unhide HB1).trans (hC.below.mono (unhide HB1).size))
      obtain ⟨a', cap', bm, av, hy, hPx, ⟨⟨xa, xc, hav⟩, hA⟩⟩ := hS
      subst hav
      subst hy
      clear hC hPx hA HSO HB1 HP1 HRB x0 x1 s0 s1 s2
      simp [putP, slotOf, Act.put]
      go_wp2_with fail
      refine (unhide HCO).mono ?_
      rintro e w4 ⟨rfl, b4⟩
      have HB4 := hide ((unhide HBx).trans (b4.mono (unhide HBx).size))
      clear b4 HCO HBx
      go_wp2_with fail
      go_ret
      exact ⟨rfl, unhide HB4⟩
end Go.Proofs.Ythkhaemlcmkkjay
