/- The walk of the law FnCnfNull: at every code it answers true. -/
import Derived.Test.YthkhaemlcmkkjagDrawCt
import Derived.Test.YthkhaemlcmkkjagSatL
import Derived.Test.YthkhaemlcmkkjagGFu
import Derived.Test.YthkhaemlcmkkjagGFo
import Derived.Test.YthkhaemlcmkkjagGUp
import Derived.Test.YthkhaemlcmkkjagSatC
import Derived.Test.YthkhaemlcmkkjagSatD
import Derived.Test.YthkhaemlcmkkjagSatN
import Derived.Test.YthkhaemlcmkkjagLdMore
import Derived.Test.YthkhaemlcmkkjagGCn
import Derived.Test.YthkhaemlcmkkjagCnU
import Derived.Test.YthkhaemlcmkkjagPfL
import Derived.Deep.QuietTactic
import Derived.BigQuiet
namespace Go.Proofs.Ythkhaemlcmkkjag
set_option linter.unusedVariables false
set_option linter.unusedSimpArgs false
open Go.RowKit Go.Deep

theorem true_nil {vars : Int} (h0 : 0 ≤ vars) (h1 : vars ≤ 400) (m : List Bool) : cnfTrueB vars [] m = decide ((m.length : Int) = vars) := by
  have hok : cnfB vars [] = true := by simp [cnfB, inB]; omega
  unfold cnfTrueB
  rw [hok]
  simp
theorem true_null (vars : Int) (cs : List (List Int)) (m : List Bool) : cnfTrueB vars (cs ++ [[]]) m = false := by
  unfold cnfTrueB
  rw [List.all_append]
  simp [holdsB]
theorem cnf_null {vars : Int} {cs : List (List Int)} (h : cnfB vars cs = true) (hl : cs.length ≤ 26) : cnfB vars (cs ++ [[]]) = true := by
  simp only [cnfB, Bool.and_eq_true, decide_eq_true_eq, List.all_eq_true] at h ⊢
  refine ⟨h.1, by simp; omega, fun c hc => ?_⟩
  rcases List.mem_append.1 hc with hc | hc
  · exact h.2.2 c hc
  · rw [List.mem_singleton] at hc
    subst hc
    simp [litsB]
/-- Clauses with an empty one are laid, and asked for. -/
structure CNl (W : World) (vars : Int) (n : Nat) (cs : List (List Int)) (b : Bool) (us : List Value) (x : World) : Prop where
  below : Below W.heap.size W x
  r1 : ∀ y, us = [y] → ∃ a' c', y = .agg #[.int .i64 vars, .slice (some a') n c'] ∧ ClsAt x (some a') cs
  r2 : ∀ y z, us = [y, z] → z = .bool false
  r3 : ∀ y z u, us = [y, z, u] → u = .bool true
  r4 : ∀ y z u v, us = [y, z, u, v] → v = .bool true
theorem CNl.on {W x y : World} {vars : Int} {n : Nat} {cs : List (List Int)} {b b' : Bool} {us : List Value} (h : CNl W vars n cs b us x) (hb : Below x.heap.size x y) : CNl W vars n cs b' us y :=
  ⟨h.below.trans (hb.mono h.below.size), fun u e => by
    obtain ⟨a', c', h1, h2⟩ := h.r1 u e
    exact ⟨a', c', h1, h2.on hb⟩, h.r2, h.r3, h.r4⟩

set_option maxRecDepth 100000 in
set_option maxHeartbeats 2000000 in
theorem cnfnull_law (a : Option Addr) (n c : Nat) (w : World) (h : CodeAt w.heap.size w a n) (hc : n ≤ c) (hc2 : c ≤ maxLen) :
    Calls Try.prog 7 #[.slice a n c] w fun e w' => e = .returned (.bool true) ∧ Below w.heap.size w w' := by
  have hmx := hc2
  unfold maxLen at hmx
  by_cases hbig : 1048576 < n
  · have hb' : (1048576 : Int) < (n : Int) := by omega
    go_enter Try.func7, Try.ntmps7
    go_wp2_with fail
    go_ret
    exact ⟨rfl, Below.refl _ _⟩
  have hb' : ¬ (1048576 : Int) < (n : Int) := by omega
  go_enter Try.func7, Try.ntmps7
  go_wp2_with fail
  refine (DrawCnfTrue_V a n c w h (by omega) hc hc2).mono ?_
  rintro e w1 ⟨⟨vars, va, vc, ls, da, dm, dc, rfl, ⟨hcls, hcap, hvn, hll⟩, hdm, hdl⟩, b1⟩
  have HC1 := hide hcls
  have HD1 := hide hdm
  have HB1 := hide b1
  clear hcls hdm b1 h
  go_upto_region 4 with fail
  obtain ⟨w2, hw2⟩ : ∃ w2, w2 = w1.alloc (.cells #[.int .i64 vars, .slice va ls.length vc] 25) := ⟨_, rfl⟩
  rw [← hw2]
  have b2 : Below w1.heap.size w1 w2 := by rw [hw2]; exact (Below.refl _ _).alloc (Nat.le_refl _) _
  have x0 : w2.cell? ⟨w1.heap.size, 0, none⟩ = some (.int .i64 vars) := by rw [hw2]; simp
  have x1 : w2.cell? ⟨w1.heap.size, 1, none⟩ = some (.slice va ls.length vc) := by rw [hw2]; simp
  have hlt2 : w1.heap.size < w2.heap.size := by rw [hw2]; simp
  have HC2 := hide ((unhide HC1).on b2)
  have HD2 := hide ((unhide HD1).on b2)
  have HB2 := hide ((unhide HB1).trans (b2.mono (unhide HB1).size))
  obtain ⟨z, hz⟩ : ∃ z, cnfTrueB vars ls dm = z := ⟨_, rfl⟩
  have HZ := hide hz
  clear hw2 b2 HC1 HB1 HD1 hz
  have HI := hide (fun x (hx : ClsAt x va ls) (hy : BoolsAt x da dm) => implCnfTrue_any vars va ls vc da dm dc x hx hy)
  have HS := hide (fun x (hx : ClsAt x va ls) (hy : BoolsAt x da dm) => specCnfTrue_any vars va ls vc da dm dc x hx hy)
  have HK := hide (fun x (hx : ClsAt x va ls) => specCnfOk_any vars va ls vc x hx)
  obtain ⟨ok, hok⟩ : ∃ ok, cnfB vars ls = ok := ⟨_, rfl⟩
  rw [unhide HZ] at HI HS
  rw [hok] at HK
  have HOK := hide hok
  have j6 : ¬ (6000 : Int) ≤ (ls.length : Int) := by omega
  clear hok
  cases ok with
  | false =>
    refine wp_region_mix (k := 100) 17 [] [.agg #[.int .i64 vars, .slice va ls.length vc], .slice da dm.length dc, .bool z, .agg #[.int .i64 vars, .slice va ls.length vc], .slice da dm.length dc, .bool z, .bool false, .bool false, .agg #[.int .i64 vars, .slice va ls.length vc], .bool false, .bool true, .bool true, .bool true, undef, undef, undef, undef] (CG w2) (by kernel_rfl) (by kernel_rfl) (by kernel_rfl) (by kernel_rfl) (by kernel_rfl) (by kernel_rfl) ⟨(Below.refl _ _).drew⟩ ?_ ?_ ?_
    · intro full hfull i oo hi' hns ho x fl us hC hb
      simp [putAll, slotOf, Act.put] at hfull
      subst hfull
      have bx := hC.below
      have y0 := (bx.cell (p := ⟨w1.heap.size, 0, none⟩) hlt2).trans x0
      have y1 := (bx.cell (p := ⟨w1.heap.size, 1, none⟩) hlt2).trans x1
      have hC0 := hC.on (b' := fl) (us' := us) (Below.refl _ _)
      match i with
      | 0 => simp at ho; subst ho; simp [gwp, Region.wanted, yielded]; go_simp; first | done | exact hC0 | exact ⟨rfl, hC0⟩ | (simp; exact hC0) | (refine ⟨by simp <;> omega, hC0⟩)
      | 1 => simp at ho; subst ho; simp [gwp, Region.wanted, yielded]; go_simp; first | done | exact hC0 | exact ⟨rfl, hC0⟩ | (simp; exact hC0) | (refine ⟨by simp <;> omega, hC0⟩)
      | 2 =>
        simp at ho; subst ho; simp [gwp, Region.wanted, yielded]; go_simp
        refine (unhide HI x ((unhide HC2).on bx) ((unhide HD2).on bx)).mono ?_
        rintro e wy ⟨rfl, by1⟩
        go_simp
        first | done | exact hC.on by1 | exact ⟨rfl, hC.on by1⟩ | (simp; exact hC.on by1)
      | 3 => simp at ho; subst ho; simp [gwp, Region.wanted, yielded]; go_simp; first | done | exact hC0 | exact ⟨rfl, hC0⟩ | (simp; exact hC0) | (refine ⟨by simp <;> omega, hC0⟩)
      | 4 => simp at ho; subst ho; simp [gwp, Region.wanted, yielded]; go_simp; first | done | exact hC0 | exact ⟨rfl, hC0⟩ | (simp; exact hC0) | (refine ⟨by simp <;> omega, hC0⟩)
      | 5 =>
        simp at ho; subst ho; simp [gwp, Region.wanted, yielded]; go_simp
        refine (unhide HS x ((unhide HC2).on bx) ((unhide HD2).on bx)).mono ?_
        rintro e wy ⟨rfl, by1⟩
        go_simp
        first | done | exact hC.on by1 | exact ⟨rfl, hC.on by1⟩ | (simp; exact hC.on by1)
      | 6 => simp at ho; subst ho; simp [gwp, Region.wanted, yielded]; go_simp; first | done | exact hC0 | exact ⟨rfl, hC0⟩ | (simp; exact hC0) | (refine ⟨by simp <;> omega, hC0⟩)
      | 7 => simp at ho; subst ho; simp [gwp, Region.wanted, yielded]; go_simp; first | done | exact hC0 | exact ⟨rfl, hC0⟩ | (simp; exact hC0) | (refine ⟨by simp <;> omega, hC0⟩)
      | 8 => simp at ho; subst ho; simp [gwp, Region.wanted, yielded]; go_simp; first | done | exact hC0 | exact ⟨rfl, hC0⟩ | (simp; exact hC0) | (refine ⟨by simp <;> omega, hC0⟩)
      | 9 =>
        simp at ho; subst ho; simp [gwp, Region.wanted, yielded]; go_simp
        refine (unhide HK x ((unhide HC2).on bx)).mono ?_
        rintro e wy ⟨rfl, by1⟩
        go_simp
        first | done | exact hC.on by1 | exact ⟨rfl, hC.on by1⟩ | (simp; exact hC.on by1)
      | 10 => simp at ho; subst ho; simp [gwp, Region.wanted, yielded]; go_simp; first | done | exact hC0 | exact ⟨rfl, hC0⟩ | (simp; exact hC0) | (refine ⟨by simp <;> omega, hC0⟩)
      | 11 => simp at ho; subst ho; simp [gwp, Region.wanted, yielded]; go_simp; first | done | exact hC0 | exact ⟨rfl, hC0⟩ | (simp; exact hC0) | (refine ⟨by simp <;> omega, hC0⟩)
      | 12 => simp at ho; subst ho; simp [gwp, Region.wanted, yielded]; go_simp; first | done | exact hC0 | exact ⟨rfl, hC0⟩ | (simp; exact hC0) | (refine ⟨by simp <;> omega, hC0⟩)
      | 13 => simp at ho; subst ho; simp [gwp, Region.wanted, yielded]; go_simp; first | done | exact hC0 | exact ⟨rfl, hC0⟩ | (simp; exact hC0) | (refine ⟨by simp <;> omega, hC0⟩)
      | 14 => simp at ho; subst ho; simp [gwp, Region.wanted, yielded]; go_simp; first | done | exact hC0 | exact ⟨rfl, hC0⟩ | (simp; exact hC0) | (refine ⟨by simp <;> omega, hC0⟩)
      | 15 => simp at ho; subst ho; simp [gwp, Region.wanted, yielded]; go_simp; first | done | exact hC0 | exact ⟨rfl, hC0⟩ | (simp; exact hC0) | (refine ⟨by simp <;> omega, hC0⟩)
      | 16 => simp at ho; subst ho; simp [gwp, Region.wanted, yielded]; go_simp; first | done | exact hC0 | exact ⟨rfl, hC0⟩ | (simp; exact hC0) | (refine ⟨by simp <;> omega, hC0⟩)
      | i + 17 => omega
    · intro full hfull us j hj
      simp at hj
    intro full hfull us w3 hus hC
    simp [putAll, slotOf, Act.put] at hfull
    subst hfull
    match us, hus with
    | [], _ =>
    have b3 := hC.below
    clear hC
    have HC3 := hide ((unhide HC2).on b3)
    have HD3 := hide ((unhide HD2).on b3)
    have HB3 := hide ((unhide HB2).trans (b3.mono (unhide HB2).size))
    have hlt3 : w1.heap.size < w3.heap.size := Nat.lt_of_lt_of_le hlt2 b3.size
    rw [← b3.cell (p := ⟨w1.heap.size, _, none⟩) hlt2] at x0 x1
    clear HC2 HD2 HB2 b3 hlt2
    simp [putP, slotOf, Act.put]
    go_upto_region 5 with fail
    refine wp_region_mix (k := 100) 7 [] [.agg #[.int .i64 vars, .slice va ls.length vc], .slice da dm.length dc, .bool z, .agg #[.int .i64 vars, .slice va ls.length vc], .slice da dm.length dc, .bool z, .bool true] (CG w3) (by kernel_rfl) (by kernel_rfl) (by kernel_rfl) (by kernel_rfl) (by kernel_rfl) (by kernel_rfl) ⟨(Below.refl _ _).drew⟩ ?_ ?_ ?_
    · intro full hfull i oo hi' hns ho x fl us hC hb
      simp [putAll, slotOf, Act.put] at hfull
      subst hfull
      have bx := hC.below
      have y0 := (bx.cell (p := ⟨w1.heap.size, 0, none⟩) hlt3).trans x0
      have y1 := (bx.cell (p := ⟨w1.heap.size, 1, none⟩) hlt3).trans x1
      have hC0 := hC.on (b' := fl) (us' := us) (Below.refl _ _)
      match i with
      | 0 => simp at ho; subst ho; simp [gwp, Region.wanted, yielded]; go_simp; first | done | exact hC0 | exact ⟨rfl, hC0⟩ | (simp; exact hC0) | (refine ⟨by simp <;> omega, hC0⟩)
      | 1 => simp at ho; subst ho; simp [gwp, Region.wanted, yielded]; go_simp; first | done | exact hC0 | exact ⟨rfl, hC0⟩ | (simp; exact hC0) | (refine ⟨by simp <;> omega, hC0⟩)
      | 2 =>
        simp at ho; subst ho; simp [gwp, Region.wanted, yielded]; go_simp
        refine (unhide HI x ((unhide HC3).on bx) ((unhide HD3).on bx)).mono ?_
        rintro e wy ⟨rfl, by1⟩
        go_simp
        first | done | exact hC.on by1 | exact ⟨rfl, hC.on by1⟩ | (simp; exact hC.on by1)
      | 3 => simp at ho; subst ho; simp [gwp, Region.wanted, yielded]; go_simp; first | done | exact hC0 | exact ⟨rfl, hC0⟩ | (simp; exact hC0) | (refine ⟨by simp <;> omega, hC0⟩)
      | 4 => simp at ho; subst ho; simp [gwp, Region.wanted, yielded]; go_simp; first | done | exact hC0 | exact ⟨rfl, hC0⟩ | (simp; exact hC0) | (refine ⟨by simp <;> omega, hC0⟩)
      | 5 =>
        simp at ho; subst ho; simp [gwp, Region.wanted, yielded]; go_simp
        refine (unhide HS x ((unhide HC3).on bx) ((unhide HD3).on bx)).mono ?_
        rintro e wy ⟨rfl, by1⟩
        go_simp
        first | done | exact hC.on by1 | exact ⟨rfl, hC.on by1⟩ | (simp; exact hC.on by1)
      | 6 => simp at ho; subst ho; simp [gwp, Region.wanted, yielded]; go_simp; first | done | exact hC0 | exact ⟨rfl, hC0⟩ | (simp; exact hC0) | (refine ⟨by simp <;> omega, hC0⟩)
      | i + 7 => omega
    · intro full hfull us j hj
      simp at hj
    intro full hfull us w4 hus hC
    simp [putAll, slotOf, Act.put] at hfull
    subst hfull
    match us, hus with
    | [], _ =>
    have b4 := hC.below
    clear hC
    have HB4 := hide ((unhide HB3).trans (b4.mono (unhide HB3).size))
    simp [putP, slotOf, Act.put]
    go_wp2_with fail
    go_ret
    exact ⟨rfl, unhide HB4⟩
  | true =>
    refine wp_region_mix (k := 100) 17 [] [.agg #[.int .i64 vars, .slice va ls.length vc], .slice da dm.length dc, .bool z, .agg #[.int .i64 vars, .slice va ls.length vc], .slice da dm.length dc, .bool z, .bool false, .bool false, .agg #[.int .i64 vars, .slice va ls.length vc], .bool true, .bool false, .bool false, .bool false, .pointer (some ⟨w1.heap.size, 1, none⟩), .slice va ls.length vc, .int .i64 (ls.length : Int), .bool false] (CG w2) (by kernel_rfl) (by kernel_rfl) (by kernel_rfl) (by kernel_rfl) (by kernel_rfl) (by kernel_rfl) ⟨(Below.refl _ _).drew⟩ ?_ ?_ ?_
    · intro full hfull i oo hi' hns ho x fl us hC hb
      simp [putAll, slotOf, Act.put] at hfull
      subst hfull
      have bx := hC.below
      have y0 := (bx.cell (p := ⟨w1.heap.size, 0, none⟩) hlt2).trans x0
      have y1 := (bx.cell (p := ⟨w1.heap.size, 1, none⟩) hlt2).trans x1
      have hC0 := hC.on (b' := fl) (us' := us) (Below.refl _ _)
      match i with
      | 0 => simp at ho; subst ho; simp [gwp, Region.wanted, yielded]; go_simp; first | done | exact hC0 | exact ⟨rfl, hC0⟩ | (simp; exact hC0) | (refine ⟨by simp <;> omega, hC0⟩)
      | 1 => simp at ho; subst ho; simp [gwp, Region.wanted, yielded]; go_simp; first | done | exact hC0 | exact ⟨rfl, hC0⟩ | (simp; exact hC0) | (refine ⟨by simp <;> omega, hC0⟩)
      | 2 =>
        simp at ho; subst ho; simp [gwp, Region.wanted, yielded]; go_simp
        refine (unhide HI x ((unhide HC2).on bx) ((unhide HD2).on bx)).mono ?_
        rintro e wy ⟨rfl, by1⟩
        go_simp
        first | done | exact hC.on by1 | exact ⟨rfl, hC.on by1⟩ | (simp; exact hC.on by1)
      | 3 => simp at ho; subst ho; simp [gwp, Region.wanted, yielded]; go_simp; first | done | exact hC0 | exact ⟨rfl, hC0⟩ | (simp; exact hC0) | (refine ⟨by simp <;> omega, hC0⟩)
      | 4 => simp at ho; subst ho; simp [gwp, Region.wanted, yielded]; go_simp; first | done | exact hC0 | exact ⟨rfl, hC0⟩ | (simp; exact hC0) | (refine ⟨by simp <;> omega, hC0⟩)
      | 5 =>
        simp at ho; subst ho; simp [gwp, Region.wanted, yielded]; go_simp
        refine (unhide HS x ((unhide HC2).on bx) ((unhide HD2).on bx)).mono ?_
        rintro e wy ⟨rfl, by1⟩
        go_simp
        first | done | exact hC.on by1 | exact ⟨rfl, hC.on by1⟩ | (simp; exact hC.on by1)
      | 6 => simp at ho; subst ho; simp [gwp, Region.wanted, yielded]; go_simp; first | done | exact hC0 | exact ⟨rfl, hC0⟩ | (simp; exact hC0) | (refine ⟨by simp <;> omega, hC0⟩)
      | 7 => simp at ho; subst ho; simp [gwp, Region.wanted, yielded]; go_simp; first | done | exact hC0 | exact ⟨rfl, hC0⟩ | (simp; exact hC0) | (refine ⟨by simp <;> omega, hC0⟩)
      | 8 => simp at ho; subst ho; simp [gwp, Region.wanted, yielded]; go_simp; first | done | exact hC0 | exact ⟨rfl, hC0⟩ | (simp; exact hC0) | (refine ⟨by simp <;> omega, hC0⟩)
      | 9 =>
        simp at ho; subst ho; simp [gwp, Region.wanted, yielded]; go_simp
        refine (unhide HK x ((unhide HC2).on bx)).mono ?_
        rintro e wy ⟨rfl, by1⟩
        go_simp
        first | done | exact hC.on by1 | exact ⟨rfl, hC.on by1⟩ | (simp; exact hC.on by1)
      | 10 => simp at ho; subst ho; simp [gwp, Region.wanted, yielded]; go_simp; first | done | exact hC0 | exact ⟨rfl, hC0⟩ | (simp; exact hC0) | (refine ⟨by simp <;> omega, hC0⟩)
      | 11 => simp at ho; subst ho; simp [gwp, Region.wanted, yielded]; go_simp; first | done | exact hC0 | exact ⟨rfl, hC0⟩ | (simp; exact hC0) | (refine ⟨by simp <;> omega, hC0⟩)
      | 12 => simp at ho; subst ho; simp [gwp, Region.wanted, yielded]; go_simp; first | done | exact hC0 | exact ⟨rfl, hC0⟩ | (simp; exact hC0) | (refine ⟨by simp <;> omega, hC0⟩)
      | 13 => simp at ho; subst ho; simp [gwp, Region.wanted, yielded]; go_simp; first | done | exact hC0 | exact ⟨rfl, hC0⟩ | (simp; exact hC0) | (refine ⟨by simp <;> omega, hC0⟩)
      | 14 => simp at ho; subst ho; simp [gwp, Region.wanted, yielded]; go_simp; first | done | exact hC0 | exact ⟨rfl, hC0⟩ | (simp; exact hC0) | (refine ⟨by simp <;> omega, hC0⟩)
      | 15 => simp at ho; subst ho; simp [gwp, Region.wanted, yielded]; go_simp; first | done | exact hC0 | exact ⟨rfl, hC0⟩ | (simp; exact hC0) | (refine ⟨by simp <;> omega, hC0⟩)
      | 16 => simp at ho; subst ho; simp [gwp, Region.wanted, yielded]; go_simp; first | done | exact hC0 | exact ⟨rfl, hC0⟩ | (simp; exact hC0) | (refine ⟨by simp <;> omega, hC0⟩)
      | i + 17 => omega
    · intro full hfull us j hj
      simp at hj
    intro full hfull us w3 hus hC
    simp [putAll, slotOf, Act.put] at hfull
    subst hfull
    match us, hus with
    | [], _ =>
    have b3 := hC.below
    clear hC
    have HC3 := hide ((unhide HC2).on b3)
    have HD3 := hide ((unhide HD2).on b3)
    have HB3 := hide ((unhide HB2).trans (b3.mono (unhide HB2).size))
    have hlt3 : w1.heap.size < w3.heap.size := Nat.lt_of_lt_of_le hlt2 b3.size
    rw [← b3.cell (p := ⟨w1.heap.size, _, none⟩) hlt2] at x0 x1
    clear HC2 HD2 HB2 b3 hlt2
    simp [putP, slotOf, Act.put]
    obtain ⟨hv0, hv1, _⟩ := cnf_rng (unhide HOK)
    have hsn := sat_nil hv0 hv1
    have hsc := sat_conf (most := 0) (cnf_null (unhide HOK) hll) (.inl (List.mem_append_right _ (List.mem_singleton.2 rfl))) (Int.le_refl _) (by omega)
    have HSC := hide hsc
    obtain ⟨q, hq⟩ : ∃ q, decide ((dm.length : Int) = vars) = q := ⟨_, rfl⟩
    have HNT := hide (fun x (hy : BoolsAt x da dm) => implCnfTrue_any vars none [] 0 da dm dc x ⟨by simp, .inl rfl⟩ hy)
    rw [true_nil hv0 hv1, hq] at HNT
    have hq2 : ((dm.length : Int) == vars) = q := by rw [← hq]; rfl
    have HLM := hide (fun x (hx : ClsAt x va ls) => ldMore_any vars va ls vc hvn none [] 0 x hx ⟨by simp, .inl rfl⟩ (by omega))
    simp only [List.length_nil] at HLM HNT
    have hn0a : (w3.alloc (.cells #[.int .i64 vars, .slice none 0 0] 25)).heap[w3.heap.size]? = some (cnfCells vars (.slice none 0 0)) := blk_alloc_new _ _
    have bA := (Below.refl w3.heap.size w3).alloc (Nat.le_refl _) (.cells #[.int .i64 vars, .slice none 0 0] 25)
    obtain ⟨n0, n1, nf⟩ := two hn0a
    have hnl : w3.heap.size < (w3.alloc (.cells #[.int .i64 vars, .slice none 0 0] 25)).heap.size := by simp
    have HF1 := hide (implSatFind_any vars none [] 0 3000 (w3.alloc (.cells #[.int .i64 vars, .slice none 0 0] 25)) ⟨by simp, .inl rfl⟩)
    rw [hsn] at HF1
    simp only [List.length_nil] at HF1
    have HBA := hide bA
    clear HI HS HK hsn hsc hq hn0a bA nf HZ HOK
    go_wp2_with fail
    refine (unhide HF1).mono ?_
    rintro e w4 ⟨⟨mv4, pv4, vs4, rfl, hm4, hp4⟩, b4'⟩
    rw [← b4'.cell (p := ⟨w3.heap.size, _, none⟩) hnl] at n0 n1
    have hnl4 : w3.heap.size < w4.heap.size := Nat.lt_of_lt_of_le hnl b4'.size
    have b4 := (unhide HBA).trans (b4'.mono (unhide HBA).size)
    obtain ⟨fa, fc, hmv4, hfb4⟩ := bools_of (m := List.replicate vars.toNat false) hm4 (by simp; omega)
    subst hmv4
    have HW4 := hide hfb4
    obtain ⟨fl4, hfl⟩ : ∃ q, q = (List.replicate vars.toNat false).length := ⟨_, rfl⟩
    rw [← hfl]
    have HFL := hide hfl
    clear HF1 hm4 hp4 b4' hfb4 HBA hnl hfl
    have HC4 := hide ((unhide HC3).on b4)
    have HD4 := hide ((unhide HD3).on b4)
    have HB4 := hide ((unhide HB3).trans (b4.mono (unhide HB3).size))
    have hlt4 : w1.heap.size < w4.heap.size := Nat.lt_of_lt_of_le hlt3 b4.size
    rw [← b4.cell (p := ⟨w1.heap.size, _, none⟩) hlt3] at x0 x1
    clear HC3 HD3 HB3 b4 hlt3
    have HL4 := hide (unhide HLM w4 (unhide HC4))
    go_wp2_with fail
    refine (unhide HL4).mono ?_
    rintro e w5 ⟨⟨a', c', rfl, hcl⟩, b5⟩
    have HF2 := hide (implSatFind_any vars (some a') (ls ++ [[]]) c' 0 w5 hcl)
    rw [unhide HSC, show (ls ++ [([] : List Int)]).length = ls.length + 1 by simp] at HF2
    rw [← b5.cell (p := ⟨w3.heap.size, _, none⟩) hnl4] at n0 n1
    have hnl5 : w3.heap.size < w5.heap.size := Nat.lt_of_lt_of_le hnl4 b5.size
    clear hcl HL4
    have HC5 := hide ((unhide HC4).on b5)
    have HD5 := hide ((unhide HD4).on b5)
    have HW5 := hide ((unhide HW4).on b5)
    have HB5 := hide ((unhide HB4).trans (b5.mono (unhide HB4).size))
    have hlt5 : w1.heap.size < w5.heap.size := Nat.lt_of_lt_of_le hlt4 b5.size
    rw [← b5.cell (p := ⟨w1.heap.size, _, none⟩) hlt4] at x0 x1
    clear HC4 HD4 HW4 HB4 b5 hlt4
    go_wp2_with fail
    refine (unhide HF2).mono ?_
    rintro e w6 ⟨⟨mv6, pv6, vs6, rfl, hm6, hp6⟩, b6⟩
    obtain ⟨pa, pc, hpv, hpc, _, hpk⟩ := lists_of (p := [[]]) hp6 (by simp) (fun c hc => by rw [List.mem_singleton] at hc; subst hc; simp)
    subst hpv
    obtain ⟨pb, po, ra, rc, hpa, pc0, _⟩ : ∃ b o a' c, pa = some ⟨b, o, none⟩ ∧ w6.cell? ⟨b, o + 0, none⟩ = some (.slice a' ([] : List Int).length c) ∧ True := by
      rcases hpk.2 with h0 | ⟨b, o, e, h1, h2⟩
      · cases h0
      · obtain ⟨a1, c1, h3, _⟩ := h2 0 (by simp)
        exact ⟨b, o, a1, c1, e, h3, trivial⟩
    subst hpa
    simp only [List.length_nil, Nat.add_zero] at pc0
    rw [← b6.cell (p := ⟨w3.heap.size, _, none⟩) hnl5] at n0 n1
    have hnl6 : w3.heap.size < w6.heap.size := Nat.lt_of_lt_of_le hnl5 b6.size
    clear HF2 hm6 hp6 hpk HSC
    simp only [List.length_singleton]
    have HC6 := hide ((unhide HC5).on b6)
    have HD6 := hide ((unhide HD5).on b6)
    have HW6 := hide ((unhide HW5).on b6)
    have HB6 := hide ((unhide HB5).trans (b6.mono (unhide HB5).size))
    have hlt6 : w1.heap.size < w6.heap.size := Nat.lt_of_lt_of_le hlt5 b6.size
    rw [← b6.cell (p := ⟨w1.heap.size, _, none⟩) hlt5] at x0 x1
    clear HC5 HD5 HW5 HB5 b6 hlt5
    go_wp2_with fail
    go_loopw [12] (fun i wr => ∃ k : Nat, k ≤ fl4 ∧ i = .int .i64 k ∧ Hid (Below w6.heap.size w6 wr)) (fun i _ => fl4 - (intOf i).toNat)
    case atStart => exact ⟨0, Nat.zero_le _, rfl, Below.refl _ _⟩
    case round =>
      rename World => wo
      obtain ⟨k, hk, rfl, HO⟩ := hrel
      have y0 := ((unhide HO).cell (p := ⟨w1.heap.size, 0, none⟩) hlt6).trans x0
      have y1 := ((unhide HO).cell (p := ⟨w1.heap.size, 1, none⟩) hlt6).trans x1
      by_cases hkl : k < fl4
      · have j1 : (k : Int) < (fl4 : Int) := by omega
        have j0 : (0 : Int) ≤ (k : Int) := by omega
        have hfl := unhide HFL
        have hf9 : fl4 ≤ 400 := by rw [hfl, List.length_replicate]; omega
        rcases (unhide HW6).2 with h0 | ⟨gb, go, hge, hgl, hgc⟩
        · rw [h0] at hfl; simp at hfl; omega
        have c0 := ((unhide HO).cell (p := ⟨gb, go + k, none⟩) hgl).trans (hgc k (by omega))
        rw [show (List.replicate vars.toNat false).getD k false = false by simp [List.getD, List.getElem?_replicate]; split <;> rfl] at c0
        subst hge
        clear hfl hgc
        go_wp2_with fail
        go_roundw
        case rel => exact ⟨k + 1, by omega, by go_num, HO⟩
        case measure => simp [intOf]; omega
      · have j1 : ¬ (k : Int) < (fl4 : Int) := by omega
        rw [← (unhide HO).cell (p := ⟨w3.heap.size, _, none⟩) hnl6] at n0 n1
        have hlto : w1.heap.size < wo.heap.size := Nat.lt_of_lt_of_le hlt6 (unhide HO).size
        have hnlo : w3.heap.size < wo.heap.size := Nat.lt_of_lt_of_le hnl6 (unhide HO).size
        have HCO := hide ((unhide HC6).on (unhide HO))
        have HDO := hide ((unhide HD6).on (unhide HO))
        have HBO := hide ((unhide HB6).trans ((unhide HO).mono (unhide HB6).size))
        clear HW6 HFL x0 x1 pc0
        go_upto_region 16 with fail
        refine wp_region_mix (k := 100) 16 [11, 13, 14, 15] [.agg #[.int .i64 vars, .slice none 0 0], .slice da dm.length dc, .bool q, .slice da dm.length dc, .int .i64 (dm.length : Int), .pointer (some ⟨w1.heap.size, 0, none⟩), .int .i64 vars, .bool q, .bool true, .bool true, .agg #[.int .i64 vars, .slice va ls.length vc], undef, .slice da dm.length dc, undef, undef, undef] (CNl wo vars (ls.length + 1) (ls ++ [[]])) (by kernel_rfl) (by kernel_rfl) (by kernel_rfl) (by kernel_rfl) (by kernel_rfl) (by kernel_rfl) ⟨(Below.refl _ _).drew, (fun _ h => by cases h), (fun _ _ h => by cases h), (fun _ _ _ h => by cases h), (fun _ _ _ _ h => by cases h)⟩ ?_ ?_ ?_
        · intro full hfull i oo hi' hns ho x fl us hC hb
          simp [putAll, slotOf, Act.put] at hfull
          subst hfull
          have bx := hC.below
          have p0 := (bx.cell (p := ⟨w1.heap.size, 0, none⟩) hlto).trans y0
          have p1 := (bx.cell (p := ⟨w1.heap.size, 1, none⟩) hlto).trans y1
          have p2 := (bx.cell (p := ⟨w3.heap.size, 0, none⟩) hnlo).trans n0
          have p3 := (bx.cell (p := ⟨w3.heap.size, 1, none⟩) hnlo).trans n1
          have hC0 := hC.on (b' := fl) (Below.refl _ _)
          match i with
          | 0 => simp at ho; subst ho; simp [gwp, Region.wanted, yielded]; go_simp; first | done | exact hC0 | exact ⟨rfl, hC0⟩ | (simp; exact hC0) | (refine ⟨by simp <;> omega, hC0⟩)
          | 1 => simp at ho; subst ho; simp [gwp, Region.wanted, yielded]; go_simp; first | done | exact hC0 | exact ⟨rfl, hC0⟩ | (simp; exact hC0) | (refine ⟨by simp <;> omega, hC0⟩)
          | 2 =>
            simp at ho; subst ho; simp [gwp, Region.wanted, yielded]; go_simp
            refine (unhide HNT x ((unhide HDO).on bx)).mono ?_
            rintro e wy ⟨rfl, by1⟩
            have hC1 := hC.on (b' := fl) by1
            go_simp
            first | done | exact hC1 | exact ⟨rfl, hC1⟩ | (simp; exact hC1)
          | 3 => simp at ho; subst ho; simp [gwp, Region.wanted, yielded]; go_simp; first | done | exact hC0 | exact ⟨rfl, hC0⟩ | (simp; exact hC0) | (refine ⟨by simp <;> omega, hC0⟩)
          | 4 => simp at ho; subst ho; simp [gwp, Region.wanted, yielded]; go_simp; first | done | exact hC0 | exact ⟨rfl, hC0⟩ | (simp; exact hC0) | (refine ⟨by simp <;> omega, hC0⟩)
          | 5 => simp at ho; subst ho; simp [gwp, Region.wanted, yielded]; go_simp; first | done | exact hC0 | exact ⟨rfl, hC0⟩ | (simp; exact hC0) | (refine ⟨by simp <;> omega, hC0⟩)
          | 6 => simp at ho; subst ho; simp [gwp, Region.wanted, yielded]; go_simp; first | done | exact hC0 | exact ⟨rfl, hC0⟩ | (simp; exact hC0) | (refine ⟨by simp <;> omega, hC0⟩)
          | 7 => simp at ho; subst ho; simp [gwp, Region.wanted, yielded]; go_simp; first | done | exact hC0 | exact ⟨rfl, hC0⟩ | (simp; exact hC0) | (refine ⟨by simp <;> omega, hC0⟩)
          | 8 => simp at ho; subst ho; simp [gwp, Region.wanted, yielded]; go_simp; first | done | exact hC0 | exact ⟨rfl, hC0⟩ | (simp; exact hC0) | (refine ⟨by simp <;> omega, hC0⟩)
          | 9 => simp at ho; subst ho; simp [gwp, Region.wanted, yielded]; go_simp; first | done | exact hC0 | exact ⟨rfl, hC0⟩ | (simp; exact hC0) | (refine ⟨by simp <;> omega, hC0⟩)
          | 10 => simp at ho; subst ho; simp [gwp, Region.wanted, yielded]; go_simp; first | done | exact hC0 | exact ⟨rfl, hC0⟩ | (simp; exact hC0) | (refine ⟨by simp <;> omega, hC0⟩)
          | 11 => simp at hns
          | 12 => simp at ho; subst ho; simp [gwp, Region.wanted, yielded]; go_simp; first | done | exact hC0 | exact ⟨rfl, hC0⟩ | (simp; exact hC0) | (refine ⟨by simp <;> omega, hC0⟩)
          | 13 => simp at hns
          | 14 => simp at hns
          | 15 => simp at hns
          | i + 16 => omega
        · intro full hfull us j hj oo ho x fl hC
          simp [putAll, slotOf, Act.put] at hfull
          subst hfull
          have bx := hC.below
          match us with
          | [] =>
            simp at hj
            subst hj
            simp at ho
            subst ho
            have HCM := hide (unhide HLM x ((unhide HCO).on bx))
            clear hC
            simp [gwp, Region.wanted, yielded, putP, slotOf, Act.put]
            go_simp
            refine (unhide HCM).mono ?_
            rintro e wy ⟨⟨a', c', rfl, hcl⟩, by1⟩
            have hC1 : CNl wo vars (ls.length + 1) (ls ++ [[]]) fl [.agg #[.int .i64 vars, .slice (some a') (ls.length + 1) c']] wy := ⟨bx.trans (by1.mono bx.size), (fun y h => by cases h; exact ⟨a', c', rfl, hcl⟩), (fun _ _ h => by cases h), (fun _ _ _ h => by cases h), (fun _ _ _ _ h => by cases h)⟩
            go_simp
            first | done | exact hC1 | exact ⟨_, rfl, hC1⟩ | (simp; exact hC1)
          | [y] =>
            simp at hj
            subst hj
            simp at ho
            subst ho
            obtain ⟨a', c', hy, hcl⟩ := hC.r1 y rfl
            subst hy
            have HT := hide (implCnfTrue_any vars (some a') (ls ++ [[]]) c' da dm dc x hcl ((unhide HDO).on bx))
            rw [true_null, show (ls ++ [([] : List Int)]).length = ls.length + 1 by simp] at HT
            clear hC hcl
            simp [gwp, Region.wanted, yielded, putP, slotOf, Act.put]
            go_simp
            refine (unhide HT).mono ?_
            rintro e wy ⟨rfl, by1⟩
            have hC1 : CNl wo vars (ls.length + 1) (ls ++ [[]]) fl [.agg #[.int .i64 vars, .slice (some a') (ls.length + 1) c'], .bool false] wy := ⟨bx.trans (by1.mono bx.size), (fun _ h => by cases h), (fun y z h => by cases h; rfl), (fun _ _ _ h => by cases h), (fun _ _ _ _ h => by cases h)⟩
            go_simp
            first | done | exact hC1 | exact ⟨_, rfl, hC1⟩ | (simp; exact hC1)
          | [y, z'] =>
            simp at hj
            subst hj
            simp at ho
            subst ho
            have hz' := hC.r2 y z' rfl
            subst hz'
            have hC1 : CNl wo vars (ls.length + 1) (ls ++ [[]]) fl [y, .bool false, .bool true] x := ⟨bx, (fun _ h => by cases h), (fun _ _ h => by cases h), (fun _ _ _ h => by cases h; rfl), (fun _ _ _ _ h => by cases h)⟩
            clear hC
            simp [gwp, Region.wanted, yielded, putP, slotOf, Act.put]
            go_simp
            first | done | exact hC1 | exact ⟨_, rfl, hC1⟩ | (simp; exact hC1)
          | [y, z', u'] =>
            simp at hj
            subst hj
            simp at ho
            subst ho
            have hu' := hC.r3 y z' u' rfl
            subst hu'
            have hC1 : CNl wo vars (ls.length + 1) (ls ++ [[]]) fl [y, z', .bool true, .bool true] x := ⟨bx, (fun _ h => by cases h), (fun _ _ h => by cases h), (fun _ _ _ h => by cases h), (fun _ _ _ _ h => by cases h; rfl)⟩
            clear hC
            simp [gwp, Region.wanted, yielded, putP, slotOf, Act.put]
            go_simp
            first | done | exact hC1 | exact ⟨_, rfl, hC1⟩ | (simp; exact hC1)
          | _ :: _ :: _ :: _ :: _ => simp at hj
        intro full hfull us x hus hC
        simp [putAll, slotOf, Act.put] at hfull
        subst hfull
        match us, hus with
        | [y, z', u', v'], _ =>
        have hv' := hC.r4 y z' u' v' rfl
        subst hv'
        have HF := hide ((unhide HBO).trans (hC.below.mono (unhide HBO).size))
        clear hC
        simp [putP, slotOf, Act.put]
        go_wp2_with fail
        go_ret
        exact ⟨rfl, unhide HF⟩
end Go.Proofs.Ythkhaemlcmkkjag
