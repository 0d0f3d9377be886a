/- The walk of the law FnCnfTrue: at every two codes it answers true. -/
import Derived.Test.YthkhaemlcmkkjafDrawCt
import Derived.Test.YthkhaemlcmkkjafGCn
import Derived.Test.YthkhaemlcmkkjafCnU
import Derived.Test.YthkhaemlcmkkjafSatE
import Derived.Test.YthkhaemlcmkkjafLdLess
import Derived.Test.YthkhaemlcmkkjafPfL
import Derived.Deep.QuietTactic
import Derived.BigQuiet
namespace Go.Proofs.Ythkhaemlcmkkjaf
set_option linter.unusedVariables false
set_option linter.unusedSimpArgs false
open Go.RowKit Go.Deep

set_option maxRecDepth 100000 in
set_option maxHeartbeats 2000000 in
theorem cnftrue_law (a : Option Addr) (n c : Nat) (a2 : Option Addr) (n2 c2 : Nat) (w : World) (h : CodeAt w.heap.size w a n) (hc : n ≤ c) (hc2 : c ≤ maxLen) (hd : n2 ≤ c2) (hd2 : c2 ≤ maxLen) :
    Calls Try.prog 4 #[.slice a n c, .slice a2 n2 c2] w fun e w' => e = .returned (.bool true) ∧ Below w.heap.size w w' := by
  have hmx := hc2
  unfold maxLen at hmx
  have hmd := hd2
  unfold maxLen at hmd
  by_cases hbig : 1048576 < n
  · have hb' : (1048576 : Int) < (n : Int) := by omega
    go_enter Try.func4, Try.ntmps4
    go_wp2_with fail
    go_ret
    exact ⟨rfl, Below.refl _ _⟩
  have hb' : ¬ (1048576 : Int) < (n : Int) := by omega
  by_cases hbig2 : 1048576 < n2
  · have hb2' : (1048576 : Int) < (n2 : Int) := by omega
    go_enter Try.func4, Try.ntmps4
    go_wp2_with fail
    go_ret
    exact ⟨rfl, Below.refl _ _⟩
  have hb2' : ¬ (1048576 : Int) < (n2 : Int) := by omega
  go_enter Try.func4, Try.ntmps4
  go_wp2_with fail
  refine (DrawCnfTrue_V a n c w h (by omega) hc hc2).mono ?_
  rintro e w1 ⟨⟨vars, va, vc, ls, da, dm, dc, rfl, ⟨hcls, hcap, hvn, hll⟩, hdm, hdl⟩, b1⟩
  have HC1 := hide hcls
  have HD1 := hide hdm
  have HB1 := hide b1
  clear hcls hdm b1 h
  go_upto_region 4 with fail
  obtain ⟨w2, hw2⟩ : ∃ w2, w2 = w1.alloc (.cells #[.int .i64 vars, .slice va ls.length vc] 37) := ⟨_, rfl⟩
  rw [← hw2]
  have b2 : Below w1.heap.size w1 w2 := by rw [hw2]; exact (Below.refl _ _).alloc (Nat.le_refl _) _
  have x0 : w2.cell? ⟨w1.heap.size, 0, none⟩ = some (.int .i64 vars) := by rw [hw2]; simp
  have x1 : w2.cell? ⟨w1.heap.size, 1, none⟩ = some (.slice va ls.length vc) := by rw [hw2]; simp
  have hlt2 : w1.heap.size < w2.heap.size := by rw [hw2]; simp
  have HC2 := hide ((unhide HC1).on b2)
  have HD2 := hide ((unhide HD1).on b2)
  have HB2 := hide ((unhide HB1).trans (b2.mono (unhide HB1).size))
  obtain ⟨z, hz⟩ : ∃ z, cnfTrueB vars ls dm = z := ⟨_, rfl⟩
  have HZ := hide hz
  clear hw2 b2 HC1 HB1 HD1 hz
  obtain ⟨ok, hok⟩ : ∃ ok, cnfB vars ls = ok := ⟨_, rfl⟩
  have HI := hide (implCnfTrue_any vars va ls vc da dm dc w2 (unhide HC2) (unhide HD2))
  have HS := hide (fun x (hx : ClsAt x va ls) (hy : BoolsAt x da dm) => specCnfTrue_any vars va ls vc da dm dc x hx hy)
  have HOI := hide (fun x (hx : ClsAt x va ls) => implCnfOk_any vars va ls vc x hx)
  have HOS := hide (fun x (hx : ClsAt x va ls) => specCnfOk_any vars va ls vc x hx)
  rw [unhide HZ] at HI HS
  rw [hok] at HOI HOS
  clear hok
  go_wp2_with fail
  refine (unhide HI).mono ?_
  rintro e w3 ⟨rfl, b3⟩
  have HC3 := hide ((unhide HC2).on b3)
  have HD3 := hide ((unhide HD2).on b3)
  have HB3 := hide ((unhide HB2).trans (b3.mono (unhide HB2).size))
  have hlt3 : w1.heap.size < w3.heap.size := Nat.lt_of_lt_of_le hlt2 b3.size
  rw [← b3.cell (p := ⟨w1.heap.size, _, none⟩) hlt2] at x0 x1
  clear HC2 HD2 HB2 b3 hlt2
  clear HI
  go_upto_region 5 with fail
  refine wp_region_mix (k := 100) 11 [] [.bool z, .agg #[.int .i64 vars, .slice va ls.length vc], .slice da dm.length dc, .bool z, .bool false, .bool false, .agg #[.int .i64 vars, .slice va ls.length vc], .bool ok, .agg #[.int .i64 vars, .slice va ls.length vc], .bool ok, .bool false] (CG w3) (by kernel_rfl) (by kernel_rfl) (by kernel_rfl) (by kernel_rfl) (by kernel_rfl) (by kernel_rfl) ⟨(Below.refl _ _).drew⟩ ?_ ?_ ?_
  · intro full hfull i oo hi' hns ho x fl us hC hb
    simp [putAll, slotOf, Act.put] at hfull
    subst hfull
    have bx := hC.below
    have y0 := (bx.cell (p := ⟨w1.heap.size, 0, none⟩) hlt3).trans x0
    have y1 := (bx.cell (p := ⟨w1.heap.size, 1, none⟩) hlt3).trans x1
    have hC0 := hC.on (b' := fl) (us' := us) (Below.refl _ _)
    match i with
    | 0 => simp at ho; subst ho; simp [gwp, Region.wanted, yielded]; go_simp; first | done | exact hC0 | exact ⟨rfl, hC0⟩ | (simp; exact hC0) | (refine ⟨by simp <;> omega, hC0⟩)
    | 1 => simp at ho; subst ho; simp [gwp, Region.wanted, yielded]; go_simp; first | done | exact hC0 | exact ⟨rfl, hC0⟩ | (simp; exact hC0) | (refine ⟨by simp <;> omega, hC0⟩)
    | 2 => simp at ho; subst ho; simp [gwp, Region.wanted, yielded]; go_simp; first | done | exact hC0 | exact ⟨rfl, hC0⟩ | (simp; exact hC0) | (refine ⟨by simp <;> omega, hC0⟩)
    | 3 =>
      simp at ho; subst ho; simp [gwp, Region.wanted, yielded]; go_simp
      refine (unhide HS x ((unhide HC3).on bx) ((unhide HD3).on bx)).mono ?_
      rintro e wy ⟨rfl, by1⟩
      go_simp
      first | done | exact hC.on by1 | exact ⟨rfl, hC.on by1⟩ | (simp; exact hC.on by1)
    | 4 => simp at ho; subst ho; simp [gwp, Region.wanted, yielded]; go_simp; first | done | exact hC0 | exact ⟨rfl, hC0⟩ | (simp; exact hC0) | (refine ⟨by simp <;> omega, hC0⟩)
    | 5 => simp at ho; subst ho; simp [gwp, Region.wanted, yielded]; go_simp; first | done | exact hC0 | exact ⟨rfl, hC0⟩ | (simp; exact hC0) | (refine ⟨by simp <;> omega, hC0⟩)
    | 6 => simp at ho; subst ho; simp [gwp, Region.wanted, yielded]; go_simp; first | done | exact hC0 | exact ⟨rfl, hC0⟩ | (simp; exact hC0) | (refine ⟨by simp <;> omega, hC0⟩)
    | 7 =>
      simp at ho; subst ho; simp [gwp, Region.wanted, yielded]; go_simp
      refine (unhide HOI x ((unhide HC3).on bx)).mono ?_
      rintro e wy ⟨rfl, by1⟩
      go_simp
      first | done | exact hC.on by1 | exact ⟨rfl, hC.on by1⟩ | (simp; exact hC.on by1)
    | 8 => simp at ho; subst ho; simp [gwp, Region.wanted, yielded]; go_simp; first | done | exact hC0 | exact ⟨rfl, hC0⟩ | (simp; exact hC0) | (refine ⟨by simp <;> omega, hC0⟩)
    | 9 =>
      simp at ho; subst ho; simp [gwp, Region.wanted, yielded]; go_simp
      refine (unhide HOS x ((unhide HC3).on bx)).mono ?_
      rintro e wy ⟨rfl, by1⟩
      go_simp
      first | done | exact hC.on by1 | exact ⟨rfl, hC.on by1⟩ | (simp; exact hC.on by1)
    | 10 => simp at ho; subst ho; simp [gwp, Region.wanted, yielded]; go_simp; first | done | exact hC0 | exact ⟨rfl, hC0⟩ | (simp; exact hC0) | (refine ⟨by simp <;> omega, hC0⟩)
    | i + 11 => omega
  · intro full hfull us j hj
    simp at hj
  intro full hfull us w4 hus hC
  simp [putAll, slotOf, Act.put] at hfull
  subst hfull
  match us, hus with
  | [], _ =>
  have b4 := hC.below
  clear hC
  have HC4 := hide ((unhide HC3).on b4)
  have HD4 := hide ((unhide HD3).on b4)
  have HB4 := hide ((unhide HB3).trans (b4.mono (unhide HB3).size))
  have hlt4 : w1.heap.size < w4.heap.size := Nat.lt_of_lt_of_le hlt3 b4.size
  rw [← b4.cell (p := ⟨w1.heap.size, _, none⟩) hlt3] at x0 x1
  clear HC3 HD3 HB3 b4 hlt3
  simp [putP, slotOf, Act.put]
  clear HOI HOS HS
  cases z with
  | false =>
    go_wp2_with fail
    go_ret
    exact ⟨rfl, unhide HB4⟩
  | true =>
    have HL := hide (ldLess_any vars va ls vc hcap n2 (by unfold maxLen; omega) w4 (unhide HC4) (by omega))
    have HLY := hide (fun (cs' : List (List Int)) (h1 : cs'.length ≤ ls.length) (h2 : ∀ c, c ∈ cs' → c ∈ ls) => true_sub (unhide HZ) h1 h2)
    go_wp2_with fail
    refine (unhide HL).mono ?_
    rintro e w5 ⟨⟨a', cs', c', rfl, hcl, hlen, hmem⟩, b5⟩
    have HF := hide (implCnfTrue_any vars a' cs' c' da dm dc w5 hcl ((unhide HD4).on b5))
    rw [unhide HLY cs' hlen hmem] at HF
    clear HL HLY hcl hlen hmem
    have HB5 := hide ((unhide HB4).trans (b5.mono (unhide HB4).size))
    have hlt5 : w1.heap.size < w5.heap.size := Nat.lt_of_lt_of_le hlt4 b5.size
    clear  HB4 b5 hlt4
    go_wp2_with fail
    refine (unhide HF).mono ?_
    rintro e w6 ⟨rfl, b6⟩
    clear HF
    have HB6 := hide ((unhide HB5).trans (b6.mono (unhide HB5).size))
    have hlt6 : w1.heap.size < w6.heap.size := Nat.lt_of_lt_of_le hlt5 b6.size
    clear  HB5 b6 hlt5
    go_wp2_with fail
    go_ret
    exact ⟨rfl, unhide HB6⟩
end Go.Proofs.Ythkhaemlcmkkjaf
