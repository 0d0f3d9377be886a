/- The exact law's own functions on steps: the same, marked, held. -/
import Derived.Test.YthkhaemlcmkkjayGPd
import Derived.Test.YthkhaemlcmkkjayGReg
import Derived.Test.YthkhaemlcmkkjayGMw
namespace Go.Proofs.Ythkhaemlcmkkjay
set_option linter.unusedVariables false
set_option linter.unusedSimpArgs false
open Go.RowKit Go.Deep

/-- Steps in memory of their own. -/
abbrev SR (B : Nat) (w : World) (v : Value) (ss : List StepD) : Prop := w.ownsRow B 44 3 v ss.length (stepVs ss)
set_option maxHeartbeats 1000000 in
theorem eqStep_any (s : StepD) (w : World) :
    Calls Try.prog 41 #[.agg #[.int .i64 s.kind, .int .i64 s.inn, .int .i64 s.out], .agg #[.int .i64 s.kind, .int .i64 s.inn, .int .i64 s.out]] w fun e w' => e = .returned (.bool true) ∧ Below w.heap.size w w' := by
  obtain ⟨k, i, o⟩ := s
  simp only
  go_enter Try.func41, Try.ntmps41
  go_wp2_with fail
  go_ret
  exact ⟨rfl, ((Below.refl _ _).alloc (Nat.le_refl _) _).alloc (by simp) _⟩

set_option maxRecDepth 100000 in
set_option maxHeartbeats 2000000 in
theorem eqStepS_any (a : Option Addr) (ss : List StepD) (c : Nat) (a2 : Option Addr) (c2 : Nat) (w : World) (h : StepsAt w a ss) (h2 : StepsAt w a2 ss) :
    Calls Try.prog 25 #[.slice a ss.length c, .slice a2 ss.length c2] w fun e w' => e = .returned (.bool true) ∧ Below w.heap.size w w' := by
  have hl := h.1
  have HL := hide h
  have HR := hide h2
  clear h h2
  go_enter Try.func25, Try.ntmps25
  go_wp2_with fail
  go_loopw [5] (fun i wr => ∃ k : Nat, k ≤ ss.length ∧ i = .int .i64 k ∧ Hid (Below w.heap.size w wr)) (fun i _ => ss.length - (intOf i).toNat)
  case atStart => exact ⟨0, Nat.zero_le _, rfl, Below.refl _ _⟩
  case round =>
    rename World => wo
    obtain ⟨k, hk, rfl, HB⟩ := hrel
    by_cases hlt : k < ss.length
    · have j1 : (k : Int) < (ss.length : Int) := by omega
      have j0 : (0 : Int) ≤ (k : Int) := by omega
      rcases ((unhide HL).on (unhide HB)).2 with hnil | ⟨b, o, rfl, hbl, hrk⟩
      · rw [hnil] at hlt; simp at hlt
      rcases ((unhide HR).on (unhide HB)).2 with hnil | ⟨b2, o2, rfl, hbl2, hrk2⟩
      · rw [hnil] at hlt; simp at hlt
      obtain ⟨c0, c1, c2'⟩ := hrk k hlt
      obtain ⟨d0, d1, d2⟩ := hrk2 k hlt
      generalize ss.getD k dStep = s at c0 c1 c2' d0 d1 d2
      have HC := hide (fun x => eqStep_any s x)
      clear hrk hrk2
      go_upto_region 6 with fail
      refine wp_region_mix (k := 100) 8 [] [.slice (some ⟨b, o, none⟩) ss.length c, .int .i64 (k : Int), .pointer (some ⟨b, o + k * 3, none⟩), .agg #[.int .i64 s.kind, .int .i64 s.inn, .int .i64 s.out], .slice (some ⟨b2, o2, none⟩) ss.length c2, .int .i64 (k : Int), .pointer (some ⟨b2, o2 + k * 3, none⟩), .agg #[.int .i64 s.kind, .int .i64 s.inn, .int .i64 s.out]] (CZ wo) (by kernel_rfl) (by kernel_rfl) (by kernel_rfl) (by kernel_rfl) (by kernel_rfl) (by kernel_rfl) ⟨(Below.refl _ _).drew⟩ ?_ ?_ ?_
      · intro full hfull i oo hi hns ho y fl us hC hb
        simp [putAll, slotOf, Act.put] at hfull
        subst hfull
        have bx := hC.below
        rw [← bx.cell (p := ⟨b, _, none⟩) hbl] at c0 c1 c2'
        rw [← bx.cell (p := ⟨b2, _, none⟩) hbl2] at d0 d1 d2
        have hC0 := hC.on (b' := fl) (Below.refl _ _)
        match i with
        | 0 => simp at ho; subst ho; simp [gwp, Region.wanted, yielded]; go_simp; first | done | exact hC0 | exact ⟨rfl, hC0⟩ | (simp; exact hC0)
        | 1 => simp at ho; subst ho; simp [gwp, Region.wanted, yielded]; go_simp; first | done | exact hC0 | exact ⟨rfl, hC0⟩ | (simp; exact hC0)
        | 2 => simp at ho; subst ho; simp [gwp, Region.wanted, yielded]; go_simp; first | done | exact hC0 | exact ⟨rfl, hC0⟩ | (simp; exact hC0)
        | 3 => simp at ho; subst ho; simp [gwp, Region.wanted, yielded]; go_simp; first | done | exact hC0 | exact ⟨rfl, hC0⟩ | (simp; exact hC0)
        | 4 => simp at ho; subst ho; simp [gwp, Region.wanted, yielded]; go_simp; first | done | exact hC0 | exact ⟨rfl, hC0⟩ | (simp; exact hC0)
        | 5 => simp at ho; subst ho; simp [gwp, Region.wanted, yielded]; go_simp; first | done | exact hC0 | exact ⟨rfl, hC0⟩ | (simp; exact hC0)
        | 6 => simp at ho; subst ho; simp [gwp, Region.wanted, yielded]; go_simp; first | done | exact hC0 | exact ⟨rfl, hC0⟩ | (simp; exact hC0)
        | 7 => simp at ho; subst ho; simp [gwp, Region.wanted, yielded]; go_simp; first | done | exact hC0 | exact ⟨rfl, hC0⟩ | (simp; exact hC0)
        | i + 8 => omega
      · intro full hfull us j hj
        simp at hj
      · intro full hfull us wz hus hC
        simp [putAll, slotOf, Act.put] at hfull
        subst hfull
        match us, hus with
        | [], _ =>
        have bz := hC.below
        have HC2 := hide (unhide HC wz)
        have HZ := hide ((unhide HB).trans (bz.mono (unhide HB).size))
        clear hC bz HC HB c0 c1 c2' d0 d1 d2
        simp [putP]
        go_wp2_with fail
        refine (unhide HC2).mono ?_
        rintro e w2 ⟨rfl, bb⟩
        have HB2 := hide ((unhide HZ).trans (bb.mono (unhide HZ).size))
        clear bb HC2 HZ
        go_wp2_with fail
        go_roundw
        case rel => exact ⟨k + 1, by omega, by go_num, HB2⟩
        case measure => simp [intOf]; omega
    · have j1 : ¬ (k : Int) < (ss.length : Int) := by omega
      go_wp2_with fail
      go_ret
      exact ⟨rfl, unhide HB⟩
end Go.Proofs.Ythkhaemlcmkkjay
