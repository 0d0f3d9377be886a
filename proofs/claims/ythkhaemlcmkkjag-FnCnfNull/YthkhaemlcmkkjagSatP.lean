/- What the first model, and a refutation, are; pure. -/
import Derived.Test.YthkhaemlcmkkjagGUp
import Derived.Test.YthkhaemlcmkkjagGCn
namespace Go.Proofs.Ythkhaemlcmkkjag
set_option linter.unusedVariables false
set_option linter.unusedSimpArgs false

theorem up_full {cs : List (List Int)} {ls : List Int} (hc : NzC cs) (hl : NzL ls) (h : ¬ Conf cs ls) : FullK cs ls (upK cs ls) := by
  refine ⟨fun x hx => (upK_val hc hl h (hl x hx)).2 (.given hx), fun c hcm => ?_⟩
  have hs : SoundK cs ls (upK cs ls) := fun x hx hv => (upK_val hc hl h hx).1 hv
  by_cases h1 : ∃ x, x ∈ c ∧ valK (upK cs ls) x = 1
  · obtain ⟨x, hx, hv⟩ := h1
    exact .inl ⟨x, hx, hv⟩
  · right
    have hno : ∀ x, x ∈ c → valK (upK cs ls) x ≠ 1 := fun x hx hv => h1 ⟨x, hx, hv⟩
    have key : ∀ x, x ∈ c → ∃ y, y ∈ c ∧ y ≠ x ∧ valK (upK cs ls) y = 0 := fun x hx => Classical.byContradiction fun hn => by
      have hlow : ∀ y, y ∈ c → y ≠ x → valK (upK cs ls) y = -1 := fun y hy hne => by
        rcases valK_tri (upK_tri cs ls) y with e | e | e
        · exact absurd e (hno y hy)
        · exact absurd ⟨y, hy, hne, e⟩ hn
        · exact e
      exact hno x hx ((upK_val hc hl h (hc c hcm x hx)).2 (unit_of hc hs hcm hx hlow))
    cases c with
    | nil => exact absurd (.inl hcm) h
    | cons x c =>
      obtain ⟨y, hy, _, hy0⟩ := key x (by simp)
      obtain ⟨z, hz, hne, hz0⟩ := key y hy
      exact ⟨z, hz, y, hy, hne, hz0, hy0⟩
theorem open_rng (K : Nat → Int) {vars : Nat} (h : ¬ vars < openV K vars) : 1 ≤ openV K vars ∧ openV K vars ≤ vars ∧ K (openV K vars) = 0 ∧ ∀ u, 1 ≤ u → u < openV K vars → K u ≠ 0 := by
  have h1 := openF_ge K vars 1
  exact ⟨h1, by omega, openF_at K vars 1 (by show openV K vars < _; omega), fun u hu hlt => openF_low K vars 1 u hu hlt⟩
end Go.Proofs.Ythkhaemlcmkkjag
