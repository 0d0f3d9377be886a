/- What the first model, and a refutation, are; pure. -/
import Derived.Test.YthkhaemlcmkkjarGUp
import Derived.Test.YthkhaemlcmkkjarGCn
namespace Go.Proofs.Ythkhaemlcmkkjar
set_option linter.unusedVariables false
set_option linter.unusedSimpArgs false

theorem up_full {cs : List (List Int)} {ls : List Int} (hc : NzC cs) (hl : NzL ls) (h : ¬ Conf cs ls) : FullK cs ls (upK cs ls) := by
  refine ⟨fun x hx => (upK_val hc hl h (hl x hx)).2 (.given hx), fun c hcm => ?_⟩
  have hs : SoundK cs ls (upK cs ls) := fun x hx hv => (upK_val hc hl h hx).1 hv
  by_cases h1 : ∃ x, x ∈ c ∧ valK (upK cs ls) x = 1
  · obtain ⟨x, hx, hv⟩ := h1
    exact .inl ⟨x, hx, hv⟩
  · right
    have hno : ∀ x, x ∈ c → valK (upK cs ls) x ≠ 1 := fun x hx hv => h1 ⟨x, hx, hv⟩
    have key : ∀ x, x ∈ c → ∃ y, y ∈ c ∧ y ≠ x ∧ valK (upK cs ls) y = 0 := fun x hx => Classical.byContradiction fun hn => by
      have hlow : ∀ y, y ∈ c → y ≠ x → valK (upK cs ls) y = -1 := fun y hy hne => by
        rcases valK_tri (upK_tri cs ls) y with e | e | e
        · exact absurd e (hno y hy)
        · exact absurd ⟨y, hy, hne, e⟩ hn
        · exact e
      exact hno x hx ((upK_val hc hl h (hc c hcm x hx)).2 (unit_of hc hs hcm hx hlow))
    cases c with
    | nil => exact absurd (.inl hcm) h
    | cons x c =>
      obtain ⟨y, hy, _, hy0⟩ := key x (by simp)
      obtain ⟨z, hz, hne, hz0⟩ := key y hy
      exact ⟨z, hz, y, hy, hne, hz0, hy0⟩
theorem modelK_len' (K : Nat → Int) (n : Nat) : (modelK K n).length = n := by simp [modelK]
theorem modelK_get (K : Nat → Int) {n i : Nat} (hi : i < n) : (modelK K n).getD i false = decide (0 < K (i + 1)) := by simp [modelK, List.getD, hi]
theorem so_val {K : Nat → Int} {n : Nat} {x : Int} (hx : x ≠ 0) (h1 : -(n : Int) ≤ x) (h2 : x ≤ n) (hv : valK K x = 1) : soB (modelK K n) x = true := by
  unfold soB
  unfold valK at hv
  by_cases hp : 0 < x
  · rw [if_pos hp, modelK_get K (by omega), show (x - 1).toNat + 1 = x.natAbs by omega]
    rw [if_neg (by omega)] at hv
    rw [hv]; rfl
  · rw [if_neg hp, modelK_get K (by omega), show (-x - 1).toNat + 1 = x.natAbs by omega]
    rw [if_pos (by omega)] at hv
    rw [show K x.natAbs = -1 by omega]; rfl
/-- Literals of so many variables. -/
def RngL (vars : Nat) (ls : List Int) : Prop := ∀ x, x ∈ ls → x ≠ 0 ∧ -(vars : Int) ≤ x ∧ x ≤ vars
theorem RngL.nz {vars : Nat} {ls : List Int} (h : RngL vars ls) : NzL ls := fun x hx => (h x hx).1
theorem RngL.snoc {vars : Nat} {ls : List Int} (h : RngL vars ls) {x : Int} (h0 : x ≠ 0) (h1 : -(vars : Int) ≤ x) (h2 : x ≤ vars) : RngL vars (ls ++ [x]) := fun y hy => by
  rcases List.mem_append.1 hy with hy | hy
  · exact h y hy
  · rw [List.mem_singleton] at hy; rw [hy]; exact ⟨h0, h1, h2⟩
theorem open_rng (K : Nat → Int) {vars : Nat} (h : ¬ vars < openV K vars) : 1 ≤ openV K vars ∧ openV K vars ≤ vars ∧ K (openV K vars) = 0 ∧ ∀ u, 1 ≤ u → u < openV K vars → K u ≠ 0 := by
  have h1 := openF_ge K vars 1
  exact ⟨h1, by omega, openF_at K vars 1 (by show openV K vars < _; omega), fun u hu hlt => openF_low K vars 1 u hu hlt⟩
theorem open_all (K : Nat → Int) {vars : Nat} (h : vars < openV K vars) : ∀ u, 1 ≤ u → u ≤ vars → K u ≠ 0 := fun u hu hle => openF_low K vars 1 u hu (by show u < openV K vars; omega)
theorem yes_model {cs : List (List Int)} {vars : Nat} (hok : cnfB (vars : Int) cs = true) {ch : List Int} (hr : RngL vars ch) (hc : confB cs ch = false) (hy : vars < openV (upK cs ch) vars) : cnfTrueB (vars : Int) cs (modelK (upK cs ch) vars) = true ∧ ∀ x, x ∈ ch → soB (modelK (upK cs ch) vars) x = true := by
  have hncf : ¬ Conf cs ch := fun h => by rw [confB_true h] at hc; cases hc
  have hf := up_full (cnf_nz hok) hr.nz hncf
  have hall := open_all _ hy
  refine ⟨?_, fun x hx => so_val (hr x hx).1 (hr x hx).2.1 (hr x hx).2.2 (hf.1 x hx)⟩
  unfold cnfTrueB
  rw [hok, modelK_len', decide_eq_true rfl, Bool.true_and, Bool.true_and, List.all_eq_true]
  intro c hcm
  have hl := lits_in (cnf_lits hok c hcm)
  have known : ∀ x, x ∈ c → valK (upK cs ch) x ≠ 0 := fun x hx => by
    have h1 := hl x hx
    have h2 := hall x.natAbs (by omega) (by omega)
    unfold valK
    split <;> omega
  rcases hf.2 c hcm with ⟨x, hx, hv⟩ | ⟨x, hx, _, _, _, h0, _⟩
  · exact List.any_eq_true.2 ⟨x, hx, so_val (hl x hx).1 (hl x hx).2.1 (hl x hx).2.2 hv⟩
  · exact absurd h0 (known x hx)
section
variable {cs : List (List Int)} {vars most : Nat}
/-- A model that is found is one, behind these choices. -/
theorem find_ext (hok : cnfB (vars : Int) cs = true) : ∀ (k : Nat) (ch : List Int) (n : Nat), RngL vars ch → (findZ cs vars most k ch n).code = 1 → cnfTrueB (vars : Int) cs (findZ cs vars most k ch n).model = true ∧ ∀ x, x ∈ ch → soB (findZ cs vars most k ch n).model x = true
  | 0, ch, n, hr, h => by unfold findZ at h; cases h
  | k + 1, ch, n, hr, h => by
    cases hc : confB cs ch with
    | true => rw [find_conf hc] at h; cases h
    | false =>
      by_cases h1 : vars < openV (upK cs ch) vars
      · rw [find_yes hc h1]; exact yes_model hok hr hc h1
      · by_cases h2 : most ≤ n
        · rw [find_long hc h1 h2] at h; cases h
        · obtain ⟨v1, v2, _, _⟩ := open_rng _ h1
          rw [find_step hc rfl h1 h2 rfl] at h ⊢
          split at h
          · rename_i ha
            rw [if_pos ha]
            split at h
            · cases h
            · rename_i hb
              rw [if_neg hb]
              have i2 := find_ext hok k _ _ (hr.snoc (by omega) (by omega) (by omega)) h
              exact ⟨i2.1, fun x hx => i2.2 x (List.mem_append_left _ hx)⟩
          · rename_i ha
            rw [if_neg ha]
            have i1 := find_ext hok k _ _ (hr.snoc (by omega) (by omega) (by omega)) h
            exact ⟨i1.1, fun x hx => i1.2 x (List.mem_append_left _ hx)⟩
end
end Go.Proofs.Ythkhaemlcmkkjar
