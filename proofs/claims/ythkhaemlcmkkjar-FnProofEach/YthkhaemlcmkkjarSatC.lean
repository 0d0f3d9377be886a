/- What is found with choices enough, and that it is the first model; pure. -/
import Derived.Test.YthkhaemlcmkkjarSatB
import Derived.Test.YthkhaemlcmkkjarSatL
namespace Go.Proofs.Ythkhaemlcmkkjar
set_option linter.unusedVariables false
set_option linter.unusedSimpArgs false

theorem true_parts {vars : Int} {cs : List (List Int)} {m : List Bool} (h : cnfTrueB vars cs m = true) : cnfB vars cs = true ∧ (m.length : Int) = vars ∧ ∀ c, c ∈ cs → holdsB m c = true := by
  unfold cnfTrueB at h
  simp only [Bool.and_eq_true, decide_eq_true_eq, List.all_eq_true] at h
  exact ⟨h.1, h.2.1, h.2.2⟩
/-- With choices enough nothing takes too long. -/
theorem sat_full {vars most : Int} {cs : List (List Int)} (hok : cnfB vars cs = true) (hv : vars ≤ 12) (hm0 : 2048 ≤ most) (hm1 : most ≤ 3000) : (satZ vars cs most).1 = 1 ∨ (satZ vars cs most).1 = 2 := by
  obtain ⟨hv0, hv1⟩ := cnf_vars hok
  have hin : (cnfB vars cs && inB most 0 3000) = true := by
    rw [hok, Bool.true_and]
    simp only [inB, Bool.and_eq_true, decide_eq_true_eq]
    omega
  obtain ⟨n, rfl⟩ : ∃ n : Nat, vars = n := ⟨vars.toNat, by omega⟩
  obtain ⟨k, m, p, hr⟩ : ∃ k m p, satZ (n : Int) cs most = (k, m, p) := ⟨_, _, _, rfl⟩
  have hk : (satZ (n : Int) cs most).1 = k := by rw [hr]
  have hcase := (sat_small hr).2.2.2.2.2
  rw [← hk] at hcase
  rcases hcase with h | h | h | h
  · exact .inl h
  · exact .inr h
  · rw [satZ_find hin, Int.toNat_natCast] at h
    have h3 : (findZ cs n most.toNat 401 [] 0).code = 3 := h
    have hb := (find_bound (most := most.toNat) hok 401 [] 0 n (fun x hx => by cases hx) (by omega) (.inr (by have : 1 ≤ openV (upK cs []) n := openF_ge _ _ _; omega))).2 h3
    have : 2 ^ (n - 1) ≤ 2 ^ 11 := Nat.pow_le_pow_right (by omega) (by omega)
    have h11 : (2 : Nat) ^ 11 = 2048 := rfl
    omega
  · rw [satZ_find hin, Int.toNat_natCast] at h
    have h9 : (findZ cs n most.toNat 401 [] 0).code = 9 := h
    have key : ∀ (k : Nat) (ch : List Int) (j : Nat), (findZ cs n most.toNat k ch j).code ≠ 9 := fun k => by
      induction k with
      | zero => intro ch j; unfold findZ; exact (by decide : (3 : Int) ≠ 9)
      | succ k ih =>
        intro ch j
        cases hc : confB cs ch with
        | true => rw [find_conf hc]; exact (by decide : (2 : Int) ≠ 9)
        | false =>
          by_cases h1 : n < openV (upK cs ch) n
          · rw [find_yes hc h1]; exact (by decide : (1 : Int) ≠ 9)
          · by_cases h2 : most.toNat ≤ j
            · rw [find_long hc h1 h2]; exact (by decide : (3 : Int) ≠ 9)
            · rw [find_step hc rfl h1 h2 rfl]
              split
              · split
                · exact (by decide : (2 : Int) ≠ 9)
                · exact ih _ _
              · exact ih _ _
    exact absurd h9 (key _ _ _)
theorem sat_code {vars most : Int} {cs : List (List Int)} {n : Nat} (hn : vars = n) (hok : cnfB vars cs = true) (hm0 : 0 ≤ most) (hm1 : most ≤ 3000) : satZ vars cs most = (findZ cs n most.toNat 401 [] 0).fin := by
  have hin : (cnfB vars cs && inB most 0 3000) = true := by
    rw [hok, Bool.true_and]
    simp only [inB, Bool.and_eq_true, decide_eq_true_eq]
    omega
  rw [satZ_find hin, hn, Int.toNat_natCast]
/-- Clauses without a model are refuted. -/
theorem sat_none {vars most : Int} {cs : List (List Int)} (hok : cnfB vars cs = true) (hv : vars ≤ 12) (hm0 : 2048 ≤ most) (hm1 : most ≤ 3000) (h : ∀ m, cnfTrueB vars cs m = false) : (satZ vars cs most).1 = 2 := by
  rcases sat_full hok hv hm0 hm1 with h1 | h1
  · obtain ⟨hv0, hv1⟩ := cnf_vars hok
    obtain ⟨n, hn⟩ : ∃ n : Nat, vars = n := ⟨vars.toNat, by omega⟩
    rw [sat_code hn hok (by omega) hm1] at h1
    subst hn
    have := (find_ext hok 401 [] 0 (fun x hx => by cases hx) h1).1
    rw [h] at this
    cases this
  · exact h1
end Go.Proofs.Ythkhaemlcmkkjar
