/- What is found with choices enough, and that it is the first model; pure. -/
import Derived.Test.YthkhaemlcmkkjaiSatB
import Derived.Test.YthkhaemlcmkkjaiSatL
namespace Go.Proofs.Ythkhaemlcmkkjai
set_option linter.unusedVariables false
set_option linter.unusedSimpArgs false

/-- a is ahead of b: at the first place where they part a is not so. -/
def AheadB (a b : List Bool) : Prop := ∃ i, i < a.length ∧ i < b.length ∧ (∀ j, j < i → a.getD j false = b.getD j false) ∧ a.getD i false = false ∧ b.getD i false = true
theorem soB_pos (m : List Bool) {v : Nat} (hv : 1 ≤ v) : soB m (v : Int) = m.getD (v - 1) false := by
  unfold soB
  rw [if_pos (by omega), show ((v : Int) - 1).toNat = v - 1 by omega]
theorem soB_neg (m : List Bool) {v : Nat} (hv : 1 ≤ v) : soB m (-(v : Int)) = !m.getD (v - 1) false := by
  unfold soB
  rw [if_neg (by omega), show (-(-(v : Int)) - 1).toNat = v - 1 by omega]
theorem true_parts {vars : Int} {cs : List (List Int)} {m : List Bool} (h : cnfTrueB vars cs m = true) : cnfB vars cs = true ∧ (m.length : Int) = vars ∧ ∀ c, c ∈ cs → holdsB m c = true := by
  unfold cnfTrueB at h
  simp only [Bool.and_eq_true, decide_eq_true_eq, List.all_eq_true] at h
  exact ⟨h.1, h.2.1, h.2.2⟩
section
variable {cs : List (List Int)} {vars most : Nat}
/-- Two models that have the choices agree in all that is known of them. -/
theorem known_same (hok : cnfB (vars : Int) cs = true) {ch : List Int} (hr : RngL vars ch) (hc : confB cs ch = false) {m m' : List Bool} (hm : ∀ c, c ∈ cs → holdsB m c = true) (hm' : ∀ c, c ∈ cs → holdsB m' c = true) (hl : ∀ x, x ∈ ch → soB m x = true) (hl' : ∀ x, x ∈ ch → soB m' x = true) {u : Nat} (hu : 1 ≤ u) (hk : upK cs ch u ≠ 0) : m.getD (u - 1) false = m'.getD (u - 1) false := by
  have hncf : ¬ Conf cs ch := fun h => by rw [confB_true h] at hc; cases hc
  rcases upK_tri cs ch u with h | h | h
  · have hup : UP cs ch (u : Int) := (upK_val (cnf_nz hok) hr.nz hncf (by omega)).1 (by unfold valK; rw [if_neg (by omega), Int.natAbs_natCast]; exact h)
    have h1 := up_model (cnf_nz hok) hm hl hup
    have h2 := up_model (cnf_nz hok) hm' hl' hup
    rw [soB_pos _ hu] at h1 h2
    rw [h1, h2]
  · exact absurd h hk
  · have hup : UP cs ch (-(u : Int)) := (upK_val (cnf_nz hok) hr.nz hncf (by omega)).1 (by unfold valK; rw [if_pos (by omega), Int.natAbs_neg, Int.natAbs_natCast, h]; rfl)
    have h1 := up_model (cnf_nz hok) hm hl hup
    have h2 := up_model (cnf_nz hok) hm' hl' hup
    rw [soB_neg _ hu] at h1 h2
    simp only [Bool.not_eq_true'] at h1 h2
    rw [h1, h2]
theorem snoc_so {ch : List Int} {m : List Bool} (h : ∀ x, x ∈ ch → soB m x = true) {y : Int} (hy : soB m y = true) : ∀ x, x ∈ ch ++ [y] → soB m x = true := fun x hx => by
  rcases List.mem_append.1 hx with hx | hx
  · exact h x hx
  · rw [List.mem_singleton] at hx; rw [hx]; exact hy
/-- What cannot be has no model. -/
theorem find_none (hok : cnfB (vars : Int) cs = true) : ∀ (k : Nat) (ch : List Int) (n : Nat), RngL vars ch → (findZ cs vars most k ch n).code = 2 → ∀ m, (∀ c, c ∈ cs → holdsB m c = true) → (∀ x, x ∈ ch → soB m x = true) → False
  | 0, ch, n, hr, h, m, hm, hl => by unfold findZ at h; cases h
  | k + 1, ch, n, hr, h, m, hm, hl => by
    cases hc : confB cs ch with
    | true => exact conf_model (cnf_nz hok) hr.nz hm hl (confB_iff.1 hc)
    | false =>
      by_cases h1 : vars < openV (upK cs ch) vars
      · rw [find_yes hc h1] at h; cases h
      · by_cases h2 : most ≤ n
        · rw [find_long hc h1 h2] at h; cases h
        · obtain ⟨v1, v2, _, _⟩ := open_rng (upK cs ch) h1
          obtain ⟨v, hv⟩ : ∃ v, v = openV (upK cs ch) vars := ⟨_, rfl⟩
          rw [← hv] at v1 v2 h1
          rw [find_step hc hv h1 h2 rfl] at h
          split at h
          · rename_i ha
            split at h
            · rename_i hb
              cases e : m.getD (v - 1) false with
              | true => exact find_none hok k _ _ (hr.snoc (by omega) (by omega) (by omega)) hb m hm (snoc_so hl (by rw [soB_pos _ v1]; exact e))
              | false => exact find_none hok k _ _ (hr.snoc (by omega) (by omega) (by omega)) ha m hm (snoc_so hl (by rw [soB_neg _ v1, e]; rfl))
            · rename_i hb
              exact absurd h hb
          · rename_i ha
            exact absurd h ha
/-- The model that is found is the first: none is ahead of it. -/
theorem find_first (hok : cnfB (vars : Int) cs = true) : ∀ (k : Nat) (ch : List Int) (n : Nat), RngL vars ch → (findZ cs vars most k ch n).code = 1 → ∀ m, (∀ c, c ∈ cs → holdsB m c = true) → (∀ x, x ∈ ch → soB m x = true) → ¬ AheadB m (findZ cs vars most k ch n).model
  | 0, ch, n, hr, h, m, hm, hl => by unfold findZ at h; cases h
  | k + 1, ch, n, hr, h, m, hm, hl => by
    have hext := find_ext hok (k + 1) ch n hr h
    obtain ⟨_, hlen, hmm⟩ := true_parts hext.1
    cases hc : confB cs ch with
    | true => rw [find_conf hc] at h; cases h
    | false =>
      by_cases h1 : vars < openV (upK cs ch) vars
      · rintro ⟨i, hi1, hi2, _, h0, h3⟩
        have hs := known_same hok hr hc hm hmm hl hext.2 (u := i + 1) (by omega) (open_all _ h1 (i + 1) (by omega) (by omega))
        rw [Nat.add_sub_cancel, h0, h3] at hs
        cases hs
      · by_cases h2 : most ≤ n
        · rw [find_long hc h1 h2] at h; cases h
        · obtain ⟨v1, v2, _, vlow⟩ := open_rng (upK cs ch) h1
          obtain ⟨v, hv⟩ : ∃ v, v = openV (upK cs ch) vars := ⟨_, rfl⟩
          rw [← hv] at v1 v2 vlow h1
          have r1 : RngL vars (ch ++ [-(v : Int)]) := hr.snoc (by omega) (by omega) (by omega)
          have r2 : RngL vars (ch ++ [(v : Int)]) := hr.snoc (by omega) (by omega) (by omega)
          rw [find_step hc hv h1 h2 rfl] at h hext hlen hmm ⊢
          split at h
          · rename_i ha
            rw [if_pos ha] at hext hlen hmm ⊢
            split at h
            · cases h
            · rename_i hb
              rw [if_neg hb] at hext hlen hmm ⊢
              cases e : m.getD (v - 1) false with
              | true => exact find_first hok k _ _ r2 h m hm (snoc_so hl (by rw [soB_pos _ v1]; exact e))
              | false => exact (find_none hok k _ _ r1 ha m hm (snoc_so hl (by rw [soB_neg _ v1, e]; rfl))).elim
          · rename_i ha
            rw [if_neg ha] at hext hlen hmm ⊢
            cases e : m.getD (v - 1) false with
            | false => exact find_first hok k _ _ r1 h m hm (snoc_so hl (by rw [soB_neg _ v1, e]; rfl))
            | true =>
              have hv0 := (find_ext hok k _ _ r1 h).2 (-(v : Int)) (by simp)
              rw [soB_neg _ v1] at hv0
              rintro ⟨i, hi1, hi2, hsame, h0, h3⟩
              by_cases hlt : i < v - 1
              · have hs := known_same hok hr hc hm hmm hl hext.2 (u := i + 1) (by omega) (vlow (i + 1) (by omega) (by omega))
                rw [Nat.add_sub_cancel, h0, h3] at hs
                cases hs
              · by_cases hie : i = v - 1
                · rw [hie, e] at h0; cases h0
                · have := hsame (v - 1) (by omega)
                  rw [e] at this
                  rw [← this] at hv0
                  cases hv0
end
/-- With choices enough nothing takes too long. -/
theorem sat_full {vars most : Int} {cs : List (List Int)} (hok : cnfB vars cs = true) (hv : vars ≤ 12) (hm0 : 2048 ≤ most) (hm1 : most ≤ 3000) : (satZ vars cs most).1 = 1 ∨ (satZ vars cs most).1 = 2 := by
  obtain ⟨hv0, hv1⟩ := cnf_vars hok
  have hin : (cnfB vars cs && inB most 0 3000) = true := by
    rw [hok, Bool.true_and]
    simp only [inB, Bool.and_eq_true, decide_eq_true_eq]
    omega
  obtain ⟨n, rfl⟩ : ∃ n : Nat, vars = n := ⟨vars.toNat, by omega⟩
  obtain ⟨k, m, p, hr⟩ : ∃ k m p, satZ (n : Int) cs most = (k, m, p) := ⟨_, _, _, rfl⟩
  have hk : (satZ (n : Int) cs most).1 = k := by rw [hr]
  have hcase := (sat_small hr).2.2.2.2.2
  rw [← hk] at hcase
  rcases hcase with h | h | h | h
  · exact .inl h
  · exact .inr h
  · rw [satZ_find hin, Int.toNat_natCast] at h
    have h3 : (findZ cs n most.toNat 401 [] 0).code = 3 := h
    have hb := (find_bound (most := most.toNat) hok 401 [] 0 n (fun x hx => by cases hx) (by omega) (.inr (by have : 1 ≤ openV (upK cs []) n := openF_ge _ _ _; omega))).2 h3
    have : 2 ^ (n - 1) ≤ 2 ^ 11 := Nat.pow_le_pow_right (by omega) (by omega)
    have h11 : (2 : Nat) ^ 11 = 2048 := rfl
    omega
  · rw [satZ_find hin, Int.toNat_natCast] at h
    have h9 : (findZ cs n most.toNat 401 [] 0).code = 9 := h
    have key : ∀ (k : Nat) (ch : List Int) (j : Nat), (findZ cs n most.toNat k ch j).code ≠ 9 := fun k => by
      induction k with
      | zero => intro ch j; unfold findZ; exact (by decide : (3 : Int) ≠ 9)
      | succ k ih =>
        intro ch j
        cases hc : confB cs ch with
        | true => rw [find_conf hc]; exact (by decide : (2 : Int) ≠ 9)
        | false =>
          by_cases h1 : n < openV (upK cs ch) n
          · rw [find_yes hc h1]; exact (by decide : (1 : Int) ≠ 9)
          · by_cases h2 : most.toNat ≤ j
            · rw [find_long hc h1 h2]; exact (by decide : (3 : Int) ≠ 9)
            · rw [find_step hc rfl h1 h2 rfl]
              split
              · split
                · exact (by decide : (2 : Int) ≠ 9)
                · exact ih _ _
              · exact ih _ _
    exact absurd h9 (key _ _ _)
/-- No model is ahead of the one that is found. -/
theorem sat_first {vars most : Int} {cs : List (List Int)} {m m' : List Bool} {p : List (List Int)} (h : satZ vars cs most = (1, m, p)) (hm : cnfTrueB vars cs m' = true) : ¬ AheadB m' m := by
  obtain ⟨hok, hlen, hm'⟩ := true_parts hm
  cases hb : (cnfB vars cs && inB most 0 3000) with
  | false =>
    rw [satZ_bad hb] at h
    simp at h
  | true =>
    obtain ⟨n, hn⟩ : ∃ n : Nat, vars = n := ⟨m'.length, hlen.symm⟩
    subst hn
    rw [satZ_find hb, Int.toNat_natCast] at h
    have h1 : (findZ cs n most.toNat 401 [] 0).code = 1 := congrArg (fun r : SatR => r.1) h
    have h2 : (findZ cs n most.toNat 401 [] 0).model = m := congrArg (fun r : SatR => r.2.1) h
    rw [← h2]
    exact find_first hok 401 [] 0 (fun x hx => by cases hx) h1 m' hm' (fun x hx => by cases hx)
end Go.Proofs.Ythkhaemlcmkkjai
