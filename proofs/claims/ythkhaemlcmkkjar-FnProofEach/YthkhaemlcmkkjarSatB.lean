/- How many choices a search makes at most; pure. -/
import Derived.Test.YthkhaemlcmkkjarSatP
namespace Go.Proofs.Ythkhaemlcmkkjar
set_option linter.unusedVariables false
set_option linter.unusedSimpArgs false

/-- With one variable left nothing is in its way. -/
theorem one_left {cs : List (List Int)} {vars v : Nat} (hok : cnfB (vars : Int) cs = true) {ch : List Int} (hr : RngL vars ch) (hc : confB cs ch = false) (hv1 : 1 ≤ v) (hv2 : v ≤ vars) (h0 : upK cs ch v = 0) (hall : ∀ u, 1 ≤ u → u ≤ vars → u ≠ v → upK cs ch u ≠ 0) : ¬ Conf cs (ch ++ [-(v : Int)]) := by
  have hncf : ¬ Conf cs ch := fun h => by rw [confB_true h] at hc; cases hc
  have hf := up_full (cnf_nz hok) hr.nz hncf
  obtain ⟨K', hK'⟩ : ∃ K' : Nat → Int, K' = fun u => if u = v then -1 else upK cs ch u := ⟨_, rfl⟩
  have hne : ∀ x : Int, valK (upK cs ch) x = 1 → valK K' x = 1 := fun x hx => by
    have hxv : x.natAbs ≠ v := fun e => by
      unfold valK at hx
      rw [e, h0] at hx
      split at hx <;> omega
    unfold valK at hx ⊢
    rw [hK']
    simp only [if_neg hxv]
    exact hx
  have hmv : valK K' (-(v : Int)) = 1 := by
    unfold valK
    rw [if_pos (by omega), hK']
    simp
  have hl : ∀ x, x ∈ ch ++ [-(v : Int)] → soB (modelK K' vars) x = true := fun x hx => by
    rcases List.mem_append.1 hx with hx | hx
    · exact so_val (hr x hx).1 (hr x hx).2.1 (hr x hx).2.2 (hne x (hf.1 x hx))
    · rw [List.mem_singleton] at hx
      subst hx
      exact so_val (by omega) (by omega) (by omega) hmv
  have hm : ∀ c, c ∈ cs → holdsB (modelK K' vars) c = true := fun c hcm => by
    have hlc := lits_in (cnf_lits hok c hcm)
    rcases hf.2 c hcm with ⟨x, hx, hv⟩ | ⟨x, hx, y, hy, hxy, hx0, hy0⟩
    · exact List.any_eq_true.2 ⟨x, hx, so_val (hlc x hx).1 (hlc x hx).2.1 (hlc x hx).2.2 (hne x hv)⟩
    · have key : ∀ z, z ∈ c → valK (upK cs ch) z = 0 → z.natAbs = v := fun z hz hz0 => Classical.byContradiction fun e => by
        have h1 := hlc z hz
        have h2 := hall z.natAbs (by omega) (by omega) e
        unfold valK at hz0
        split at hz0 <;> omega
      have k1 := key x hx hx0
      have k2 := key y hy hy0
      have : x = -(v : Int) ∨ y = -(v : Int) := by omega
      rcases this with e | e
      · exact List.any_eq_true.2 ⟨x, hx, by rw [e]; exact so_val (by omega) (by omega) (by omega) hmv⟩
      · exact List.any_eq_true.2 ⟨y, hy, by rw [e]; exact so_val (by omega) (by omega) (by omega) hmv⟩
  exact conf_model (cnf_nz hok) (hr.snoc (x := -(v : Int)) (by omega) (by omega) (by omega)).nz hm hl
/-- Behind a choice all that was known is, and what was chosen. -/
theorem child_open {cs : List (List Int)} {vars v : Nat} (hok : cnfB (vars : Int) cs = true) {ch : List Int} (hr : RngL vars ch) (hc : confB cs ch = false) (hv : v = openV (upK cs ch) vars) (h1 : ¬ vars < v) {x : Int} (hx : x = (v : Int) ∨ x = -(v : Int)) (hc2 : confB cs (ch ++ [x]) = false) : v < openV (upK cs (ch ++ [x])) vars := by
  have hncf : ¬ Conf cs ch := fun h => by rw [confB_true h] at hc; cases hc
  have hncf2 : ¬ Conf cs (ch ++ [x]) := fun h => by rw [confB_true h] at hc2; cases hc2
  obtain ⟨v1, v2, _, vlow⟩ := open_rng (upK cs ch) (vars := vars) (by rw [← hv]; exact h1)
  rw [← hv] at v1 v2 vlow
  have hr2 : RngL vars (ch ++ [x]) := hr.snoc (by omega) (by omega) (by omega)
  have up : ∀ z : Int, z ≠ 0 → valK (upK cs ch) z = 1 → valK (upK cs (ch ++ [x])) z = 1 := fun z hz h => (upK_val (cnf_nz hok) hr2.nz hncf2 hz).2 (((upK_val (cnf_nz hok) hr.nz hncf hz).1 h).mono (fun _ h => h) (fun _ h => List.mem_append_left _ h))
  have known : ∀ u : Nat, 1 ≤ u → u ≤ v → upK cs (ch ++ [x]) u ≠ 0 := fun u hu1 hu2 h0 => by
    by_cases e : u = v
    · subst e
      have hg : valK (upK cs (ch ++ [x])) x = 1 := (upK_val (cnf_nz hok) hr2.nz hncf2 (by omega)).2 (.given (by simp))
      unfold valK at hg
      rw [show x.natAbs = u by omega, h0] at hg
      split at hg <;> omega
    · have hk := vlow u hu1 (by omega)
      rcases upK_tri cs ch u with h | h | h
      · have := up (u : Int) (by omega) (by unfold valK; rw [if_neg (by omega), Int.natAbs_natCast]; exact h)
        unfold valK at this
        rw [if_neg (by omega), Int.natAbs_natCast, h0] at this
        omega
      · exact hk h
      · have := up (-(u : Int)) (by omega) (by unfold valK; rw [if_pos (by omega), Int.natAbs_neg, Int.natAbs_natCast, h]; rfl)
        unfold valK at this
        rw [if_pos (by omega), Int.natAbs_neg, Int.natAbs_natCast, h0] at this
        omega
  refine Classical.byContradiction fun hn => ?_
  obtain ⟨w1, w2, w0, _⟩ := open_rng (upK cs (ch ++ [x])) (vars := vars) (by omega)
  exact known _ w1 (by omega) w0
section
variable {cs : List (List Int)} {vars most : Nat}
/-- So many choices at most are made of so many variables. -/
theorem find_bound (hok : cnfB (vars : Int) cs = true) : ∀ (k : Nat) (ch : List Int) (n d : Nat), RngL vars ch → d < k → (confB cs ch = true ∨ vars + 1 - openV (upK cs ch) vars ≤ d) →
    ((findZ cs vars most k ch n).code = 2 → (findZ cs vars most k ch n).made ≤ n + (2 ^ (d - 1) - 1)) ∧ ((findZ cs vars most k ch n).code = 3 → 1 ≤ d ∧ most + 1 ≤ n + 2 ^ (d - 1))
  | 0, ch, n, d, hr, hd, hm => by omega
  | k + 1, ch, n, d, hr, hd, hm => by
    cases hc : confB cs ch with
    | true =>
      rw [find_conf hc]
      exact ⟨fun _ => Nat.le_add_right _ _, fun h => (by cases h)⟩
    | false =>
      have hm' : vars + 1 - openV (upK cs ch) vars ≤ d := hm.resolve_left (by rw [hc]; decide)
      by_cases h1 : vars < openV (upK cs ch) vars
      · rw [find_yes hc h1]
        exact ⟨fun h => (by cases h), fun h => (by cases h)⟩
      · obtain ⟨v1, v2, v0, vlow⟩ := open_rng (upK cs ch) h1
        have hd1 : 1 ≤ d := by omega
        have hp1 : 1 ≤ 2 ^ (d - 1) := Nat.one_le_two_pow
        by_cases h2 : most ≤ n
        · rw [find_long hc h1 h2]
          exact ⟨fun h => (by cases h), fun _ => ⟨hd1, by omega⟩⟩
        · obtain ⟨v, hv⟩ : ∃ v, v = openV (upK cs ch) vars := ⟨_, rfl⟩
          rw [← hv] at v1 v2 v0 vlow hm' h1
          have r1 : RngL vars (ch ++ [-(v : Int)]) := hr.snoc (by omega) (by omega) (by omega)
          have r2 : RngL vars (ch ++ [(v : Int)]) := hr.snoc (by omega) (by omega) (by omega)
          have m1 : confB cs (ch ++ [-(v : Int)]) = true ∨ vars + 1 - openV (upK cs (ch ++ [-(v : Int)])) vars ≤ d - 1 := by
            cases e : confB cs (ch ++ [-(v : Int)]) with
            | true => exact .inl rfl
            | false => exact .inr (by have := child_open hok hr hc hv h1 (.inr rfl) e; omega)
          have m2 : confB cs (ch ++ [(v : Int)]) = true ∨ vars + 1 - openV (upK cs (ch ++ [(v : Int)])) vars ≤ d - 1 := by
            cases e : confB cs (ch ++ [(v : Int)]) with
            | true => exact .inl rfl
            | false => exact .inr (by have := child_open hok hr hc hv h1 (.inl rfl) e; omega)
          by_cases hd2 : d = 1
          · subst hd2
            have hvv : v = vars := by omega
            have hnc := one_left hok hr hc v1 v2 v0 (fun u hu1 hu2 hne => vlow u hu1 (by omega))
            have hcf := confB_false hnc
            have hopen := child_open hok hr hc hv h1 (.inr rfl) hcf
            obtain ⟨j, rfl⟩ : ∃ j, k = j + 1 := ⟨k - 1, by omega⟩
            have ha : findZ cs vars most (j + 1) (ch ++ [-(v : Int)]) (n + 1) = ⟨1, modelK (upK cs (ch ++ [-(v : Int)])) vars, n + 1, []⟩ := find_yes hcf (by omega)
            have hs := find_step (cs := cs) (vars := vars) (most := most) (k := j + 1) (n := n) hc hv h1 h2 rfl
            rw [ha, if_neg (show ¬ ((1 : Int) = 2) by decide)] at hs
            rw [hs]
            exact ⟨fun h => (by cases h), fun h => (by cases h)⟩
          · obtain ⟨e, rfl⟩ : ∃ e, d = e + 2 := ⟨d - 2, by omega⟩
            rw [show e + 2 - 1 = e + 1 by omega] at m1 m2 hp1 ⊢
            have i1 := find_bound hok k (ch ++ [-(v : Int)]) (n + 1) (e + 1) r1 (by omega) m1
            have i2 := find_bound hok k (ch ++ [(v : Int)]) (findZ cs vars most k (ch ++ [-(v : Int)]) (n + 1)).made (e + 1) r2 (by omega) m2
            rw [show e + 1 - 1 = e by omega] at i1 i2
            have hp : 2 ^ (e + 1) = 2 * 2 ^ e := by rw [Nat.pow_succ, Nat.mul_comm]
            have hp0 : 1 ≤ 2 ^ e := Nat.one_le_two_pow
            rw [find_step hc hv h1 h2 rfl, hp]
            obtain ⟨a, ha⟩ : ∃ a, a = findZ cs vars most k (ch ++ [-(v : Int)]) (n + 1) := ⟨_, rfl⟩
            rw [← ha] at i1 i2 ⊢
            obtain ⟨b, hb⟩ : ∃ b, b = findZ cs vars most k (ch ++ [(v : Int)]) a.made := ⟨_, rfl⟩
            rw [← hb] at i2 ⊢
            by_cases ca : a.code = 2
            · rw [if_pos ca]
              have j1 := i1.1 ca
              by_cases cb : b.code = 2
              · rw [if_pos cb]
                have j2 := i2.1 cb
                exact ⟨fun _ => by show b.made ≤ _; omega, fun h => (by cases h)⟩
              · rw [if_neg cb]
                exact ⟨fun h => absurd h cb, fun h => ⟨by omega, by have := (i2.2 h).2; omega⟩⟩
            · rw [if_neg ca]
              exact ⟨fun h => absurd h ca, fun h => ⟨by omega, by have := (i1.2 h).2; omega⟩⟩
end
end Go.Proofs.Ythkhaemlcmkkjar
