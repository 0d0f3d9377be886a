/- Without clauses: the first model, all false. Pure. -/
import Derived.Test.YthkhaemlcmkkjagSatC
namespace Go.Proofs.Ythkhaemlcmkkjag
set_option linter.unusedVariables false
set_option linter.unusedSimpArgs false

/-- The first j variables are not so. -/
def negL (j : Nat) : List Int := (List.range j).map fun (i : Nat) => -((i : Int) + 1)
theorem negL_more (j : Nat) : negL (j + 1) = negL j ++ [-((j + 1 : Nat) : Int)] := by simp [negL, List.range_succ]
theorem negL_mem {j : Nat} {x : Int} : x ∈ negL j ↔ -(j : Int) ≤ x ∧ x < 0 := by
  unfold negL
  rw [List.mem_map]
  constructor
  · rintro ⟨i, hi, rfl⟩
    rw [List.mem_range] at hi
    omega
  · rintro ⟨h1, h2⟩
    exact ⟨(-x - 1).toNat, by rw [List.mem_range]; omega, by omega⟩
theorem up_nil {ls : List Int} {x : Int} : UP [] ls x ↔ x ∈ ls := by
  constructor
  · intro h
    cases h with
    | given h => exact h
    | unit h _ _ => cases h
  · exact .given
theorem conf_negL (j : Nat) : confB [] (negL j) = false := confB_false (fun h => by
  rcases h with h | ⟨x, h1, h2⟩
  · cases h
  · rw [up_nil, negL_mem] at h1 h2
    omega)
theorem upK_negL (j v : Nat) (hv : 1 ≤ v) : upK [] (negL j) v = if v ≤ j then -1 else 0 := by
  unfold upK
  rw [if_neg (by rw [up_nil, negL_mem]; omega)]
  by_cases h : v ≤ j
  · rw [if_pos (by rw [up_nil, negL_mem]; omega), if_pos h]
  · rw [if_neg (by rw [up_nil, negL_mem]; omega), if_neg h]
theorem openF_negL (j : Nat) : ∀ n v, 1 ≤ v → openF (upK [] (negL j)) n v = if j + 1 ≤ v then v else min (v + n) (j + 1)
  | 0, v, hv => by
    unfold openF
    split <;> omega
  | n + 1, v, hv => by
    unfold openF
    rw [upK_negL j v hv]
    by_cases h : v ≤ j
    · rw [if_pos h, if_neg (by omega), openF_negL j n (v + 1) (by omega)]
      split <;> split <;> omega
    · rw [if_neg h, if_pos rfl, if_pos (by omega)]
theorem openV_negL (j vars : Nat) : openV (upK [] (negL j)) vars = if vars ≤ j then vars + 1 else j + 1 := by
  unfold openV
  rw [openF_negL j vars 1 (Nat.le_refl _)]
  by_cases h0 : j = 0
  · subst h0
    simp <;> (split <;> omega)
  · rw [if_neg (by omega)]
    split <;> omega
theorem find_nil (vars most : Nat) : ∀ (r k j n : Nat), r = vars - j → j ≤ vars → r < k → n + r ≤ most → (findZ [] vars most k (negL j) n).code = 1 ∧ (findZ [] vars most k (negL j) n).model = List.replicate vars false ∧ (findZ [] vars most k (negL j) n).proof = []
  | 0, k, j, n, hr, hj, hk, hm => by
    obtain ⟨k, rfl⟩ : ∃ q, k = q + 1 := ⟨k - 1, by omega⟩
    rw [find_yes (conf_negL j) (by rw [openV_negL]; split <;> omega)]
    refine ⟨rfl, ?_, rfl⟩
    show modelK (upK [] (negL j)) vars = _
    unfold modelK
    apply List.ext_getElem
    · simp
    · intro i h1 h2
      simp only [List.getElem_map, List.getElem_range, List.getElem_replicate, decide_eq_false_iff_not]
      rw [upK_negL j (i + 1) (by omega)]
      split <;> omega
  | r + 1, k, j, n, hr, hj, hk, hm => by
    obtain ⟨k, rfl⟩ : ∃ q, k = q + 1 := ⟨k - 1, by omega⟩
    have hv : openV (upK [] (negL j)) vars = j + 1 := by rw [openV_negL, if_neg (by omega)]
    have ih := find_nil vars most r k (j + 1) (n + 1) (by omega) (by omega) (by omega) (by omega)
    have hs := find_step (most := most) (n := n) (k := k) (conf_negL j) hv.symm (by omega) (by omega) (a := findZ [] vars most k (negL j ++ [-((j + 1 : Nat) : Int)]) (n + 1)) rfl
    rw [← negL_more] at hs
    rw [hs, if_neg (by rw [ih.1]; decide)]
    exact ih
theorem sat_nil {vars : Int} (h0 : 0 ≤ vars) (h1 : vars ≤ 400) : satZ vars [] 3000 = (1, List.replicate vars.toNat false, []) := by
  have hok : cnfB vars [] = true := by simp [cnfB, inB]; omega
  obtain ⟨n, rfl⟩ : ∃ n : Nat, vars = (n : Int) := ⟨vars.toNat, by omega⟩
  rw [sat_code rfl hok (by omega) (by omega)]
  obtain ⟨e1, e2, e3⟩ := find_nil n (3000 : Int).toNat n 401 0 0 (by omega) (by omega) (by omega) (by omega)
  unfold FindR.fin
  rw [show ([] : List Int) = negL 0 from rfl, e1, e2, e3, Int.toNat_natCast]
end Go.Proofs.Ythkhaemlcmkkjag
