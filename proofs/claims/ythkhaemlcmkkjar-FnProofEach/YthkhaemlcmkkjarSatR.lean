/- What is told as a refutation is one; a refutation shows that there is no model; pure. -/
import Derived.Test.YthkhaemlcmkkjarSatL
import Derived.Test.YthkhaemlcmkkjarFPrf
namespace Go.Proofs.Ythkhaemlcmkkjar
set_option linter.unusedVariables false
set_option linter.unusedSimpArgs false

theorem noL_mem {l : List Int} {y : Int} (h : y ∈ noL l) : -y ∈ l := by
  obtain ⟨x, hx, rfl⟩ := List.mem_map.1 h
  rw [Int.neg_neg]; exact hx
/-- What is refuted has no model. -/
theorem ref_model {cs : List (List Int)} {m : List Bool} (hc : NzC cs) (hm : ∀ c, c ∈ cs → holdsB m c = true) : ∀ (ps : List (List Int)), NzC ps → refB cs ps = true → ∀ c, c ∈ ps → holdsB m c = true := fun ps => by
  induction ps generalizing cs with
  | nil => intro _ _ c hcm; cases hcm
  | cons d ps ih =>
    intro hz hr c hcm
    rw [refB, Bool.and_eq_true] at hr
    have hd : holdsB m d = true := by
      cases e : holdsB m d with
      | true => rfl
      | false =>
        exfalso
        refine conf_model (m := m) hc (fun x hx => ?_) hm (fun x hx => ?_) (confB_iff.1 hr.1)
        · have := hz d (by simp) _ (noL_mem hx); omega
        · have hx' := noL_mem hx
          have hz' := hz d (by simp) _ hx'
          have h1 : soB m (-x) = false := by
            cases e2 : soB m (-x) with
            | false => rfl
            | true =>
              have : holdsB m d = true := List.any_eq_true.2 ⟨_, hx', e2⟩
              rw [e] at this
              cases this
          rw [show x = -(-x) by omega, so_neg hz', h1]
          rfl
    rcases List.mem_cons.1 hcm with rfl | hcm
    · exact hd
    · refine ih (cs := cs ++ [d]) (fun e he => ?_) (fun e he => ?_) (fun e he => hz e (by simp [he])) hr.2 c hcm
      · rcases List.mem_append.1 he with he | he
        · exact hc e he
        · rw [List.mem_singleton] at he; rw [he]; exact hz d (by simp)
      · rcases List.mem_append.1 he with he | he
        · exact hm e he
        · rw [List.mem_singleton] at he; rw [he]; exact hd
theorem proof_parts {vars : Int} {cs ps : List (List Int)} (h : proofZ vars cs ps = true) : cnfB vars cs = true ∧ 1 ≤ ps.length ∧ ps.length ≤ 6001 ∧ ps.getD (ps.length - 1) [] = [] ∧ (∀ c, c ∈ ps → litsB vars c = true) ∧ refB cs ps = true := by
  unfold proofZ at h
  simp only [Bool.and_eq_true, decide_eq_true_eq, List.all_eq_true] at h
  exact ⟨h.1, h.2.1.1, h.2.1.2, h.2.2.1, h.2.2.2.1, h.2.2.2.2⟩
theorem proof_sound {vars : Int} {cs ps : List (List Int)} (h : proofZ vars cs ps = true) (m : List Bool) : cnfTrueB vars cs m = false := by
  obtain ⟨h1, h2, h3, h4, h5, h6⟩ := proof_parts h
  cases e : cnfTrueB vars cs m with
  | false => rfl
  | true =>
    unfold cnfTrueB at e
    simp only [Bool.and_eq_true, List.all_eq_true] at e
    have := ref_model (m := m) (cnf_nz h1) e.2.2 ps (fun c hc => lits_nz (h5 c hc)) h6 [] (by rw [← h4]; exact getD_mem (by omega))
    cases this
end Go.Proofs.Ythkhaemlcmkkjar
