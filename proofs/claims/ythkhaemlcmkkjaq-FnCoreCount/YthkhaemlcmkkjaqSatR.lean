/- What is told as a refutation is one; a refutation shows that there is no model; pure. -/
import Derived.Test.YthkhaemlcmkkjaqSatL
import Derived.Test.YthkhaemlcmkkjaqFPrf
namespace Go.Proofs.Ythkhaemlcmkkjaq
set_option linter.unusedVariables false
set_option linter.unusedSimpArgs false

theorem noL_noL (l : List Int) : noL (noL l) = l := by
  unfold noL
  rw [List.map_map]
  induction l with
  | nil => rfl
  | cons x l ih => simp [ih]
theorem noL_app (a b : List Int) : noL (a ++ b) = noL a ++ noL b := by simp [noL]
theorem noL_mem {l : List Int} {y : Int} (h : y ∈ noL l) : -y ∈ l := by
  obtain ⟨x, hx, rfl⟩ := List.mem_map.1 h
  rw [Int.neg_neg]; exact hx
/-- A clause that says that choices are not so, but for one more. -/
theorem up_last {cs : List (List Int)} {ch : List Int} {v : Int} (hc : (noL ch ++ [v]) ∈ cs) : UP cs ch v :=
  .unit hc (by simp) fun y hy hne => by
    rcases List.mem_append.1 hy with hy | hy
    · exact .given (noL_mem hy)
    · rw [List.mem_singleton] at hy; exact absurd hy hne
theorem find_ref {cs : List (List Int)} {vars most : Nat} (hok : cnfB (vars : Int) cs = true) : ∀ (k : Nat) (ch : List Int) (n : Nat), (findZ cs vars most k ch n).code = 2 → (∀ X, refB (cs ++ X) (findZ cs vars most k ch n).proof = true) ∧ ∃ q, (findZ cs vars most k ch n).proof = q ++ [noL ch]
  | 0, ch, n, h => by unfold findZ at h; cases h
  | k + 1, ch, n, h => by
    cases hc : confB cs ch with
    | true =>
      rw [find_conf hc]
      refine ⟨fun X => ?_, [], rfl⟩
      show (confB (cs ++ X) (noL (noL ch)) && true) = true
      rw [noL_noL, Bool.and_true]
      exact confB_true ((confB_iff.1 hc).mono (fun _ h => List.mem_append_left _ h) (fun _ h => h))
    | false =>
      by_cases h1 : vars < openV (upK cs ch) vars
      · rw [find_yes hc h1] at h; cases h
      · by_cases h2 : most ≤ n
        · rw [find_long hc h1 h2] at h; cases h
        · rw [find_step hc rfl h1 h2 rfl] at h ⊢
          split at h
          · rename_i ha
            obtain ⟨r1, q1, e1⟩ := find_ref hok k _ _ ha
            rw [if_pos ha]
            split at h
            · rename_i hb
              obtain ⟨r2, q2, e2⟩ := find_ref hok k _ _ hb
              rw [if_pos hb]
              refine ⟨fun X => ?_, _, rfl⟩
              show refB (cs ++ X) (_ ++ _ ++ [noL ch]) = true
              rw [refB_append, refB_append, r1 X, List.append_assoc cs X, r2, Bool.true_and, Bool.true_and]
              show (confB _ (noL (noL ch)) && true) = true
              rw [noL_noL, Bool.and_true]
              refine confB_true (.inr ⟨((openV (upK cs ch) vars : Nat) : Int), up_last ?_, up_last ?_⟩)
              · have : noL (ch ++ [-((openV (upK cs ch) vars : Nat) : Int)]) ∈ (findZ cs vars most k (ch ++ [-((openV (upK cs ch) vars : Nat) : Int)]) (n + 1)).proof := by rw [e1]; simp
                rw [noL_app, show noL [-((openV (upK cs ch) vars : Nat) : Int)] = [-(-((openV (upK cs ch) vars : Nat) : Int))] from rfl, Int.neg_neg] at this
                simp only [List.mem_append, this, or_true, true_or]
              · have : noL (ch ++ [((openV (upK cs ch) vars : Nat) : Int)]) ∈ (findZ cs vars most k (ch ++ [((openV (upK cs ch) vars : Nat) : Int)]) (findZ cs vars most k (ch ++ [-((openV (upK cs ch) vars : Nat) : Int)]) (n + 1)).made).proof := by rw [e2]; simp
                rw [noL_app, show noL [((openV (upK cs ch) vars : Nat) : Int)] = [-((openV (upK cs ch) vars : Nat) : Int)] from rfl] at this
                simp only [List.mem_append, this, or_true, true_or]
            · rename_i hb; exact absurd h hb
          · rename_i ha; exact absurd h ha
theorem sat_no {vars most : Int} {cs : List (List Int)} {m : List Bool} {p : List (List Int)} (h : satZ vars cs most = (2, m, p)) : proofZ vars cs p = true := by
  cases hb : (cnfB vars cs && inB most 0 3000) with
  | false =>
    rw [satZ_bad hb] at h
    simp at h
  | true =>
    rw [satZ_find hb] at h
    rw [Bool.and_eq_true] at hb
    obtain ⟨hok, hmo⟩ := hb
    obtain ⟨hv0, hv1⟩ := cnf_vars hok
    have hmr : 0 ≤ most ∧ most ≤ 3000 := by simpa [inB] using hmo
    have hok' : cnfB ((vars.toNat : Nat) : Int) cs = true := by rw [show ((vars.toNat : Nat) : Int) = vars by omega]; exact hok
    have hr := find_ref (cs := cs) (vars := vars.toNat) (most := most.toNat) hok' 401 [] 0
    have hl := find_len (cs := cs) (vars := vars.toNat) (most := most.toNat) 401 [] 0 (Nat.zero_le _)
    have h5 := find_rows (cs := cs) (vars := vars.toNat) (most := most.toNat) hok' 401 [] 0 ⟨List.nodup_nil, fun x hx => by cases hx⟩
    rw [show ((vars.toNat : Nat) : Int) = vars by omega] at h5
    generalize findZ cs vars.toNat most.toNat 401 [] 0 = R at h hr hl h5
    unfold FindR.fin at h
    simp only [Prod.mk.injEq] at h
    obtain ⟨h1, rfl, rfl⟩ := h
    obtain ⟨r1, q, e⟩ := hr h1
    have hl := hl h1
    have h6 := r1 []
    rw [List.append_nil] at h6
    unfold proofZ
    rw [hok, decide_eq_true (show 1 ≤ R.proof.length ∧ R.proof.length ≤ 6001 by omega), List.all_eq_true.2 h5, h6]
    simp only [Bool.true_and, Bool.and_true, decide_eq_true_eq]
    rw [e]
    simp [noL]
/-- What is refuted has no model. -/
theorem ref_model {cs : List (List Int)} {m : List Bool} (hc : NzC cs) (hm : ∀ c, c ∈ cs → holdsB m c = true) : ∀ (ps : List (List Int)), NzC ps → refB cs ps = true → ∀ c, c ∈ ps → holdsB m c = true := fun ps => by
  induction ps generalizing cs with
  | nil => intro _ _ c hcm; cases hcm
  | cons d ps ih =>
    intro hz hr c hcm
    rw [refB, Bool.and_eq_true] at hr
    have hd : holdsB m d = true := by
      cases e : holdsB m d with
      | true => rfl
      | false =>
        exfalso
        refine conf_model (m := m) hc (fun x hx => ?_) hm (fun x hx => ?_) (confB_iff.1 hr.1)
        · have := hz d (by simp) _ (noL_mem hx); omega
        · have hx' := noL_mem hx
          have hz' := hz d (by simp) _ hx'
          have h1 : soB m (-x) = false := by
            cases e2 : soB m (-x) with
            | false => rfl
            | true =>
              have : holdsB m d = true := List.any_eq_true.2 ⟨_, hx', e2⟩
              rw [e] at this
              cases this
          rw [show x = -(-x) by omega, so_neg hz', h1]
          rfl
    rcases List.mem_cons.1 hcm with rfl | hcm
    · exact hd
    · refine ih (cs := cs ++ [d]) (fun e he => ?_) (fun e he => ?_) (fun e he => hz e (by simp [he])) hr.2 c hcm
      · rcases List.mem_append.1 he with he | he
        · exact hc e he
        · rw [List.mem_singleton] at he; rw [he]; exact hz d (by simp)
      · rcases List.mem_append.1 he with he | he
        · exact hm e he
        · rw [List.mem_singleton] at he; rw [he]; exact hd
theorem proof_parts {vars : Int} {cs ps : List (List Int)} (h : proofZ vars cs ps = true) : cnfB vars cs = true ∧ 1 ≤ ps.length ∧ ps.length ≤ 6001 ∧ ps.getD (ps.length - 1) [] = [] ∧ (∀ c, c ∈ ps → litsB vars c = true) ∧ refB cs ps = true := by
  unfold proofZ at h
  simp only [Bool.and_eq_true, decide_eq_true_eq, List.all_eq_true] at h
  exact ⟨h.1, h.2.1.1, h.2.1.2, h.2.2.1, h.2.2.2.1, h.2.2.2.2⟩
theorem proof_sound {vars : Int} {cs ps : List (List Int)} (h : proofZ vars cs ps = true) (m : List Bool) : cnfTrueB vars cs m = false := by
  obtain ⟨h1, h2, h3, h4, h5, h6⟩ := proof_parts h
  cases e : cnfTrueB vars cs m with
  | false => rfl
  | true =>
    unfold cnfTrueB at e
    simp only [Bool.and_eq_true, List.all_eq_true] at e
    have := ref_model (m := m) (cnf_nz h1) e.2.2 ps (fun c hc => lits_nz (h5 c hc)) h6 [] (by rw [← h4]; exact getD_mem (by omega))
    cases this
end Go.Proofs.Ythkhaemlcmkkjaq
