/- What is told as a refutation is one; a refutation shows that there is no model; pure. -/
import Derived.Test.YtgolmagpdbmahahSatL
import Derived.Test.YtgolmagpdbmahahFPrf
namespace Go.Proofs.Ytgolmagpdbmahah
set_option linter.unusedVariables false
set_option linter.unusedSimpArgs false

theorem noL_noL (l : List Int) : noL (noL l) = l := by
  unfold noL
  rw [List.map_map]
  induction l with
  | nil => rfl
  | cons x l ih => simp [ih]
theorem noL_app (a b : List Int) : noL (a ++ b) = noL a ++ noL b := by simp [noL]
theorem noL_mem {l : List Int} {y : Int} (h : y ∈ noL l) : -y ∈ l := by
  obtain ⟨x, hx, rfl⟩ := List.mem_map.1 h
  rw [Int.neg_neg]; exact hx
/-- A clause that says that choices are not so, but for one more. -/
theorem up_last {cs : List (List Int)} {ch : List Int} {v : Int} (hc : (noL ch ++ [v]) ∈ cs) : UP cs ch v :=
  .unit hc (by simp) fun y hy hne => by
    rcases List.mem_append.1 hy with hy | hy
    · exact .given (noL_mem hy)
    · rw [List.mem_singleton] at hy; exact absurd hy hne
theorem find_ref {cs : List (List Int)} {vars most : Nat} (hok : cnfB (vars : Int) cs = true) : ∀ (k : Nat) (ch : List Int) (n : Nat), (findZ cs vars most k ch n).code = 2 → (∀ X, refB (cs ++ X) (findZ cs vars most k ch n).proof = true) ∧ ∃ q, (findZ cs vars most k ch n).proof = q ++ [noL ch]
  | 0, ch, n, h => by unfold findZ at h; cases h
  | k + 1, ch, n, h => by
    cases hc : confB cs ch with
    | true =>
      rw [find_conf hc]
      refine ⟨fun X => ?_, [], rfl⟩
      show (confB (cs ++ X) (noL (noL ch)) && true) = true
      rw [noL_noL, Bool.and_true]
      exact confB_true ((confB_iff.1 hc).mono (fun _ h => List.mem_append_left _ h) (fun _ h => h))
    | false =>
      by_cases h1 : vars < openV (upK cs ch) vars
      · rw [find_yes hc h1] at h; cases h
      · by_cases h2 : most ≤ n
        · rw [find_long hc h1 h2] at h; cases h
        · rw [find_step hc rfl h1 h2 rfl] at h ⊢
          split at h
          · rename_i ha
            obtain ⟨r1, q1, e1⟩ := find_ref hok k _ _ ha
            rw [if_pos ha]
            split at h
            · rename_i hb
              obtain ⟨r2, q2, e2⟩ := find_ref hok k _ _ hb
              rw [if_pos hb]
              refine ⟨fun X => ?_, _, rfl⟩
              show refB (cs ++ X) (_ ++ _ ++ [noL ch]) = true
              rw [refB_append, refB_append, r1 X, List.append_assoc cs X, r2, Bool.true_and, Bool.true_and]
              show (confB _ (noL (noL ch)) && true) = true
              rw [noL_noL, Bool.and_true]
              refine confB_true (.inr ⟨((openV (upK cs ch) vars : Nat) : Int), up_last ?_, up_last ?_⟩)
              · have : noL (ch ++ [-((openV (upK cs ch) vars : Nat) : Int)]) ∈ (findZ cs vars most k (ch ++ [-((openV (upK cs ch) vars : Nat) : Int)]) (n + 1)).proof := by rw [e1]; simp
                rw [noL_app, show noL [-((openV (upK cs ch) vars : Nat) : Int)] = [-(-((openV (upK cs ch) vars : Nat) : Int))] from rfl, Int.neg_neg] at this
                simp only [List.mem_append, this, or_true, true_or]
              · have : noL (ch ++ [((openV (upK cs ch) vars : Nat) : Int)]) ∈ (findZ cs vars most k (ch ++ [((openV (upK cs ch) vars : Nat) : Int)]) (findZ cs vars most k (ch ++ [-((openV (upK cs ch) vars : Nat) : Int)]) (n + 1)).made).proof := by rw [e2]; simp
                rw [noL_app, show noL [((openV (upK cs ch) vars : Nat) : Int)] = [-((openV (upK cs ch) vars : Nat) : Int)] from rfl] at this
                simp only [List.mem_append, this, or_true, true_or]
            · rename_i hb; exact absurd h hb
          · rename_i ha; exact absurd h ha
theorem sat_no {vars most : Int} {cs : List (List Int)} {m : List Bool} {p : List (List Int)} (h : satZ vars cs most = (2, m, p)) : proofZ vars cs p = true := by
  cases hb : (cnfB vars cs && inB most 0 3000) with
  | false =>
    rw [satZ_bad hb] at h
    simp at h
  | true =>
    rw [satZ_find hb] at h
    rw [Bool.and_eq_true] at hb
    obtain ⟨hok, hmo⟩ := hb
    obtain ⟨hv0, hv1⟩ := cnf_vars hok
    have hmr : 0 ≤ most ∧ most ≤ 3000 := by simpa [inB] using hmo
    have hok' : cnfB ((vars.toNat : Nat) : Int) cs = true := by rw [show ((vars.toNat : Nat) : Int) = vars by omega]; exact hok
    have hr := find_ref (cs := cs) (vars := vars.toNat) (most := most.toNat) hok' 401 [] 0
    have hl := find_len (cs := cs) (vars := vars.toNat) (most := most.toNat) 401 [] 0 (Nat.zero_le _)
    have h5 := find_rows (cs := cs) (vars := vars.toNat) (most := most.toNat) hok' 401 [] 0 ⟨List.nodup_nil, fun x hx => by cases hx⟩
    rw [show ((vars.toNat : Nat) : Int) = vars by omega] at h5
    generalize findZ cs vars.toNat most.toNat 401 [] 0 = R at h hr hl h5
    unfold FindR.fin at h
    simp only [Prod.mk.injEq] at h
    obtain ⟨h1, rfl, rfl⟩ := h
    obtain ⟨r1, q, e⟩ := hr h1
    have hl := hl h1
    have h6 := r1 []
    rw [List.append_nil] at h6
    unfold proofZ
    rw [hok, decide_eq_true (show 1 ≤ R.proof.length ∧ R.proof.length ≤ 6001 by omega), List.all_eq_true.2 h5, h6]
    simp only [Bool.true_and, Bool.and_true, decide_eq_true_eq]
    rw [e]
    simp [noL]
end Go.Proofs.Ytgolmagpdbmahah
