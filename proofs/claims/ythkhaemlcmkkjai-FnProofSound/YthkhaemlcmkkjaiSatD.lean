/- What refutations are: more clauses, their own ahead, without the last one, and the empty one alone; pure. -/
import Derived.Test.YthkhaemlcmkkjaiSatP
import Derived.Test.YthkhaemlcmkkjaiSatL
import Derived.Test.YthkhaemlcmkkjaiSatR
import Derived.Test.YthkhaemlcmkkjaiFPrf
namespace Go.Proofs.Ythkhaemlcmkkjai
set_option linter.unusedVariables false
set_option linter.unusedSimpArgs false

theorem confB_mono {cs cs' : List (List Int)} (hc : ∀ c, c ∈ cs → c ∈ cs') {ls : List Int} (h : confB cs ls = true) : confB cs' ls = true :=
  confB_true ((confB_iff.1 h).mono hc fun x hx => hx)
theorem refB_mono : ∀ (ps cs cs' : List (List Int)), (∀ c, c ∈ cs → c ∈ cs') → refB cs ps = true → refB cs' ps = true
  | [], cs, cs', hc, h => rfl
  | c :: ps, cs, cs', hc, h => by
    simp only [refB, Bool.and_eq_true] at h ⊢
    refine ⟨confB_mono hc h.1, refB_mono ps _ _ (fun d hd => ?_) h.2⟩
    rcases List.mem_append.1 hd with hd | hd
    · exact List.mem_append_left _ (hc d hd)
    · exact List.mem_append_right _ hd
/-- A clause follows of itself. -/
theorem conf_own {cs : List (List Int)} {c : List Int} (hc : c ∈ cs) : confB cs (noL c) = true := by
  cases c with
  | nil => exact confB_true (.inl hc)
  | cons x c =>
    refine confB_true (.inr ⟨x, .unit hc (by simp) fun y hy _ => .given (List.mem_map.2 ⟨y, hy, rfl⟩), .given (List.mem_map.2 ⟨x, by simp, rfl⟩)⟩)
theorem refB_own : ∀ (ps cs : List (List Int)), (∀ c, c ∈ ps → c ∈ cs) → refB cs ps = true
  | [], cs, h => rfl
  | c :: ps, cs, h => by
    simp only [refB, Bool.and_eq_true]
    exact ⟨conf_own (h c (by simp)), refB_own ps _ fun d hd => List.mem_append_left _ (h d (by simp [hd]))⟩
/-- A refutation is one with more clauses. -/
theorem proof_more {vars : Int} {cs cs' ps : List (List Int)} (h : proofZ vars cs ps = true) (hok : cnfB vars cs' = true) (hc : ∀ c, c ∈ cs → c ∈ cs') : proofZ vars cs' ps = true := by
  unfold proofZ at h ⊢
  simp only [Bool.and_eq_true] at h ⊢
  exact ⟨hok, h.2.1, h.2.2.1, h.2.2.2.1, refB_mono ps _ _ hc h.2.2.2.2⟩
/-- .. and with its own clauses once more ahead. -/
theorem proof_twice {vars : Int} {cs ps : List (List Int)} (h : proofZ vars cs ps = true) (hl : cs.length + ps.length ≤ 6001) : proofZ vars cs (cs ++ ps) = true := by
  obtain ⟨h1, h2, h3, h4, h5, h6⟩ := proof_parts h
  unfold proofZ
  rw [h1, Bool.true_and, decide_eq_true (by rw [List.length_append]; omega), Bool.true_and, Bool.and_eq_true, Bool.and_eq_true]
  refine ⟨?_, ?_, ?_⟩
  · have e : (cs ++ ps).getD (cs.length + ps.length - 1) [] = ps.getD (ps.length - 1) [] := by
      simp only [List.getD]
      rw [List.getElem?_append_right (by omega), show cs.length + ps.length - 1 - cs.length = ps.length - 1 by omega]
    rw [decide_eq_true_eq, List.length_append, e, h4]
  · rw [List.all_append, Bool.and_eq_true]
    exact ⟨List.all_eq_true.2 (cnf_lits h1), List.all_eq_true.2 h5⟩
  · rw [refB_append, refB_own cs cs (fun c hc => hc), Bool.true_and]
    exact refB_mono ps _ _ (fun c hc => List.mem_append_left _ hc) h6
/-- Without its last clause it is one just if the one ahead is empty, too. -/
theorem proof_tail {vars : Int} {cs ps : List (List Int)} (h : proofZ vars cs ps = true) : proofZ vars cs (ps.take (ps.length - 1)) = (decide (1 < ps.length) && decide ((ps.getD (ps.length - 2) []).length = 0)) := by
  obtain ⟨h1, h2, h3, h4, h5, h6⟩ := proof_parts h
  have hlen : (ps.take (ps.length - 1)).length = ps.length - 1 := by rw [List.length_take]; omega
  by_cases hn : 1 < ps.length
  · have hall : (ps.take (ps.length - 1)).all (litsB vars) = true := List.all_eq_true.2 fun c hc => h5 c (List.mem_of_mem_take hc)
    have href : refB cs (ps.take (ps.length - 1)) = true := by
      cases e : refB cs (ps.take (ps.length - 1)) with
      | true => rfl
      | false =>
        have := refB_head _ e
        rw [h6] at this
        cases this
    have hg : (ps.take (ps.length - 1)).getD (ps.length - 1 - 1) [] = ps.getD (ps.length - 2) [] := by
      simp only [List.getD]
      rw [List.getElem?_take, if_pos (by omega), show ps.length - 1 - 1 = ps.length - 2 by omega]
    unfold proofZ
    rw [h1, hlen, hall, href, hg, decide_eq_true (show 1 ≤ ps.length - 1 ∧ ps.length - 1 ≤ 6001 by omega), decide_eq_true hn]
    simp [List.length_eq_zero_iff]
  · unfold proofZ
    rw [hlen, decide_eq_false (show ¬ (1 ≤ ps.length - 1 ∧ ps.length - 1 ≤ 6001) by omega), decide_eq_false hn]
    simp
end Go.Proofs.Ythkhaemlcmkkjai
