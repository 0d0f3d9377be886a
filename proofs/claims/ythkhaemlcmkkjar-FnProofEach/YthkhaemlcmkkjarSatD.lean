/- What refutations are: more clauses, their own ahead, without the last one, and the empty one alone; pure. -/
import Derived.Test.YthkhaemlcmkkjarSatC
import Derived.Test.YthkhaemlcmkkjarSatR
import Derived.Test.YthkhaemlcmkkjarFPrf
namespace Go.Proofs.Ythkhaemlcmkkjar
set_option linter.unusedVariables false
set_option linter.unusedSimpArgs false

/-- What cannot be with literals cannot be with these as clauses. -/
theorem conf_units {cs : List (List Int)} {ls : List Int} (h : Conf cs ls) : Conf (cs ++ ls.map fun x => [x]) [] :=
  h.cut (fun c hc => List.mem_append_left _ hc) fun x hx => .unit (c := [x]) (List.mem_append_right _ (List.mem_map.2 ⟨x, hx, rfl⟩)) (by simp) (fun y hy hne => by
    rw [List.mem_singleton] at hy
    exact absurd hy hne)
/-- What cannot be at once is refuted at once. -/
theorem sat_conf {vars most : Int} {cs : List (List Int)} (hok : cnfB vars cs = true) (h : Conf cs []) (hm0 : 0 ≤ most) (hm1 : most ≤ 3000) : satZ vars cs most = (2, [], [[]]) := by
  obtain ⟨hv0, hv1⟩ := cnf_vars hok
  obtain ⟨n, hn⟩ : ∃ n : Nat, vars = n := ⟨vars.toNat, by omega⟩
  rw [sat_code hn hok hm0 hm1, find_conf (confB_true h)]
  rfl
theorem confB_mono {cs cs' : List (List Int)} (hc : ∀ c, c ∈ cs → c ∈ cs') {ls : List Int} (h : confB cs ls = true) : confB cs' ls = true :=
  confB_true ((confB_iff.1 h).mono hc fun x hx => hx)
theorem refB_mono : ∀ (ps cs cs' : List (List Int)), (∀ c, c ∈ cs → c ∈ cs') → refB cs ps = true → refB cs' ps = true
  | [], cs, cs', hc, h => rfl
  | c :: ps, cs, cs', hc, h => by
    simp only [refB, Bool.and_eq_true] at h ⊢
    refine ⟨confB_mono hc h.1, refB_mono ps _ _ (fun d hd => ?_) h.2⟩
    rcases List.mem_append.1 hd with hd | hd
    · exact List.mem_append_left _ (hc d hd)
    · exact List.mem_append_right _ hd
/-- A refutation is one with more clauses. -/
theorem proof_more {vars : Int} {cs cs' ps : List (List Int)} (h : proofZ vars cs ps = true) (hok : cnfB vars cs' = true) (hc : ∀ c, c ∈ cs → c ∈ cs') : proofZ vars cs' ps = true := by
  unfold proofZ at h ⊢
  simp only [Bool.and_eq_true] at h ⊢
  exact ⟨hok, h.2.1, h.2.2.1, h.2.2.2.1, refB_mono ps _ _ hc h.2.2.2.2⟩
/-- Without its last clause it is one just if the one ahead is empty, too. -/
theorem proof_tail {vars : Int} {cs ps : List (List Int)} (h : proofZ vars cs ps = true) : proofZ vars cs (ps.take (ps.length - 1)) = (decide (1 < ps.length) && decide ((ps.getD (ps.length - 2) []).length = 0)) := by
  obtain ⟨h1, h2, h3, h4, h5, h6⟩ := proof_parts h
  have hlen : (ps.take (ps.length - 1)).length = ps.length - 1 := by rw [List.length_take]; omega
  by_cases hn : 1 < ps.length
  · have hall : (ps.take (ps.length - 1)).all (litsB vars) = true := List.all_eq_true.2 fun c hc => h5 c (List.mem_of_mem_take hc)
    have href : refB cs (ps.take (ps.length - 1)) = true := by
      cases e : refB cs (ps.take (ps.length - 1)) with
      | true => rfl
      | false =>
        have := refB_head _ e
        rw [h6] at this
        cases this
    have hg : (ps.take (ps.length - 1)).getD (ps.length - 1 - 1) [] = ps.getD (ps.length - 2) [] := by
      simp only [List.getD]
      rw [List.getElem?_take, if_pos (by omega), show ps.length - 1 - 1 = ps.length - 2 by omega]
    unfold proofZ
    rw [h1, hlen, hall, href, hg, decide_eq_true (show 1 ≤ ps.length - 1 ∧ ps.length - 1 ≤ 6001 by omega), decide_eq_true hn]
    simp [List.length_eq_zero_iff]
  · unfold proofZ
    rw [hlen, decide_eq_false (show ¬ (1 ≤ ps.length - 1 ∧ ps.length - 1 ≤ 6001) by omega), decide_eq_false hn]
    simp
end Go.Proofs.Ythkhaemlcmkkjar
