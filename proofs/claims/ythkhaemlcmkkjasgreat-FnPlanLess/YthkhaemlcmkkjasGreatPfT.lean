/- A plan that is found is one, and none is shorter; pure. -/
import Derived.Test.YthkhaemlcmkkjasGreatGPf
import Derived.Test.YthkhaemlcmkkjasGreatGPl
namespace Go.Proofs.YthkhaemlcmkkjasGreat
set_option linter.unusedVariables false
set_option linter.unusedSimpArgs false
open Go.RowKit Go.Deep

section
variable {l : List PackD} {room : Int}
theorem dist_iff (s b k : Nat) : distB l room s b = k + 1 ↔ Dist (succB l room) s k b := farF_iff (fun s => succ_lt l room s) b k
theorem dist_le (s b : Nat) : distB l room s b ≤ 301 := farF_le _ _ _
/-- One step towards a state. -/
theorem dist_step {s b n : Nat} (hs : GoodS l room s) (h : distB l room s b = n + 2) : ∃ m, (movesL l).find? (descB l room b n s) = some m := by
  obtain ⟨h1, h2⟩ := (dist_iff s b (n + 1)).1 h
  obtain ⟨t, ht, hst⟩ := steps_uncons h1
  have hd : distB l room t b = n + 1 := (dist_iff t b n).2 ⟨hst, fun k hk hh => h2 (k + 1) (by omega) (steps_cons ht hh)⟩
  rw [succ_eq hs] at ht
  obtain ⟨m, hm, rfl⟩ := List.mem_map.1 ht
  obtain ⟨hm1, hm2⟩ := List.mem_filter.1 hm
  cases hf : (movesL l).find? (descB l room b n s) with
  | some m' => exact ⟨m', rfl⟩
  | none =>
    have := List.find?_eq_none.1 hf m hm1
    unfold descB at this
    rw [hm2, hd] at this
    simp at this
theorem planTo_ok {b : Nat} (n : Nat) : ∀ s : Nat, GoodS l room s → distB l room s b = n + 1 → (planTo l room b n s).length = n ∧ planDo l room (setOf s) (planTo l room b n s) = some (setOf b) := by
  induction n with
  | zero =>
    intro s hs h
    have := ((dist_iff s b 0).1 h).1
    have e : b = s := this
    subst e
    simp only [planTo, planDo, List.length_nil, and_self]
  | succ n ih =>
    intro s hs h
    obtain ⟨m, hm⟩ := dist_step hs h
    have hmem := List.mem_of_find?_eq_some hm
    have hd : descB l room b n s m = true := by have := List.find?_some hm; simpa using this
    unfold descB at hd
    rw [Bool.and_eq_true, decide_eq_true_eq] at hd
    rw [planTo_some hm]
    obtain ⟨h1, h2⟩ := ih (behindN s m) (good_forth hs hmem hd.1) hd.2
    refine ⟨by simp [h1], ?_⟩
    simp only [planDo]
    rw [do_forth hs hmem, hd.1, if_pos rfl]
    exact h2
theorem do_succ {s : Nat} (hs : GoodS l room s) {st : StepD} {t : List Int} (h : implDo l room (setOf s) st = some t) : ∃ t', t = setOf t' ∧ GoodS l room t' ∧ t' ∈ succB l room s := by
  have h0 := h
  unfold implDo at h
  rw [hs.2, if_pos rfl, hs.bits] at h
  cases hf : (movesL l).find? (fun m => eqS m.step st) with
  | none => rw [hf] at h; cases h
  | some m =>
    rw [hf] at h
    simp only at h
    have hmem := List.mem_of_find?_eq_some hf
    cases ha : allowsB l room s m with
    | false => rw [ha] at h; cases h
    | true =>
      rw [ha, if_pos rfl] at h
      refine ⟨behindN s m, by simpa using h.symm, good_forth hs hmem ha, ?_⟩
      rw [succ_eq hs]
      exact List.mem_map.2 ⟨m, List.mem_filter.2 ⟨hmem, ha⟩, rfl⟩
theorem plan_steps : ∀ (ss : List StepD) (s : Nat) (u : List Int), GoodS l room s → planDo l room (setOf s) ss = some u → ∃ t, u = setOf t ∧ GoodS l room t ∧ Steps (succB l room) s ss.length t
  | [], s, u, hs, h => by
    simp only [planDo, Option.some.injEq] at h
    exact ⟨s, h.symm, hs, rfl⟩
  | st :: ss, s, u, hs, h => by
    simp only [planDo] at h
    cases hd : implDo l room (setOf s) st with
    | none => rw [hd] at h; cases h
    | some t =>
      rw [hd] at h
      obtain ⟨t', rfl, hg, hm⟩ := do_succ hs hd
      obtain ⟨v, h1, h2, h3⟩ := plan_steps ss t' u hg h
      exact ⟨v, h1, h2, steps_cons hm h3⟩
end
/-- What a plan that is found is. -/
theorem find_some {l : List PackD} {room : Int} {set dst : List Int} {P : List StepD} (h : findZ l room set dst = some P) : okZ l room set = true ∧ okZ l room dst = true ∧ distB l room (setBits set) (setBits dst) = P.length + 1 ∧ planZ l room set P = some dst ∧ P = planTo l room (setBits dst) P.length (setBits set) := by
  unfold findZ at h
  split at h
  · rename_i hc
    rw [Bool.and_eq_true] at hc
    split at h
    · cases h
    · rename_i hd
      simp only [Option.some.injEq] at h
      obtain ⟨hg, he⟩ := good_of hc.1
      obtain ⟨hg2, he2⟩ := good_of hc.2
      obtain ⟨n, hn⟩ : ∃ n, distB l room (setBits set) (setBits dst) = n + 1 := ⟨_, (Nat.succ_pred_eq_of_pos (Nat.pos_of_ne_zero hd)).symm⟩
      rw [hn, Nat.add_sub_cancel] at h
      obtain ⟨h1, h2⟩ := planTo_ok n (setBits set) hg hn
      rw [h] at h1 h2
      rw [he, he2] at h2
      have hle := dist_le (l := l) (room := room) (setBits set) (setBits dst)
      refine ⟨hc.1, hc.2, by rw [hn, h1], ?_, by rw [h1]; exact h.symm⟩
      unfold planZ
      rw [hc.1, Bool.true_and, if_pos (by simp; omega)]
      exact h2
  · cases h
/-- A plan leads there: one is found, and it is no longer. -/
theorem find_least {l : List PackD} {room : Int} {set dst : List Int} {ss : List StepD} (h : planZ l room set ss = some dst) : ∃ P, findZ l room set dst = some P ∧ P.length ≤ ss.length := by
  unfold planZ at h
  split at h
  · rename_i hc
    rw [Bool.and_eq_true] at hc
    obtain ⟨hg, he⟩ := good_of hc.1
    have h' := h
    rw [← he] at h'
    obtain ⟨t, ht, hgt, hst⟩ := plan_steps ss (setBits set) dst hg h'
    have hb : setBits dst = t := by rw [ht]; exact hgt.bits
    obtain ⟨k, hk, hd⟩ := Dist.least hst
    have hdk := (dist_iff (setBits set) t k).2 hd
    rw [← hb] at hdk
    have hok2 := plan_ok hc.1 h
    have hf : findZ l room set dst = some (planTo l room (setBits dst) k (setBits set)) := by
      unfold findZ
      rw [hc.1, hok2, Bool.and_self, if_pos rfl, hdk, if_neg (by omega), Nat.add_sub_cancel]
    refine ⟨_, hf, ?_⟩
    have := (find_some hf).2.2.1
    omega
  · cases h
theorem find_len {l : List PackD} {room : Int} {set dst : List Int} : ((findZ l room set dst).getD []).length ≤ 300 := by
  cases h : findZ l room set dst with
  | none => simp
  | some P =>
    have h1 := (find_some h).2.2.1
    have h2 := dist_le (l := l) (room := room) (setBits set) (setBits dst)
    simp only [Option.getD_some]
    omega
theorem planOk_iff {l : List PackD} {room : Int} {set dst : List Int} {ss : List StepD} : planOkZ l room set dst ss = true ↔ planZ l room set ss = some dst := by
  unfold planOkZ
  cases planZ l room set ss with
  | none => simp
  | some t => simp
end Go.Proofs.YthkhaemlcmkkjasGreat
