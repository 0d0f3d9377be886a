/- All steps that there might be are told once. -/
import Derived.Test.YtnegiggafgfmkacStepsA
namespace Go.Proofs.Ytnegiggafgfmkac
set_option linter.unusedVariables false
set_option linter.unusedSimpArgs false
open Go.RowKit Go.Deep

theorem eqS_false {a b : StepD} (h : a ≠ b) : (a.kind == b.kind && (a.inn == b.inn && a.out == b.out)) = false := by
  cases e : (a.kind == b.kind && (a.inn == b.inn && a.out == b.out)) with
  | false => rfl
  | true =>
    exfalso
    apply h
    cases a; cases b
    simpa using e
theorem step_inj {a b : MvD} (h : a.step = b.step) : a = b := by
  cases a <;> cases b <;> simp [MvD.step] at h <;> simp <;> omega
theorem swS_mem {l : List PackD} {i : Nat} {m : MvD} (h : m ∈ swS l i) : ∃ j, m = .swap j i := by
  unfold swS swTo at h
  obtain ⟨j, _, rfl⟩ := List.mem_map.1 h
  exact ⟨j, rfl⟩
theorem moves_once (l : List PackD) : ((List.range l.length).map MvD.put ++ ((List.range l.length).map MvD.take ++ (List.range l.length).flatMap (swS l))).Pairwise (· ≠ ·) := by
  have hr : (List.range l.length).Pairwise (· ≠ ·) := List.nodup_range
  rw [List.pairwise_append]
  refine ⟨?_, ?_, ?_⟩
  · rw [List.pairwise_map]
    exact hr.imp fun h e => h (by simpa using e)
  · rw [List.pairwise_append]
    refine ⟨?_, ?_, ?_⟩
    · rw [List.pairwise_map]
      exact hr.imp fun h e => h (by simpa using e)
    · rw [List.pairwise_flatMap]
      refine ⟨fun i _ => ?_, ?_⟩
      · unfold swS swTo
        rw [List.pairwise_map]
        have hf : ((List.range l.length).filter (twB l i)).Pairwise (· ≠ ·) := List.Pairwise.filter _ hr
        exact hf.imp fun h e => h (by simpa using e)
      · refine hr.imp fun {i j} h x hx y hy e => ?_
        obtain ⟨p, rfl⟩ := swS_mem hx
        obtain ⟨q, rfl⟩ := swS_mem hy
        simp at e
        exact h e.2
    · intro x hx y hy e
      obtain ⟨i, _, rfl⟩ := List.mem_map.1 hx
      obtain ⟨j, _, hy⟩ := List.mem_flatMap.1 hy
      obtain ⟨q, rfl⟩ := swS_mem hy
      cases e
  · intro x hx y hy e
    obtain ⟨i, _, rfl⟩ := List.mem_map.1 hx
    rcases List.mem_append.1 hy with hy | hy
    · obtain ⟨j, _, rfl⟩ := List.mem_map.1 hy
      cases e
    · obtain ⟨j, _, hy⟩ := List.mem_flatMap.1 hy
      obtain ⟨q, rfl⟩ := swS_mem hy
      cases e
theorem repo_l8 {l : List PackD} {room : Int} (h : repoB ⟨l, room⟩ = true) : l.length ≤ 8 := by
  simp only [repoB, Bool.and_eq_true, decide_eq_true_eq] at h
  exact h.1.1.1
theorem stepsL_ok {l : List PackD} {room : Int} (h : repoB ⟨l, room⟩ = true) : stepsL l room = ((List.range l.length).map MvD.put ++ ((List.range l.length).map MvD.take ++ (List.range l.length).flatMap (swS l))).map MvD.step := by
  unfold stepsL
  rw [h, if_pos rfl, moves_same (OkL.of h) (repo_l8 h)]
theorem steps_once (l : List PackD) (room : Int) : (stepsL l room).Pairwise (· ≠ ·) := by
  cases h : repoB ⟨l, room⟩ with
  | false => unfold stepsL; rw [h]; simp
  | true =>
    rw [stepsL_ok h, List.pairwise_map]
    exact (moves_once l).imp fun h e => h (step_inj e)
theorem steps_other {l : List PackD} {room : Int} {i j : Nat} (hi : i < (stepsL l room).length) (hj : j < i) : (stepsL l room).getD i dStep ≠ (stepsL l room).getD j dStep := by
  have := List.pairwise_iff_getElem.1 (steps_once l room) j i (by omega) hi hj
  simp only [List.getD, List.getElem?_eq_getElem hi, List.getElem?_eq_getElem (show j < (stepsL l room).length by omega), Option.getD_some]
  exact fun e => this e.symm
theorem steps_len {l : List PackD} {room : Int} (h : repoB ⟨l, room⟩ = true) : (stepsL l room).length = 2 * l.length + ((List.range l.length).flatMap (swS l)).length := by
  rw [stepsL_ok h]
  simp only [List.length_map, List.length_append, List.length_range]
  omega
theorem steps_few (l : List PackD) (room : Int) : (stepsL l room).length ≤ 100 := by
  cases h : repoB ⟨l, room⟩ with
  | false => unfold stepsL; rw [h]; simp
  | true =>
    have h8 := repo_l8 h
    have h1 := swS_le l l.length
    have h2 : l.length * l.length ≤ 8 * 8 := Nat.mul_le_mul h8 h8
    rw [steps_len h]
    omega
end Go.Proofs.Ytnegiggafgfmkac
