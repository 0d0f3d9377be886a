/- What is moved: by a step, by steps; pure. -/
import Derived.Test.YthkhaemlcmkkjayGPd
namespace Go.Proofs.Ythkhaemlcmkkjay
set_option linter.unusedVariables false
set_option linter.unusedSimpArgs false
open Go.RowKit Go.Deep

theorem retI {a b : Int} (h : a = b) : Ending.returned (.int .i64 a) = .returned (.int .i64 b) := by rw [h]
/-- What a move moves. -/
def MvD.cost (l : List PackD) (m : MvD) : Int := bitSize l m.comes + bitSize l m.goes
def sizeAt (l : List PackD) (i : Nat) : Int := (l.getD i dPack).size
theorem bit_none (l : List PackD) : bitSize l 0 = 0 := by
  unfold bitSize
  have : placesTo 0 8 = [] := by simp [placesTo]
  rw [this]
  rfl
theorem bit_pow {l : List PackD} {i : Nat} (h : i < 8) : bitSize l (2 ^ i) = sizeAt l i := by
  unfold bitSize
  rw [places_pow h]
  simp [sumP, sizeAt]
theorem cost_put {l : List PackD} {i : Nat} (h : i < 8) : (MvD.put i).cost l = sizeAt l i := by
  show bitSize l (2 ^ i) + bitSize l 0 = _
  rw [bit_none, bit_pow h]
  omega
theorem cost_take {l : List PackD} {i : Nat} (h : i < 8) : (MvD.take i).cost l = sizeAt l i := by
  show bitSize l 0 + bitSize l (2 ^ i) = _
  rw [bit_none, bit_pow h]
  omega
theorem cost_swap {l : List PackD} {i o : Nat} (h : i < 8) (ho : o < 8) : (MvD.swap i o).cost l = sizeAt l i + sizeAt l o := by
  show bitSize l (2 ^ i) + bitSize l (2 ^ o) = _
  rw [bit_pow h, bit_pow ho]
theorem sizeAt_bound {l : List PackD} (hok : OkL l) (i : Nat) : 0 ≤ sizeAt l i ∧ sizeAt l i ≤ 999 := by
  unfold sizeAt
  by_cases h : i < l.length
  · exact hok.size i h
  · have : l.getD i dPack = dPack := by simp [List.getD, List.getElem?_eq_none (Nat.le_of_not_lt h)]
    rw [this]
    decide
theorem cost_bound {l : List PackD} (hok : OkL l) {m : MvD} (hm : m.within l.length) : 0 ≤ m.cost l ∧ m.cost l ≤ 1998 := by
  have h8 := hok.l8
  cases m with
  | put i =>
    have h : i < l.length := hm
    rw [cost_put (by omega)]
    have := sizeAt_bound hok i
    omega
  | take i =>
    have h : i < l.length := hm
    rw [cost_take (by omega)]
    have := sizeAt_bound hok i
    omega
  | swap i o =>
    have h : i < l.length ∧ o < l.length := hm
    rw [cost_swap (by omega) (by omega)]
    have := sizeAt_bound hok i
    have := sizeAt_bound hok o
    omega
/-- What CostOf answers. -/
def costZ (l : List PackD) (room : Int) (s : StepD) : Int :=
  if repoB ⟨l, room⟩ then
    match (movesL l).find? (fun m => eqS m.step s) with
    | none => -1
    | some m => m.cost l
  else -1
theorem costZ_not {l : List PackD} {room : Int} (s : StepD) (h : repoB ⟨l, room⟩ = false) : costZ l room s = -1 := by
  unfold costZ
  rw [h]
  rfl
theorem costZ_ok {l : List PackD} {room : Int} (s : StepD) (h : repoB ⟨l, room⟩ = true) : costZ l room s = match (movesL l).find? (fun m => eqS m.step s) with
    | none => -1
    | some m => m.cost l := by
  unfold costZ
  rw [h]
  rfl
theorem find_step {l : List PackD} {s : StepD} {m : MvD} (h : (movesL l).find? (fun m => eqS m.step s) = some m) : m ∈ movesL l ∧ m.step = s := by
  refine ⟨List.mem_of_find?_eq_some h, ?_⟩
  have := List.find?_some h
  exact (eqS_iff _ _).1 this
theorem costZ_bound (l : List PackD) (room : Int) (s : StepD) : -1 ≤ costZ l room s ∧ costZ l room s ≤ 1998 := by
  cases h : repoB ⟨l, room⟩ with
  | false => rw [costZ_not s h]; omega
  | true =>
    rw [costZ_ok s h]
    cases hf : (movesL l).find? (fun m => eqS m.step s) with
    | none => simp
    | some m =>
      have := cost_bound (OkL.of h) (moves_within (repo_l8 h) (find_step hf).1)
      simp only
      omega
theorem any_find {l : List PackD} {room : Int} {s : StepD} (h : repoB ⟨l, room⟩ = true) : (stepsL l room).any (fun t => eqS t s) = ((movesL l).find? (fun m => eqS m.step s)).isSome := by
  unfold stepsL
  rw [h, if_pos rfl, List.any_map]
  cases hf : (movesL l).find? (fun m => eqS m.step s) with
  | none =>
    rw [List.find?_eq_none] at hf
    rw [List.any_eq_false.2]
    · rfl
    · intro m hm
      exact hf m hm
  | some m =>
    rw [List.any_eq_true.2]
    · rfl
    · exact ⟨m, List.mem_of_find?_eq_some hf, List.find?_some hf⟩
/-- The kinds of a step that is told. -/
theorem cost_kind {l : List PackD} {room : Int} {s : StepD} (h : (stepsL l room).any (fun t => eqS t s) = true) :
    repoB ⟨l, room⟩ = true ∧ ((∃ i, i < l.length ∧ s = ⟨1, i, 0⟩ ∧ costZ l room s = sizeAt l i) ∨ (∃ o, o < l.length ∧ s = ⟨2, 0, o⟩ ∧ costZ l room s = sizeAt l o) ∨ (∃ i o, i < l.length ∧ o < l.length ∧ s = ⟨3, i, o⟩ ∧ costZ l room s = sizeAt l i + sizeAt l o)) := by
  have hr : repoB ⟨l, room⟩ = true := by
    cases hr : repoB ⟨l, room⟩ with
    | true => rfl
    | false => unfold stepsL at h; rw [hr] at h; simp at h
  refine ⟨hr, ?_⟩
  rw [any_find hr, Option.isSome_iff_exists] at h
  obtain ⟨m, hm⟩ := h
  obtain ⟨hmem, hst⟩ := find_step hm
  have h8 := repo_l8 hr
  have hw := moves_within h8 hmem
  have hc : costZ l room s = m.cost l := by rw [costZ_ok s hr, hm]
  cases m with
  | put i =>
    have hi : i < l.length := hw
    exact Or.inl ⟨i, hi, hst.symm, by rw [hc, cost_put (by omega)]⟩
  | take i =>
    have hi : i < l.length := hw
    exact Or.inr (Or.inl ⟨i, hi, hst.symm, by rw [hc, cost_take (by omega)]⟩)
  | swap i o =>
    have hi : i < l.length ∧ o < l.length := hw
    exact Or.inr (Or.inr ⟨i, o, hi.1, hi.2, hst.symm, by rw [hc, cost_swap (by omega) (by omega)]⟩)
theorem cost_none {l : List PackD} {room : Int} {s : StepD} (h : (stepsL l room).any (fun t => eqS t s) = false) : costZ l room s = -1 := by
  cases hr : repoB ⟨l, room⟩ with
  | false => exact costZ_not s hr
  | true =>
    rw [any_find hr] at h
    rw [costZ_ok s hr]
    cases hf : (movesL l).find? (fun m => eqS m.step s) with
    | none => rfl
    | some m => rw [hf] at h; simp at h
/-- What the first k steps move, if each is one. -/
def costTo (l : List PackD) (room : Int) (ss : List StepD) : Nat → Int
  | 0 => 0
  | k + 1 => costTo l room ss k + costZ l room (ss.getD k dStep)
def costsB (l : List PackD) (room : Int) (ss : List StepD) : Bool := ss.all fun s => decide (0 ≤ costZ l room s)
theorem costTo_bound (l : List PackD) (room : Int) (ss : List StepD) : ∀ k : Nat, -(k : Int) ≤ costTo l room ss k ∧ costTo l room ss k ≤ 1998 * k
  | 0 => by simp [costTo]
  | k + 1 => by
    have := costTo_bound l room ss k
    have := costZ_bound l room (ss.getD k dStep)
    simp only [costTo]
    omega
/-- What CostPlan answers. -/
def costPlanZ (l : List PackD) (room : Int) (ss : List StepD) : Int := if repoB ⟨l, room⟩ && decide (ss.length ≤ 300) && costsB l room ss then costTo l room ss ss.length else -1
theorem costs_snoc {l : List PackD} {room : Int} {ss : List StepD} {k : Nat} (hk : k < ss.length) : costsB l room (ss.take (k + 1)) = (costsB l room (ss.take k) && decide (0 ≤ costZ l room (ss.getD k dStep))) := by
  unfold costsB
  exact all_take_succ (d := dStep) (f := fun s => decide (0 ≤ costZ l room s)) hk
theorem costs_bad {l : List PackD} {room : Int} {ss : List StepD} {k : Nat} (hk : k < ss.length) (h : costZ l room (ss.getD k dStep) < 0) : costPlanZ l room ss = -1 := by
  have hb : costsB l room ss = false := by
    unfold costsB
    rw [List.all_eq_false]
    exact ⟨_, getD_mem (d := dStep) hk, by rw [decide_eq_true_eq]; omega⟩
  unfold costPlanZ
  rw [hb]
  simp
end Go.Proofs.Ythkhaemlcmkkjay
