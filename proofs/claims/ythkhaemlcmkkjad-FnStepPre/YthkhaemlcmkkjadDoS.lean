/- What comes in has what must be there ahead: by places of the state. -/
import Derived.Test.YthkhaemlcmkkjadGPd
import Derived.Test.YthkhaemlcmkkjadGSpecP
namespace Go.Proofs.Ythkhaemlcmkkjad
set_option linter.unusedVariables false
set_option linter.unusedSimpArgs false
open Go.RowKit Go.Deep

/-- Place j of a state has what a request asks, and does not go out. -/
def preB (l : List PackD) (set : List Int) (kind out : Int) (q : ReqD) (j : Nat) : Bool := anyB [q] (l.getD (set.getD j 0).toNat dPack) && !(decide (kind = 3) && decide (set.getD j 0 = out))
theorem pre_found {l : List PackD} {room : Int} {set : List Int} {m : MvD} {t : List Int} (h : DoneS l room set m t) (hk : m.step.kind ≠ 2) {q : ReqD} (hq : q ∈ (l.getD m.step.inn.toNat dPack).pres) : (List.range set.length).any (preB l set m.step.kind m.step.out q) = true := by
  have h1 := h.ready hk hq
  unfold someB at h1
  rw [List.any_eq_true] at h1
  obtain ⟨i, hi, h2⟩ := h1
  have hi := List.mem_range.1 hi
  unfold oneB at h2
  rw [Bool.and_eq_true] at h2
  have hz : (outZ set m.step).getD i 0 ∈ outZ set m.step := getD_mem hi
  generalize (outZ set m.step).getD i 0 = z at hz h2
  have hzs : z ∈ set ∧ (m.step.kind = 3 → z ≠ m.step.out) := by
    unfold outZ at hz
    split at hz
    · have := List.mem_filter.1 hz
      exact ⟨this.1, fun _ => by simpa using this.2⟩
    · rename_i hk1
      exact ⟨hz, fun h3 => absurd h3 (by omega)⟩
  obtain ⟨j, hj, hje⟩ := List.getElem_of_mem hzs.1
  rw [List.any_eq_true]
  refine ⟨j, List.mem_range.2 hj, ?_⟩
  unfold preB
  have e : set.getD j 0 = z := by simp [List.getD, hj, hje]
  rw [e, h2.2]
  by_cases h3 : m.step.kind = 3
  · simp [h3, hzs.2 h3]
  · simp [h3]
end Go.Proofs.Ythkhaemlcmkkjad
