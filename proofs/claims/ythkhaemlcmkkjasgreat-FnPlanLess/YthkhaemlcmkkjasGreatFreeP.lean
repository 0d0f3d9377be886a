/- Without what packs ask for each step that was allowed is still; pure. -/
import Derived.Test.YthkhaemlcmkkjasGreatFreeQ
import Derived.Test.YthkhaemlcmkkjasGreatGPd
import Derived.Test.YthkhaemlcmkkjasGreatPfT
namespace Go.Proofs.YthkhaemlcmkkjasGreat
set_option linter.unusedVariables false
set_option linter.unusedSimpArgs false
open Go.RowKit Go.Deep

theorem free_tw (l : List PackD) (i : Nat) : twN (l.map freeP) i = twN l i := by
  unfold twN
  rw [List.length_map]
  congr 1
  funext j
  rw [free_at, free_at]
  rfl
theorem free_moves (l : List PackD) : movesL (l.map freeP) = movesL l := by
  unfold movesL
  rw [List.length_map]
  have e : swapsAt (l.map freeP) = swapsAt l := by
    funext i
    unfold swapsAt
    rw [free_tw]
  rw [e]
theorem free_size {l : List PackD} {room : Int} {set : List Int} (h : repoB ⟨l, room⟩ = true) : sizeZ (l.map freeP) room set = sizeZ l room set := by
  unfold sizeZ
  rw [free_form h, free_sum]
theorem do_free {l : List PackD} {room : Int} {set : List Int} {s : StepD} {t : List Int} (h : implDo l room set s = some t) : implDo (l.map freeP) room set s = some t := by
  obtain ⟨m, rfl, hd⟩ := do_parts h
  have hr := formr (okz_form hd.ok)
  refine do_some ⟨free_of_ok hd.ok, by rw [free_moves]; exact hd.mem, hd.inn, hd.out, fun hk => ?_, free_of_ok hd.ok', hd.eq⟩
  have := hd.may hk
  unfold inB2 readyB at this ⊢
  rw [Bool.and_eq_true] at this ⊢
  refine ⟨?_, ?_⟩
  · rw [free_at]; rfl
  · rw [free_size hr, free_at]; exact this.2
theorem plan_free {l : List PackD} {room : Int} : ∀ (ss : List StepD) (set t : List Int), planDo l room set ss = some t → planDo (l.map freeP) room set ss = some t
  | [], set, t, h => by simpa only [planDo] using h
  | s :: ss, set, t, h => by
    simp only [planDo] at h ⊢
    cases hd : implDo l room set s with
    | none => rw [hd] at h; cases h
    | some u =>
      rw [hd] at h
      rw [do_free hd]
      exact plan_free ss u t h
theorem find_free {l : List PackD} {room : Int} {set dst : List Int} {P : List StepD} (h : findZ l room set dst = some P) : ∃ P2, findZ (l.map freeP) room set dst = some P2 ∧ P2.length ≤ P.length ∧ planOkZ (l.map freeP) room set dst P = true := by
  have hp := (find_some h).2.2.2.1
  have hz : planZ (l.map freeP) room set P = some dst := by
    unfold planZ at hp ⊢
    split at hp
    · rename_i hc
      rw [Bool.and_eq_true] at hc
      rw [free_of_ok hc.1, hc.2, Bool.and_self, if_pos rfl]
      exact plan_free P set dst hp
    · cases hp
  obtain ⟨P2, h2, h3⟩ := find_least hz
  exact ⟨P2, h2, h3, planOk_iff.2 hz⟩
end Go.Proofs.YthkhaemlcmkkjasGreat
