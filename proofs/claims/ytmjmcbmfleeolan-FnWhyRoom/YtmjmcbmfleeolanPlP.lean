/- Plans: steps one behind the other. -/
import Derived.Test.YtmjmcbmfleeolanGPd
namespace Go.Proofs.Ytmjmcbmfleeolan
set_option linter.unusedVariables false
set_option linter.unusedSimpArgs false
open Go.RowKit Go.Deep

/-- Steps are done one behind the other. -/
def planDo (l : List PackD) (room : Int) : List Int → List StepD → Option (List Int)
  | set, [] => some set
  | set, s :: ss => match implDo l room set s with
    | none => none
    | some t => planDo l room t ss
/-- What PlanDo answers. -/
def planZ (l : List PackD) (room : Int) (set : List Int) (ss : List StepD) : Option (List Int) := if okZ l room set && decide (ss.length ≤ 300) then planDo l room set ss else none
theorem plan_append (l : List PackD) (room : Int) : ∀ (a b : List StepD) (set : List Int), planDo l room set (a ++ b) = (planDo l room set a).bind (fun t => planDo l room t b)
  | [], b, set => rfl
  | s :: a, b, set => by
    simp only [List.cons_append, planDo]
    cases implDo l room set s with
    | none => rfl
    | some t => exact plan_append l room a b t
theorem plan_one (l : List PackD) (room : Int) (set : List Int) (s : StepD) : planDo l room set [s] = implDo l room set s := by
  simp only [planDo]
  cases implDo l room set s <;> rfl
theorem plan_take {l : List PackD} {room : Int} {set : List Int} {ss : List StepD} {k : Nat} (hk : k < ss.length) : planDo l room set (ss.take (k + 1)) = (planDo l room set (ss.take k)).bind (fun t => implDo l room t (ss.getD k dStep)) := by
  have e : ss.take (k + 1) = ss.take k ++ [ss.getD k dStep] := by
    rw [List.take_succ_eq_append_getElem hk]
    simp [List.getD, hk]
  rw [e, plan_append]
  congr 1
  funext t
  exact plan_one l room t _
theorem plan_none {l : List PackD} {room : Int} {set : List Int} {ss : List StepD} {k : Nat} (h : planDo l room set (ss.take k) = none) : planDo l room set ss = none := by
  have e : ss = ss.take k ++ ss.drop k := (List.take_append_drop k ss).symm
  rw [e, plan_append, h]
  rfl
theorem plan_ok {l : List PackD} {room : Int} : ∀ {ss : List StepD} {set t : List Int}, okZ l room set = true → planDo l room set ss = some t → okZ l room t = true
  | [], set, t, h, e => by
    simp only [planDo, Option.some.injEq] at e
    rw [← e]; exact h
  | s :: ss, set, t, h, e => by
    simp only [planDo] at e
    cases hd : implDo l room set s with
    | none => rw [hd] at e; simp at e
    | some u =>
      rw [hd] at e
      obtain ⟨m, _, hD⟩ := do_parts hd
      exact plan_ok hD.ok' e
theorem ok_len8 {l : List PackD} {room : Int} {set : List Int} (h : okZ l room set = true) : set.length ≤ 8 := by
  have hf := okz_form h
  have h1 := set_places hf
  have h3 : set.length = (set.map Int.toNat).length := by simp
  rw [h3, ← h1]
  exact places_le _ _
/-- One step, by bits. -/
theorem do_bits {l : List PackD} {room : Int} {set : List Int} {s : StepD} (h : okZ l room set = true) : (match (movesL l).find? (fun m => eqS m.step s) with
    | none => (none : Option Nat)
    | some m => if allowsB l room (setBits set) m then some (behindN (setBits set) m) else none) = (implDo l room set s).map setBits := by
  unfold implDo
  rw [h, if_pos rfl]
  cases hf : (movesL l).find? (fun m => eqS m.step s) with
  | none => rfl
  | some m =>
    simp only
    cases ha : allowsB l room (setBits set) m with
    | false => rfl
    | true =>
      have hw := moves_within (form_l8 (okz_form h)) (List.mem_of_find?_eq_some hf)
      have hb := behind256 (bits256 (okz_form h)) hw (form_l8 (okz_form h))
      simp only [if_true, Option.map_some]
      rw [setBits_places hb]
end Go.Proofs.Ytmjmcbmfleeolan
