/- The program's PlanDo. -/
import Derived.Test.YtmjmcbmfleeolanDoneA
import Derived.Test.YtmjmcbmfleeolanDoO
import Derived.Test.YtmjmcbmfleeolanPlP
import Derived.Test.YtmjmcbmfleeolanGPd
namespace Go.Proofs.Ytmjmcbmfleeolan
set_option linter.unusedVariables false
set_option linter.unusedSimpArgs false
open Go.RowKit Go.Deep

theorem doneV_bits {l : List PackD} {room : Int} {set : List Int} {s : StepD} (h : okZ l room set = true) : doneV l room (setBits set) s = match (implDo l room set s) with
    | none => .tuple #[.int .u64 0, .bool false]
    | some t => .tuple #[.int .u64 ((setBits t : Nat) : Int), .bool true] := by
  have hb := do_bits (l := l) (room := room) (set := set) (s := s) h
  unfold doneV
  cases hf : (movesL l).find? (fun m => eqS m.step s) with
  | none =>
    rw [hf] at hb
    cases hi : implDo l room set s with
    | none => rfl
    | some t => rw [hi] at hb; simp at hb
  | some m =>
    rw [hf] at hb
    simp only at hb ⊢
    cases ha : allowsB l room (setBits set) m with
    | false =>
      rw [ha] at hb
      cases hi : implDo l room set s with
      | none => rfl
      | some t => rw [hi] at hb; simp at hb
    | true =>
      rw [ha] at hb
      cases hi : implDo l room set s with
      | none => rw [hi] at hb; simp at hb
      | some t =>
        rw [hi] at hb
        simp at hb
        simp [hb]

end Go.Proofs.Ytmjmcbmfleeolan
