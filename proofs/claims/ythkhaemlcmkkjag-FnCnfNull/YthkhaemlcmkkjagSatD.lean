/- What refutations are: more clauses, their own ahead, without the last one, and the empty one alone; pure. -/
import Derived.Test.YthkhaemlcmkkjagSatC
import Derived.Test.YthkhaemlcmkkjagSatL
import Derived.Test.YthkhaemlcmkkjagGFu
import Derived.Test.YthkhaemlcmkkjagGFo
import Derived.Test.YthkhaemlcmkkjagGUp
namespace Go.Proofs.Ythkhaemlcmkkjag
set_option linter.unusedVariables false
set_option linter.unusedSimpArgs false

/-- What cannot be with literals cannot be with these as clauses. -/
theorem conf_units {cs : List (List Int)} {ls : List Int} (h : Conf cs ls) : Conf (cs ++ ls.map fun x => [x]) [] :=
  h.cut (fun c hc => List.mem_append_left _ hc) fun x hx => .unit (c := [x]) (List.mem_append_right _ (List.mem_map.2 ⟨x, hx, rfl⟩)) (by simp) (fun y hy hne => by
    rw [List.mem_singleton] at hy
    exact absurd hy hne)
/-- What cannot be at once is refuted at once. -/
theorem sat_conf {vars most : Int} {cs : List (List Int)} (hok : cnfB vars cs = true) (h : Conf cs []) (hm0 : 0 ≤ most) (hm1 : most ≤ 3000) : satZ vars cs most = (2, [], [[]]) := by
  obtain ⟨hv0, hv1⟩ := cnf_vars hok
  obtain ⟨n, hn⟩ : ∃ n : Nat, vars = n := ⟨vars.toNat, by omega⟩
  rw [sat_code hn hok hm0 hm1, find_conf (confB_true h)]
  rfl
end Go.Proofs.Ythkhaemlcmkkjag
