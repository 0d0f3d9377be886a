/- Models ahead of others, and some of the clauses alone: pure. -/
import Derived.Test.YthkhaemlcmkkjaqSatC
import Derived.Test.YthkhaemlcmkkjaqSatL
namespace Go.Proofs.Ythkhaemlcmkkjaq
set_option linter.unusedVariables false
set_option linter.unusedSimpArgs false

/-- All but one. -/
def lessL {α : Type} (cs : List α) (k : Nat) : List α := cs.take k ++ cs.drop (k + 1)
theorem lessL_mem {α : Type} {cs : List α} {k : Nat} {c : α} (h : c ∈ lessL cs k) : c ∈ cs := by
  rcases List.mem_append.1 h with h | h
  · exact List.mem_of_mem_take h
  · exact List.mem_of_mem_drop h
theorem lessL_len {α : Type} {cs : List α} {k : Nat} (h : k < cs.length) : (lessL cs k).length = cs.length - 1 := by
  simp [lessL, List.length_append, List.length_take, List.length_drop]
  omega
theorem cnf_sub {vars : Int} {cs cs' : List (List Int)} (hok : cnfB vars cs = true) (hl : cs'.length ≤ cs.length) (hc : ∀ c, c ∈ cs' → c ∈ cs) : cnfB vars cs' = true := by
  simp only [cnfB, Bool.and_eq_true, decide_eq_true_eq, List.all_eq_true] at hok ⊢
  exact ⟨hok.1, by omega, fun c h => hok.2.2 c (hc c h)⟩
end Go.Proofs.Ythkhaemlcmkkjaq
