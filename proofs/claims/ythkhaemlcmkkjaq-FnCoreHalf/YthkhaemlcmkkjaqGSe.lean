/- The specification's search in memory. The specification's search: find. -/
import Derived.Test.YthkhaemlcmkkjaqGUp
import Derived.Test.YthkhaemlcmkkjaqGFm
import Derived.Test.YthkhaemlcmkkjaqGCn
import Derived.Test.YthkhaemlcmkkjaqGFo
import Derived.Test.YthkhaemlcmkkjaqGFu
import Derived.Test.YthkhaemlcmkkjaqGDcn
import Derived.Maps.AppendAt
import Derived.Test.YthkhaemlcmkkjaqGFs
namespace Go.Proofs.Ythkhaemlcmkkjaq
set_option linter.unusedVariables false
set_option linter.unusedSimpArgs false
open Go.RowKit Go.Deep Go.Sort

end Go.Proofs.Ythkhaemlcmkkjaq

namespace Go.Proofs.Ythkhaemlcmkkjaq
set_option linter.unusedVariables false
set_option linter.unusedSimpArgs false
open Go.RowKit Go.Deep Go.Sort

/-- How long refutations are, and how many choices were made. -/
theorem find_len {cs : List (List Int)} {vars most : Nat} : ∀ (k : Nat) (ch : List Int) (n : Nat), n ≤ most → (findZ cs vars most k ch n).code = 2 → n ≤ (findZ cs vars most k ch n).made ∧ (findZ cs vars most k ch n).made ≤ most ∧ 1 ≤ (findZ cs vars most k ch n).proof.length ∧ (findZ cs vars most k ch n).proof.length + 2 * n ≤ 2 * (findZ cs vars most k ch n).made + 1
  | 0, ch, n, hn, h => by unfold findZ at h; cases h
  | k + 1, ch, n, hn, h => by
    cases hc : confB cs ch with
    | true => rw [find_conf hc]; simp; omega
    | false =>
      by_cases h1 : vars < openV (upK cs ch) vars
      · rw [find_yes hc h1] at h; cases h
      · by_cases h2 : most ≤ n
        · rw [find_long hc h1 h2] at h; cases h
        · rw [find_step hc rfl h1 h2 rfl] at h ⊢
          split at h
          · rename_i ha
            have i1 := find_len k _ _ (by omega) ha
            rw [if_pos ha]
            split at h
            · rename_i hb
              have i2 := find_len k _ _ i1.2.1 hb
              rw [if_pos hb]
              simp only [List.length_append, List.length_singleton]
              omega
            · rename_i hb; exact absurd h hb
          · rename_i ha; exact absurd h ha
/-- One choice more, of a variable of which nothing is known. -/
theorem good_snoc {vars : Nat} {ch : List Int} {K : Nat → Int} (h : GoodC vars ch) (hs : ∀ x, x ∈ ch → valK K x = 1) {v : Nat} (hv0 : v ≠ 0) (hv : v ≤ vars) (hk : K v = 0) {x : Int} (hx : x = (v : Int) ∨ x = -(v : Int)) : GoodC vars (ch ++ [x]) := by
  have hxa : x.natAbs = v := by rcases hx with rfl | rfl <;> omega
  refine ⟨?_, fun y hy => ?_⟩
  · rw [List.map_append, List.nodup_append]
    refine ⟨h.1, by simp, fun a ha b hb e => ?_⟩
    simp at hb
    obtain ⟨y, hy, rfl⟩ := List.mem_map.1 ha
    have h1 := hs y hy
    unfold valK at h1
    rw [e, hb, hxa, hk] at h1
    split at h1 <;> omega
  · rcases List.mem_append.1 hy with hy | hy
    · exact h.2 y hy
    · rw [List.mem_singleton] at hy
      rcases hx with rfl | rfl <;> rw [hy] <;> omega
end Go.Proofs.Ythkhaemlcmkkjaq
