/- The specification's SatFind. -/
import Derived.Test.YthkhaemlcmkkjaqGSe
import Derived.Test.YthkhaemlcmkkjaqFSat
import Derived.Laws.AppendOwnNone
namespace Go.Proofs.Ythkhaemlcmkkjaq
set_option linter.unusedVariables false
set_option linter.unusedSimpArgs false
open Go.RowKit Go.Deep Go.Sort

theorem model_len {cs : List (List Int)} {vars most : Nat} : ∀ (k : Nat) (ch : List Int) (n : Nat), (findZ cs vars most k ch n).model.length ≤ vars ∧ ((findZ cs vars most k ch n).code ≠ 1 → (findZ cs vars most k ch n).model = [])
  | 0, ch, n => ⟨Nat.zero_le _, fun _ => rfl⟩
  | k + 1, ch, n => by
    cases hc : confB cs ch with
    | true => rw [find_conf hc]; exact ⟨Nat.zero_le _, fun _ => rfl⟩
    | false =>
      by_cases h1 : vars < openV (upK cs ch) vars
      · rw [find_yes hc h1]
        exact ⟨by simp [modelK], fun h => absurd rfl h⟩
      · by_cases h2 : most ≤ n
        · rw [find_long hc h1 h2]
          exact ⟨Nat.zero_le _, fun _ => rfl⟩
        · rw [find_step hc rfl h1 h2 rfl]
          split
          · split
            · exact ⟨Nat.zero_le _, fun _ => rfl⟩
            · exact model_len k _ _
          · exact model_len k _ _
theorem find_code {cs : List (List Int)} {vars most : Nat} : ∀ (k : Nat) (ch : List Int) (n : Nat), (findZ cs vars most k ch n).code = 1 ∨ (findZ cs vars most k ch n).code = 2 ∨ (findZ cs vars most k ch n).code = 3
  | 0, ch, n => .inr (.inr rfl)
  | k + 1, ch, n => by
    cases hc : confB cs ch with
    | true => rw [find_conf hc]; exact .inr (.inl rfl)
    | false =>
      by_cases h1 : vars < openV (upK cs ch) vars
      · rw [find_yes hc h1]; exact .inl rfl
      · by_cases h2 : most ≤ n
        · rw [find_long hc h1 h2]; exact .inr (.inr rfl)
        · rw [find_step hc rfl h1 h2 rfl]
          split
          · split
            · exact .inr (.inl rfl)
            · exact find_code k _ _
          · exact find_code k _ _

end Go.Proofs.Ythkhaemlcmkkjaq
