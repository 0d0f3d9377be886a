/- Steps in memory. -/
import Derived.Test.YtnegiggafgfmkaxSpS
namespace Go.Proofs.Ytnegiggafgfmkax
set_option linter.unusedVariables false
set_option linter.unusedSimpArgs false
open Go.RowKit Go.Deep

def dStep : StepD := ⟨0, 0, 0⟩
/-- Steps that lie in memory. -/
def StepsAt (w : World) (a : Option Addr) (ss : List StepD) : Prop := ss.length ≤ 1048576 ∧ (ss = [] ∨ ∃ b o, a = some ⟨b, o, none⟩ ∧ b < w.heap.size ∧ ∀ i, i < ss.length → w.cell? ⟨b, o + i * 3, none⟩ = some (.int .i64 (ss.getD i dStep).kind) ∧ w.cell? ⟨b, o + i * 3 + 1, none⟩ = some (.int .i64 (ss.getD i dStep).inn) ∧ w.cell? ⟨b, o + i * 3 + 2, none⟩ = some (.int .i64 (ss.getD i dStep).out))
theorem StepsAt.on {w w' : World} {a : Option Addr} {ss : List StepD} (h : StepsAt w a ss) (hb : Below w.heap.size w w') : StepsAt w' a ss := by
  obtain ⟨h0, h⟩ := h
  refine ⟨h0, h.imp id ?_⟩
  rintro ⟨b, o, ha, hlt, hr⟩
  refine ⟨b, o, ha, Nat.lt_of_lt_of_le hlt hb.size, fun i hi => ?_⟩
  obtain ⟨h1, h2, h3⟩ := hr i hi
  exact ⟨(hb.cell (p := ⟨b, o + i * 3, none⟩) hlt).trans h1, (hb.cell (p := ⟨b, o + i * 3 + 1, none⟩) hlt).trans h2, (hb.cell (p := ⟨b, o + i * 3 + 2, none⟩) hlt).trans h3⟩
theorem stepVs_at : ∀ (ss : List StepD) (i j : Nat), i < ss.length → j < 3 → (stepVs ss)[i * 3 + j]? = [Value.int .i64 (ss.getD i dStep).kind, .int .i64 (ss.getD i dStep).inn, .int .i64 (ss.getD i dStep).out][j]?
  | [], i, j, h, _ => by simp at h
  | s :: ss, 0, j, _, hj => by
    unfold stepVs
    simp only [List.flatMap_cons, Nat.zero_mul, Nat.zero_add]
    rw [List.getElem?_append_left (by simpa using hj)]
    rfl
  | s :: ss, i + 1, j, h, hj => by
    have ih := stepVs_at ss i j (by simpa using h) hj
    unfold stepVs at ih ⊢
    simp only [List.flatMap_cons]
    rw [List.getElem?_append_right (by simp; omega)]
    rw [show (i + 1) * 3 + j - [Value.int .i64 s.kind, .int .i64 s.inn, .int .i64 s.out].length = i * 3 + j by simp; omega, ih]
    simp [List.getD]
theorem StepsAt.of_row {B : Nat} {w : World} {v : Value} {ss : List StepD} (h : w.ownsRow B 43 3 v ss.length (stepVs ss)) (hl : ss.length ≤ 1048576) : ∃ a cap, v = .slice a ss.length cap ∧ ss.length ≤ cap ∧ cap ≤ maxLen ∧ StepsAt w a ss := by
  rcases h.2 with ⟨hv, h0⟩ | ⟨g, cap, cur, hv, hB, hc, hcap, hcm, hsz, hx⟩
  · exact ⟨none, 0, by rw [hv, h0], by omega, Nat.zero_le _, hl, Or.inl (List.length_eq_zero_iff.1 h0)⟩
  · refine ⟨_, cap, hv, hcap, hcm, hl, Or.inr ⟨g, 0, rfl, (Array.getElem?_eq_some_iff.1 hc).1, fun i hi => ?_⟩⟩
    have key : ∀ j, j < 3 → w.cell? ⟨g, 0 + i * 3 + j, none⟩ = [Value.int .i64 (ss.getD i dStep).kind, .int .i64 (ss.getD i dStep).inn, .int .i64 (ss.getD i dStep).out][j]? := fun j hj => by
      rw [cell_of_row w g _ cur _ _ hc, Nat.zero_add, ← stepVs_at ss i j hi hj, ← hx, List.getElem?_take, if_pos (by omega)]
      simp
    exact ⟨key 0 (by omega), key 1 (by omega), key 2 (by omega)⟩
theorem stepsL_few (l : List PackD) (room : Int) : (stepsL l room).length ≤ 100 := by
  unfold stepsL
  cases h : repoB ⟨l, room⟩ with
  | false => simp
  | true =>
    have h8 : l.length ≤ 8 := by
      simp only [repoB, Bool.and_eq_true, decide_eq_true_eq] at h
      exact h.1.1.1
    have := moves_le l
    rw [if_pos rfl, List.length_map]
    omega
end Go.Proofs.Ytnegiggafgfmkax
