/- Steps in memory, and the laws' look whether two lists of them are the same. -/
import Derived.Test.YtnegiggafgfmkacSpS
import Derived.Deep.QuietTactic
namespace Go.Proofs.Ytnegiggafgfmkac
set_option linter.unusedVariables false
set_option linter.unusedSimpArgs false
open Go.RowKit Go.Deep

def dStep : StepD := ⟨0, 0, 0⟩
/-- Steps that lie in memory. -/
def StepsAt (w : World) (a : Option Addr) (ss : List StepD) : Prop := ss.length ≤ 1048576 ∧ (ss = [] ∨ ∃ b o, a = some ⟨b, o, none⟩ ∧ b < w.heap.size ∧ ∀ i, i < ss.length → w.cell? ⟨b, o + i * 3, none⟩ = some (.int .i64 (ss.getD i dStep).kind) ∧ w.cell? ⟨b, o + i * 3 + 1, none⟩ = some (.int .i64 (ss.getD i dStep).inn) ∧ w.cell? ⟨b, o + i * 3 + 2, none⟩ = some (.int .i64 (ss.getD i dStep).out))
theorem StepsAt.on {w w' : World} {a : Option Addr} {ss : List StepD} (h : StepsAt w a ss) (hb : Below w.heap.size w w') : StepsAt w' a ss := by
  obtain ⟨h0, h⟩ := h
  refine ⟨h0, h.imp id ?_⟩
  rintro ⟨b, o, ha, hlt, hr⟩
  refine ⟨b, o, ha, Nat.lt_of_lt_of_le hlt hb.size, fun i hi => ?_⟩
  obtain ⟨h1, h2, h3⟩ := hr i hi
  exact ⟨(hb.cell (p := ⟨b, o + i * 3, none⟩) hlt).trans h1, (hb.cell (p := ⟨b, o + i * 3 + 1, none⟩) hlt).trans h2, (hb.cell (p := ⟨b, o + i * 3 + 2, none⟩) hlt).trans h3⟩
theorem stepVs_at : ∀ (ss : List StepD) (i j : Nat), i < ss.length → j < 3 → (stepVs ss)[i * 3 + j]? = [Value.int .i64 (ss.getD i dStep).kind, .int .i64 (ss.getD i dStep).inn, .int .i64 (ss.getD i dStep).out][j]?
  | [], i, j, h, _ => by simp at h
  | s :: ss, 0, j, _, hj => by
    unfold stepVs
    simp only [List.flatMap_cons, Nat.zero_mul, Nat.zero_add]
    rw [List.getElem?_append_left (by simpa using hj)]
    rfl
  | s :: ss, i + 1, j, h, hj => by
    have ih := stepVs_at ss i j (by simpa using h) hj
    unfold stepVs at ih ⊢
    simp only [List.flatMap_cons]
    rw [List.getElem?_append_right (by simp; omega)]
    rw [show (i + 1) * 3 + j - [Value.int .i64 s.kind, .int .i64 s.inn, .int .i64 s.out].length = i * 3 + j by simp; omega, ih]
    simp [List.getD]
theorem StepsAt.of_row {B : Nat} {w : World} {v : Value} {ss : List StepD} (h : w.ownsRow B 43 3 v ss.length (stepVs ss)) (hl : ss.length ≤ 1048576) : ∃ a cap, v = .slice a ss.length cap ∧ ss.length ≤ cap ∧ cap ≤ maxLen ∧ StepsAt w a ss := by
  rcases h.2 with ⟨hv, h0⟩ | ⟨g, cap, cur, hv, hB, hc, hcap, hcm, hsz, hx⟩
  · exact ⟨none, 0, by rw [hv, h0], by omega, Nat.zero_le _, hl, Or.inl (List.length_eq_zero_iff.1 h0)⟩
  · refine ⟨_, cap, hv, hcap, hcm, hl, Or.inr ⟨g, 0, rfl, (Array.getElem?_eq_some_iff.1 hc).1, fun i hi => ?_⟩⟩
    have key : ∀ j, j < 3 → w.cell? ⟨g, 0 + i * 3 + j, none⟩ = [Value.int .i64 (ss.getD i dStep).kind, .int .i64 (ss.getD i dStep).inn, .int .i64 (ss.getD i dStep).out][j]? := fun j hj => by
      rw [cell_of_row w g _ cur _ _ hc, Nat.zero_add, ← stepVs_at ss i j hi hj, ← hx, List.getElem?_take, if_pos (by omega)]
      simp
    exact ⟨key 0 (by omega), key 1 (by omega), key 2 (by omega)⟩

set_option maxRecDepth 100000 in
set_option maxHeartbeats 2000000 in
theorem ldSteps_same (a : Option Addr) (ss : List StepD) (c : Nat) (a2 : Option Addr) (c2 : Nat) (w : World) (h : StepsAt w a ss) (h2 : StepsAt w a2 ss) :
    Calls Try.prog 18 #[.slice a ss.length c, .slice a2 ss.length c2] w fun e w' => e = .returned (.bool true) ∧ Below w.heap.size w w' := by
  obtain ⟨hl, h⟩ := h
  obtain ⟨_, h2⟩ := h2
  go_enter Try.func18, Try.ntmps18
  go_wp2_with fail
  go_loopw [5] (fun i wr => ∃ k : Nat, k ≤ ss.length ∧ i = .int .i64 k ∧ Drawn w wr) (fun i _ => ss.length - (intOf i).toNat)
  case atStart => exact ⟨0, Nat.zero_le _, rfl, Drawn.refl _⟩
  case round =>
    rename World => wo
    obtain ⟨k, hk, rfl, hw⟩ := hrel
    by_cases hlt : k < ss.length
    · have j1 : (k : Int) < (ss.length : Int) := by omega
      have j0 : (0 : Int) ≤ (k : Int) := by omega
      rcases h with hnil | ⟨b, o, rfl, hbl, hrk⟩
      · rw [hnil] at hlt; simp at hlt
      rcases h2 with hnil | ⟨b2, o2, rfl, hbl2, hrk2⟩
      · rw [hnil] at hlt; simp at hlt
      obtain ⟨c0, c1, c2⟩ := hrk k hlt
      obtain ⟨d0, d1, d2⟩ := hrk2 k hlt
      generalize ss.getD k dStep = s at c0 c1 c2 d0 d1 d2
      rw [← hw.cell] at c0 c1 c2 d0 d1 d2
      clear hrk hrk2
      go_wp2_with fail
      go_quiet (fail)
      go_wp2_with fail
      go_roundw
      case rel => exact ⟨k + 1, by omega, by go_num, hw.more _⟩
      case measure => simp [intOf]; omega
    · have j1 : ¬ (k : Int) < (ss.length : Int) := by omega
      go_wp2_with fail
      go_ret
      exact ⟨rfl, hw.below _⟩
end Go.Proofs.Ytnegiggafgfmkac
