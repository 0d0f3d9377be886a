/- The laws' own looks at numbers. -/
import Derived.Test.YtahnfgkjmkiodaaHitsB
import Derived.Deep.QuietTactic
namespace Go.Proofs.Ytahnfgkjmkiodaa
set_option linter.unusedVariables false
set_option linter.unusedSimpArgs false
open Go.RowKit Go.Deep

/-- Numbers that lie in memory. -/
def NumsAt (w : World) (v : Value) (l : List Nat) : Prop := ∃ a cap, v = .slice a l.length cap ∧ l.length ≤ 1048576 ∧ (l = [] ∨ ∃ b, a = some ⟨b, 0, none⟩ ∧ b < w.heap.size ∧ ∀ i, i < l.length → w.cell? ⟨b, i, none⟩ = some (.int .i64 ((l.getD i 0 : Nat) : Int)))
theorem NumsAt.on {w w' : World} {v : Value} {l : List Nat} (h : NumsAt w v l) (hb : Below w.heap.size w w') : NumsAt w' v l := by
  obtain ⟨a, cap, hv, hl, h⟩ := h
  refine ⟨a, cap, hv, hl, h.imp id fun ⟨b, ha, hlt, hc⟩ => ⟨b, ha, Nat.lt_of_lt_of_le hlt hb.size, fun i hi => ?_⟩⟩
  rw [World.cell?_of_block (w := w) (a := ⟨b, i, none⟩) (hb.block b hlt)]
  exact hc i hi
theorem NumsAt.of_ints {B : Nat} {w : World} {v : Value} {l : List Nat} (h : Ints B w v l) (hl : l.length ≤ 1048576) : NumsAt w v l := by
  obtain ⟨h1, h2⟩ := h
  rcases h2 with ⟨hv, h0⟩ | ⟨g, cap, cur, hv, hB, hc, hcap, _, hsz, hx⟩
  · have : l = [] := List.length_eq_zero_iff.1 (by omega)
    subst this
    exact ⟨none, 0, hv, by simp, Or.inl rfl⟩
  · refine ⟨some ⟨g, 0, none⟩, cap, hv, hl, ?_⟩
    by_cases h0 : l = []
    · exact Or.inl h0
    · refine Or.inr ⟨g, rfl, (Array.getElem?_eq_some_iff.1 hc).1, fun i hi => ?_⟩
      have e : cur.toList[i]? = some (.int .i64 ((l.getD i 0 : Nat) : Int)) := by
        have : (cur.toList.take (l.length * 1))[i]? = (intVs l)[i]? := by rw [hx]
        rw [List.getElem?_take, if_pos (by omega)] at this
        rw [this]
        simp [intVs, List.getD, hi]
      simp only [World.cell?, hc]
      simpa using e

set_option maxHeartbeats 1000000 in
theorem ldInts_any (v v' : Value) (l : List Nat) (w : World) (h : NumsAt w v l) (h' : NumsAt w v' l) :
    Calls Try.prog 10 #[v, v'] w fun e w' => e = .returned (.bool true) ∧ Below w.heap.size w w' := by
  obtain ⟨a, cap, rfl, hm, h⟩ := h
  obtain ⟨a', cap', rfl, _, h'⟩ := h'
  go_enter Try.func10, Try.ntmps10
  go_wp2
  go_loopw [5] (fun i wr => ∃ k : Nat, k ≤ l.length ∧ i = .int .i64 k ∧ Drawn w wr) (fun i _ => l.length - (intOf i).toNat)
  case atStart => exact ⟨0, Nat.zero_le _, rfl, Drawn.refl _⟩
  case round =>
    rename World => wo
    obtain ⟨k, hk, rfl, hw⟩ := hrel
    by_cases hlt : k < l.length
    · rcases h with h | ⟨b, rfl, _, h⟩
      · subst h; simp at hlt
      rcases h' with h' | ⟨b', rfl, _, h'⟩
      · subst h'; simp at hlt
      have c0 := h k hlt
      have d0 := h' k hlt
      clear h h'
      generalize l.getD k 0 = q at c0 d0
      rw [← hw.cell] at c0 d0
      have j0 : (0 : Int) ≤ (k : Int) := by omega
      have j1 : (k : Int) < (l.length : Int) := by omega
      go_wp2_with fail
      go_quiet (fail)
      go_wp2_with fail
      go_roundw
      case rel => exact ⟨k + 1, by omega, by go_num, hw.more _⟩
      case measure => simp [intOf]; omega
    · go_wp2_with fail
      go_ret
      exact ⟨rfl, hw.below _⟩

set_option maxHeartbeats 1000000 in
theorem ldIn_any (v : Value) (l : List Nat) (z : Nat) (w : World) (h : NumsAt w v l) (hz : z ∈ l) :
    Calls Try.prog 14 #[v, .int .i64 (z : Int)] w fun e w' => e = .returned (.bool true) ∧ w' = w := by
  obtain ⟨a, cap, rfl, hm, h⟩ := h
  go_enter Try.func14, Try.ntmps14
  go_wp2
  go_loopw [5] (fun i wr => ∃ k : Nat, k ≤ l.length ∧ i = .int .i64 k ∧ wr = w ∧ z ∉ l.take k) (fun i _ => l.length - (intOf i).toNat)
  case atStart => exact ⟨0, Nat.zero_le _, rfl, rfl, by simp⟩
  case round =>
    rename World => wo
    obtain ⟨k, hk, rfl, rfl, hno⟩ := hrel
    by_cases hlt : k < l.length
    · rcases h with h | ⟨b, rfl, _, h⟩
      · subst h; simp at hlt
      have c0 := h k hlt
      have hgd : l.getD k 0 = l[k] := by simp [List.getD, hlt]
      have htk : l.take (k + 1) = l.take k ++ [l.getD k 0] := by rw [List.take_succ_eq_append_getElem hlt, hgd]
      generalize l.getD k 0 = q at c0 htk
      have j0 : (0 : Int) ≤ (k : Int) := by omega
      have j1 : (k : Int) < (l.length : Int) := by omega
      clear h
      by_cases hq : q = z
      · subst hq
        have hqb : ((q : Int) == (q : Int)) = true := by simp
        go_wp2_with fail
        go_ret
        exact ⟨rfl, rfl⟩
      · have hqb : ((q : Int) == (z : Int)) = false := by simp; omega
        go_wp2_with fail
        go_roundw
        case rel => exact ⟨k + 1, by omega, by go_num, by first | rfl | trivial, by rw [htk]; simp; exact ⟨hno, fun e => hq e.symm⟩⟩
        case measure => simp [intOf]; omega
    · have : k = l.length := by omega
      subst this
      simp at hno
      exact absurd hz hno
end Go.Proofs.Ytahnfgkjmkiodaa
