/- The laws' own looks at numbers: whether two rows of them are the same. -/
import Derived.Test.YthkhaemlcmkkjarS3A
import Derived.Deep.QuietTactic
namespace Go.Proofs.Ythkhaemlcmkkjar
set_option linter.unusedVariables false
set_option linter.unusedSimpArgs false
open Go.RowKit Go.Deep

theorem ints_eq {l m : List Int} (h : l.length = m.length) (ha : ∀ i, i < l.length → l.getD i 0 = m.getD i 0) : l = m := by
  apply List.ext_getElem h
  intro i h1 h2
  have := ha i h1
  simpa [List.getD, h1, h2] using this
set_option maxHeartbeats 1000000 in
theorem ldIntsZ_any (a : Option Addr) (l : List Int) (c : Nat) (a' : Option Addr) (m : List Int) (c' : Nat) (w : World) (h : SetAt w a l) (h' : SetAt w a' m) :
    Calls Try.prog 10 #[.slice a l.length c, .slice a' m.length c'] w fun e w' => e = .returned (.bool (decide (l = m))) ∧ Below w.heap.size w w' := by
  obtain ⟨hl, h⟩ := h
  obtain ⟨hm, h'⟩ := h'
  go_enter Try.func10, Try.ntmps10
  by_cases hlen : l.length = m.length
  · have hb : ((l.length : Int) != (m.length : Int)) = false := by simp; omega
    have HL := hide hlen
    clear hlen
    go_wp2_with fail
    go_loopw [5] (fun i wr => ∃ k : Nat, k ≤ l.length ∧ i = .int .i64 k ∧ Hid (∀ i, i < k → l.getD i 0 = m.getD i 0) ∧ Drawn w wr) (fun i _ => l.length - (intOf i).toNat)
    case atStart => exact ⟨0, Nat.zero_le _, rfl, fun i hi => by omega, Drawn.refl _⟩
    case round =>
      rename World => wo
      obtain ⟨k, hk, rfl, HE, hw⟩ := hrel
      by_cases hlt : k < l.length
      · have hltm : k < m.length := by have := unhide HL; omega
        rcases h with h | ⟨b, o, rfl, _, h⟩
        · subst h; simp at hlt
        rcases h' with h' | ⟨b', o', rfl, _, h'⟩
        · subst h'; simp at hltm
        have c0 := h k hlt
        have d0 := h' k hltm
        have hres : l.getD k 0 ≠ m.getD k 0 → decide (l = m) = false := fun hne => by
          rw [decide_eq_false_iff_not]
          intro e
          rw [e] at hne
          exact hne rfl
        have hgo : l.getD k 0 = m.getD k 0 → ∀ i, i < k + 1 → l.getD i 0 = m.getD i 0 := fun he i hi => by
          rcases Nat.lt_or_ge i k with h1 | h1
          · exact unhide HE i h1
          · have : i = k := by omega
            rw [this]; exact he
        generalize l.getD k 0 = x at c0 hres hgo
        generalize m.getD k 0 = y at d0 hres hgo
        have HRES := hide hres
        have HGO := hide hgo
        rw [← hw.cell] at c0 d0
        have j0 : (0 : Int) ≤ (k : Int) := by omega
        have j1 : (k : Int) < (l.length : Int) := by omega
        have j2 : (k : Int) < (m.length : Int) := by omega
        clear h h' hres hgo
        by_cases hxy : x = y
        · have hxb : (x != y) = false := by simp [hxy]
          have HN := hide (unhide HGO hxy)
          clear HRES HGO hxy
          go_wp2_with fail
          go_quiet (fail)
          go_wp2_with fail
          go_roundw
          case rel => exact ⟨k + 1, by omega, by go_num, HN, hw.more _⟩
          case measure => simp [intOf]; omega
        · have hxb : (x != y) = true := by simp [hxy]
          have HN := hide (unhide HRES hxy)
          clear HRES HGO hxy
          go_wp2_with fail
          go_quiet (fail)
          go_wp2_with fail
          go_ret
          exact ⟨ret_bool (unhide HN).symm, (hw.more _).below _⟩
      · have HN := hide (show decide (l = m) = true by
          rw [decide_eq_true_eq]
          exact ints_eq (unhide HL) fun i hi => unhide HE i (by omega))
        have j1 : ¬ (k : Int) < (l.length : Int) := by omega
        go_wp2_with fail
        go_ret
        exact ⟨ret_bool (unhide HN).symm, hw.below _⟩
  · have hb : ((l.length : Int) != (m.length : Int)) = true := by simp; omega
    have HN := hide (show decide (l = m) = false by
      rw [decide_eq_false_iff_not]
      intro e
      exact hlen (by rw [e]))
    clear hlen
    go_wp2_with fail
    go_ret
    exact ⟨ret_bool (unhide HN).symm, Below.refl _ _⟩
end Go.Proofs.Ythkhaemlcmkkjar
