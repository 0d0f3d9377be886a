/- Whether a model stands ahead of another one: the law's own ldAhead. -/
import Derived.Test.YthkhaemlcmkkjaiSatE
import Derived.BigQuiet
namespace Go.Proofs.Ythkhaemlcmkkjai
set_option linter.unusedVariables false
set_option linter.unusedSimpArgs false
open Go.RowKit Go.Deep

set_option maxHeartbeats 2000000 in
theorem ldAhead_any (a a' : Option Addr) (l l' : List Bool) (c c' : Nat) (w : World) (h : BoolsAt w a l) (h' : BoolsAt w a' l') :
    Calls Try.prog 15 #[.slice a l.length c, .slice a' l'.length c'] w fun e w' => e = .returned (.bool (aheadF l l')) ∧ Below w.heap.size w w' := by
  obtain ⟨hm, h⟩ := h
  obtain ⟨hm', h'⟩ := h'
  obtain ⟨R, hR⟩ : ∃ R, R = aheadF l l' := ⟨_, rfl⟩
  rw [← hR]
  have HR := hide hR
  clear hR
  go_enter Try.func15, Try.ntmps15
  go_wp2
  go_loopw [5] (fun i wr => ∃ k : Nat, k ≤ l.length ∧ i = .int .i64 k ∧ Hid (aheadF (l.drop k) (l'.drop k) = R) ∧ Drawn w wr) (fun i _ => l.length - (intOf i).toNat)
  case atStart => exact ⟨0, Nat.zero_le _, rfl, (unhide HR).symm, Drawn.refl _⟩
  case round =>
    rename World => wo
    obtain ⟨k, hk, rfl, HI, hw⟩ := hrel
    by_cases hlt : k < l.length
    · by_cases hlt' : k < l'.length
      · rcases h with h | ⟨b, o, rfl, _, h⟩
        · subst h; simp at hlt
        rcases h' with h' | ⟨b', o', rfl, _, h'⟩
        · subst h'; simp at hlt'
        have c0 := h k hlt
        have d0 := h' k hlt'
        have HS := hide (aheadF_at hlt hlt')
        clear h h'
        generalize l.getD k false = q at c0 HS
        generalize l'.getD k false = q' at d0 HS
        rw [← hw.cell] at c0 d0
        have j0 : (0 : Int) ≤ (k : Int) := by omega
        have j1 : (k : Int) < (l.length : Int) := by omega
        have j2 : (k : Int) < (l'.length : Int) := by omega
        by_cases hq : q = q'
        · subst hq
          have HN := hide (show aheadF (l.drop (k + 1)) (l'.drop (k + 1)) = R by rw [← unhide HI, unhide HS, if_pos rfl])
          clear HS HI
          go_wp2_with fail
          go_quiet (fail)
          go_wp2_with fail
          go_roundw
          case rel => exact ⟨k + 1, by omega, by go_num, HN, hw.more _⟩
          case measure => simp [intOf]; omega
        · have HN := hide (show q' = R by rw [← unhide HI, unhide HS, if_neg hq])
          have hqb : (q != q') = true := by rw [bne_iff_ne]; exact hq
          have hd9 := fun n => hw.more n
          clear HS HI
          cases q <;> cases q'
          · exact absurd rfl hq
          · go_wp2_with fail
            go_quiet (fail)
            rw [← (Drawn.refl wo).cell] at d0
            go_wp2_with fail
            go_ret
            exact ⟨ret_bool (unhide HN), (hw.more _).below _⟩
          · go_wp2_with fail
            go_quiet (fail)
            go_wp2_with fail
            go_ret
            exact ⟨ret_bool (unhide HN), (hw.more _).below _⟩
          · exact absurd rfl hq
      · have j2 : ¬ (k : Int) < (l'.length : Int) := by omega
        have j1 : (k : Int) < (l.length : Int) := by omega
        have HN := hide (show false = R by rw [← unhide HI, aheadF_short (by omega)])
        clear HI
        go_wp2_with fail
        go_ret
        exact ⟨ret_bool (unhide HN), hw.below _⟩
    · have j1 : ¬ (k : Int) < (l.length : Int) := by omega
      have HN := hide (show false = R by rw [← unhide HI, aheadF_short (by omega)])
      clear HI
      go_wp2_with fail
      go_ret
      exact ⟨ret_bool (unhide HN), hw.below _⟩
end Go.Proofs.Ythkhaemlcmkkjai
