/- The program's own packsAscend and RepoOk. -/
import Derived.Test.YtecipjdbfmldlabImplC
import Derived.Lib.QuietBelow
namespace Go.Proofs.Ytecipjdbfmldlab
set_option linter.unusedVariables false
set_option linter.unusedSimpArgs false
open Go.RowKit Go.Sort

theorem asc_not {packs : List PackD} {k : Nat} (h : k < packs.length) (h0 : 0 < k) (hf : aheadB (packs.getD (k - 1) dPack) (packs.getD k dPack) = false) : ascB packs = false := by
  rw [← Bool.not_eq_true]
  intro ht
  have := List.all_eq_true.1 ht (k - 1) (by simp; omega)
  rw [show k - 1 + 1 = k by omega, hf] at this
  exact absurd this (by decide)

theorem asc_short {packs : List PackD} (h : packs.length ≤ 1) : ascB packs = true := by
  simp only [ascB]
  rw [show packs.length - 1 = 0 by omega]; rfl

set_option maxHeartbeats 2000000 in
theorem packsAscend_any (a : Option Addr) (packs : List PackD) (cap : Nat) (w : World) (h : PacksAt (Old w) w a packs) :
    Calls Try.prog 53 #[.slice a packs.length cap] w fun e w' => e = .returned (.bool (ascB packs)) ∧ Below w.heap.size w w' := by
  obtain ⟨hm, h⟩ := h
  unfold maxLen at hm
  go_enter Try.func53, Try.ntmps53
  go_wp2
  go_loopw [3] (fun i wr => ∃ k : Nat, 1 ≤ k ∧ i = .int .i64 k ∧ (k ≤ packs.length ∨ k = 1) ∧ Hid (ascB (packs.take k) = true) ∧ Below w.heap.size w wr) (fun i _ => packs.length + 1 - (intOf i).toNat)
  case atStart => exact ⟨1, Nat.le_refl _, rfl, Or.inr rfl, asc_one packs, Below.refl _ _⟩
  case round =>
    rename World => wo
    obtain ⟨k, hk0, rfl, hk, hl, hw⟩ := hrel
    by_cases hlt : k < packs.length
    · rcases h with h | ⟨b, o, rfl, hSb, h⟩
      · subst h; simp at hlt
      · have hq := h k hlt
        have hq' := h (k - 1) (by omega)
        clear h
        have H := hide (@asc_take packs k hlt (by omega))
        have HN := hide (@asc_not packs k hlt (by omega))
        generalize packs.getD (k - 1) dPack = p' at hq' H HN
        generalize packs.getD k dPack = p at hq H HN
        obtain ⟨a1, c1, a2, c2, a3, c3, ⟨p0, p1, p2, p3, p4, p5⟩, hv⟩ := hq
        obtain ⟨z1, d1, z2, d2, z3, d3, ⟨q0, q1, q2, q3, q4, q5⟩, _⟩ := hq'
        obtain ⟨z, hz⟩ : ∃ z : Int, z = (k : Int) - 1 := ⟨_, rfl⟩
        have hkn : z.toNat = k - 1 := by omega
        rw [← hkn, ← hw.cell (p := ⟨b, _, none⟩) hSb] at q0 q1 q2 q3 q4 q5
        rw [← hw.cell (p := ⟨b, _, none⟩) hSb] at p0 p1 p2 p3 p4 p5
        have hwr : IntKind.i64.wrap ((k : Int) - 1) = z := by rw [IntKind.wrap_i64]; omega
        have i0 : (0 : Int) ≤ z := by omega
        have i1 : z < (packs.length : Int) := by omega
        have j0 : (0 : Int) ≤ (k : Int) := by omega
        have j1 : (k : Int) < (packs.length : Int) := by omega
        have HK := hide hk
        have HW := hide hw
        clear hkn hz hv hk hw
        have r0 := cell_regrown p0
        have r1 := cell_regrown p1
        have r2 := cell_regrown p2
        have r3 := cell_regrown p3
        have r4 := cell_regrown p4
        have r5 := cell_regrown p5
        have s0 := cell_regrown q0
        have s1 := cell_regrown q1
        have s2 := cell_regrown q2
        have s3 := cell_regrown q3
        have s4 := cell_regrown q4
        have s5 := cell_regrown q5
        have cC := hide (fun d os => Calls.regrown_of (packAhead_any p' p z1 d1 z2 d2 z3 d3 a1 c1 a2 c2 a3 c3 (grow (redrawn wo d) os)))
        go_wp2_with fail
        refine wp_region_quiet_below (by kernel_rfl) (by kernel_rfl) ?_
        repeat (quiet_step (exact unhide cC _ _))
        refine wpQuiet_nil ?_
        intro _ hw'
        obtain ⟨⟨dq, osq⟩, hw''⟩ := hw'
        subst hw''
        have hbe := (unhide HW).trans ((below_regrown wo dq osq).mono (unhide HW).size)
        have HBE := hide hbe
        clear hbe r0 r1 r2 r3 r4 r5 s0 s1 s2 s3 s4 s5
        cases hah : aheadB p' p with
        | true =>
          go_wp2
          go_roundw
          case rel => exact ⟨k + 1, by omega, by go_num, Or.inl (by omega), by show _ = true; rw [unhide H, hl.out, hah]; rfl, unhide HBE⟩
          case measure => simp [intOf]; omega
        | false =>
          have e := unhide HN hah
          go_wp2
          go_ret
          exact ⟨by first | rfl | (rw [e]; rfl), unhide HBE⟩
    · go_wp2
      go_ret
      refine ⟨ret_bool ?_, hw⟩
      by_cases h1 : packs.length ≤ 1
      · rw [asc_short h1]
      · have hl' := hl.out
        rw [List.take_of_length_le (by omega)] at hl'
        rw [hl']

set_option maxHeartbeats 2000000 in
theorem implRepoOk_any (a : Option Addr) (packs : List PackD) (cap : Nat) (room : Int) (w : World) (h : PacksAt (Old w) w a packs) :
    Calls Try.prog 39 #[.agg #[.slice a packs.length cap, .int .i64 room]] w fun e w' => e = .returned (.bool (repoB ⟨packs, room⟩)) ∧ Below w.heap.size w w' := by
  have hm := h.1
  unfold maxLen at hm
  have HV := hide h
  clear h
  by_cases h8 : (packs.length : Int) ≤ 8
  case neg =>
    have e : repoB ⟨packs, room⟩ = false := by simp only [repoB]; simp; omega
    go_enter Try.func39, Try.ntmps39
    go_wp2_with fail
    go_ret
    exact ⟨by first | rfl | (rw [e]; rfl), (Below.refl _ _).alloc (Nat.le_refl _) _⟩
  case pos =>
  have h8' : Hid (packs.length ≤ 8) := by show _ ≤ _; omega
  cases hr : inB room 0 999 with
  | false =>
    have e : repoB ⟨packs, room⟩ = false := by simp [repoB, hr]
    go_enter Try.func39, Try.ntmps39
    go_wp2_with (go_at_call 45; refine (within_any _ _ _ _).mono ?_; rintro e w' ⟨rfl, hww⟩; obtain rfl := hww.symm)
    go_ret
    exact ⟨by first | rfl | (rw [e]; rfl), (Below.refl _ _).alloc (Nat.le_refl _) _⟩
  | true =>
  go_enter Try.func39, Try.ntmps39
  go_wp2_with (go_at_call 45; refine (within_any _ _ _ _).mono ?_; rintro e w' ⟨rfl, hww⟩; obtain rfl := hww.symm)
  refine (allPack_any a packs _ _ ((unhide HV).on ((Below.refl _ _).alloc (Nat.le_refl _) _))).mono ?_
  rintro e w1 ⟨rfl, hb⟩
  have x0 := hb.cell (p := ⟨w.heap.size, 0, none⟩) (by simp)
  have hz := hb.size
  simp at x0 hz
  have hb1 : Below w.heap.size w w1 := ((Below.refl w.heap.size w).alloc (Nat.le_refl _) _).trans (hb.mono (by simp))
  have HB := hide hb1
  clear hb hb1
  cases hp : packs.all packB with
  | false =>
    have e : repoB ⟨packs, room⟩ = false := by simp only [repoB, hp]; simp
    go_wp2_with fail
    go_ret
    exact ⟨by first | rfl | (rw [e]; rfl), unhide HB⟩
  | true =>
  go_wp2_with fail
  refine (packsAscend_any a packs _ _ ((unhide HV).on (unhide HB))).mono ?_
  rintro e w2 ⟨rfl, hb⟩
  go_wp2_with fail
  go_ret
  refine ⟨ret_bool ?_, (unhide HB).trans (hb.mono (unhide HB).size)⟩
  simp only [repoB, hp, hr, h8'.out, decide_true, Bool.true_and]
end Go.Proofs.Ytecipjdbfmldlab
