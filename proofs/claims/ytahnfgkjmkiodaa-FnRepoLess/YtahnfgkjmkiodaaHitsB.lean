/- RepoHits, the specification's and the program's own: the places that fit, in new memory. -/
import Derived.Test.YtahnfgkjmkiodaaHitsA
import Derived.Lib.QuietBelow
namespace Go.Proofs.Ytahnfgkjmkiodaa
set_option linter.unusedVariables false
set_option linter.unusedSimpArgs false
open Go.RowKit Go.Sort

/-- A list of numbers that the call has made: v leads to it, in a block from B on that may be written. -/
def Ints (B : Nat) (w : World) (v : Value) (l : List Nat) : Prop := w.ownsRow B 3 1 v l.length (intVs l)

set_option maxHeartbeats 2000000 in
theorem implRepoHits_any (q : ReqD) (a : Option Addr) (packs : List PackD) (cap : Nat) (room : Int) (w : World) (h : PacksAt (Old w) w a packs) :
    Calls Try.prog 9 #[.agg #[.slice a packs.length cap, .int .i64 room], .agg #[.string q.name, .int .i64 q.low, .int .i64 q.high]] w
      fun e w' => (∃ v, e = .returned v ∧ Ints w.heap.size w' v (hitsL q packs room)) ∧ Below w.heap.size w w' := by
  have hm := h.1
  unfold maxLen at hm
  have HV := hide h
  clear h
  obtain ⟨i0, hi, hz0, hz1, hz2⟩ := info_parts Try.infoInt
  have e0 : ∀ A B, Below w.heap.size w ((w.alloc A).alloc B) := fun A B => ((Below.refl _ _).alloc (Nat.le_refl _) _).alloc (by simp) _
  have E0 := hide e0
  clear e0
  go_enter Try.func9, Try.ntmps9
  go_wp2_with fail
  refine (implRepoOk_any a packs cap room _ ((unhide HV).on (unhide E0 _ _))).mono ?_
  rintro e w1 ⟨rfl, hb⟩
  have r0 := hb.cell (p := ⟨w.heap.size, 0, none⟩) (by simp; omega)
  have r1 := hb.cell (p := ⟨w.heap.size, 1, none⟩) (by simp; omega)
  have q0 := hb.cell (p := ⟨w.heap.size + 1, 0, none⟩) (by simp)
  have q1 := hb.cell (p := ⟨w.heap.size + 1, 1, none⟩) (by simp)
  have q2 := hb.cell (p := ⟨w.heap.size + 1, 2, none⟩) (by simp)
  have hz := hb.size
  simp at r0 r1 q0 q1 q2 hz
  have HB := hide ((unhide E0 _ _).trans (hb.mono (by simp; omega)))
  have HB0 := hide (hb.mono (show w.heap.size + 1 + 1 ≤ _ by simp))
  clear hb
  cases hok : repoB ⟨packs, room⟩ with
  | false =>
    have HL := hide (show hitsL q packs room = [] by simp [hitsL, hok])
    go_wp2_with fail
    go_ret
    refine ⟨⟨_, rfl, ?_⟩, unhide HB⟩
    rw [unhide HL]
    exact World.ownsRow_nil _ _ _ _
  | true =>
    have HL := hide (show hitsL q packs room = hitsTo q packs packs.length by simp [hitsL, hok])
    have h8 : packs.length ≤ 8 := by simp only [repoB, Bool.and_eq_true, decide_eq_true_eq] at hok; exact hok.1.1.1
    go_wp2_with fail
    refine (searchFits_any q a packs cap 0 _ ((unhide HV).on (unhide HB)) (by omega)).mono ?_
    rintro e w2 ⟨⟨k0, rfl, hk1, hk2, hk3, hk4⟩, hb⟩
    have hb2 := (unhide HB0).trans (hb.mono (by have := (unhide HB0).size; simp at this; omega))
    have HB2 := hide hb2
    have HK3 := hide hk3
    have HK4 := hide hk4
    clear hb hb2 hk3 hk4 r0 r1 q0 q1 q2 hz
    go_wp2_with fail
    go_loopw [5, 6] (fun v i wr => ∃ k : Nat, i = .int .i64 k ∧ k ≤ packs.length ∧ Hid (k < packs.length → fitsB q (packs.getD k dPack) = true) ∧ Ints (w.heap.size + 1 + 1) wr v (hitsTo q packs k) ∧ Below (w.heap.size + 1 + 1) ((w.alloc (.cells #[.slice a packs.length cap, .int .i64 room] 25)).alloc (.cells #[.string q.name, .int .i64 q.low, .int .i64 q.high] 27)) wr) (fun _ i _ => packs.length - (intOf i).toNat)
    case atStart =>
      refine ⟨k0, rfl, hk2, unhide HK4, ?_, unhide HB2⟩
      rw [hits_skip q packs (Nat.zero_le _) (fun i h1 h2 => unhide HK3 i h1 h2)]
      exact World.ownsRow_nil _ _ _ _
    case round =>
      rename World => wo
      obtain ⟨k, rfl, hk, hfit, hown, hw⟩ := hrel
      have r0 := hw.cell (p := ⟨w.heap.size, 0, none⟩) (by simp; omega)
      have q0 := hw.cell (p := ⟨w.heap.size + 1, 0, none⟩) (by simp)
      have q1 := hw.cell (p := ⟨w.heap.size + 1, 1, none⟩) (by simp)
      have q2 := hw.cell (p := ⟨w.heap.size + 1, 2, none⟩) (by simp)
      have hz := hw.size
      simp at r0 q0 q1 q2 hz
      by_cases hlt : k < packs.length
      · have hle := hits_le q packs k
        go_wp2_with (first
          | (at_builtin; refine wpList_append_own _ rfl _ _ 30 rfl (w.heap.size + 1 + 1) 3 i0 (.int .i64 0) 1 8 Try.underlying30 hi hz0 hz1 hz2 rfl (by decide) _ _ _ rfl (hown.alloc _) ⟨wo.heap.size, 0, none⟩ 1 1 [.int .i64 k] rfl rfl ?c1 ?c2 ?c3 ?c4 ?c5 ?_))
        case c1 =>
          intro j u hj
          match j, hj with
          | 0, hj => simp at hj; subst hj; simp [Addr.add]
        case c2 => intro u hu; simp at hu; subst hu; rfl
        case c3 => unfold maxLen; omega
        case c4 => omega
        case c5 => simp; omega
        intro v' w1 hown' hgrow _
        have hb1 := (hw.alloc (by omega) (.cells #[.int .i64 k] 3)).grown hgrow (by simp; omega) (fun j hj => (World.ownsRow.lt hown j hj).1)
        have hown1 : Ints (w.heap.size + 1 + 1) w1 v' (hitsTo q packs (k + 1)) := by
          unfold Ints
          rw [hits_succ, if_pos (hfit.out hlt)]
          simpa [intVs] using hown'
        have HO := hide hown1
        have HB1 := hide hb1
        have r0' := hb1.cell (p := ⟨w.heap.size, 0, none⟩) (by simp; omega)
        have q0' := hb1.cell (p := ⟨w.heap.size + 1, 0, none⟩) (by simp)
        have q1' := hb1.cell (p := ⟨w.heap.size + 1, 1, none⟩) (by simp)
        have q2' := hb1.cell (p := ⟨w.heap.size + 1, 2, none⟩) (by simp)
        have hz' := hb1.size
        simp at r0' q0' q1' q2' hz'
        clear r0 q0 q1 q2 hz hown hown' hgrow hown1 hb1 hw hfit
        go_wp2_with fail
        refine (searchFits_at q a packs cap (k + 1) ((k : Int) + 1) (by omega) _ ((unhide HV).on ((unhide E0 _ _).trans ((unhide HB1).mono (by omega)))) (by omega)).mono ?_
        rintro e w2 ⟨⟨k2, rfl, hk21, hk22, hk23, hk24⟩, hb⟩
        have HB2' := hide ((unhide HB1).trans (hb.mono (by omega)))
        have HO2 := hide (ownsRow_below (unhide HO) hb)
        have HK23 := hide hk23
        have HK24 := hide hk24
        clear hb hk23 hk24
        go_wp2_with fail
        go_roundw
        case rel =>
          refine ⟨k2, rfl, hk22, unhide HK24, ?_, unhide HB2'⟩
          rw [hits_skip q packs hk21 (unhide HK23)]
          exact unhide HO2
        case measure => simp [intOf]; omega
      · go_wp2_with fail
        go_ret
        refine ⟨⟨_, rfl, ?_⟩, (unhide E0 _ _).trans (hw.mono (by omega))⟩
        rw [unhide HL, ← (show k = packs.length by omega)]
        exact ownsRow_base hown (by omega)

set_option maxHeartbeats 2000000 in
theorem specRepoHits_any (q : ReqD) (a : Option Addr) (packs : List PackD) (cap : Nat) (room : Int) (w : World) (h : PacksAt (Old w) w a packs) :
    Calls Try.prog 8 #[.agg #[.slice a packs.length cap, .int .i64 room], .agg #[.string q.name, .int .i64 q.low, .int .i64 q.high]] w
      fun e w' => (∃ v, e = .returned v ∧ Ints w.heap.size w' v (hitsL q packs room)) ∧ Below w.heap.size w w' := by
  have hm := h.1
  unfold maxLen at hm
  have HV := hide h
  clear h
  obtain ⟨i0, hi, hz0, hz1, hz2⟩ := info_parts Try.infoInt
  have e0 : ∀ A B, Below w.heap.size w ((w.alloc A).alloc B) := fun A B => ((Below.refl _ _).alloc (Nat.le_refl _) _).alloc (by simp) _
  have E0 := hide e0
  clear e0
  go_enter Try.func8, Try.ntmps8
  go_wp2_with fail
  go_loopw [5, 6] (fun v i wr => ∃ k : Nat, i = .int .i64 k ∧ k ≤ packs.length ∧ (k = 0 ∨ Hid (repoB ⟨packs, room⟩ = true)) ∧ Ints (w.heap.size + 1 + 1) wr v (hitsTo q packs k) ∧ Below (w.heap.size + 1 + 1) ((w.alloc (.cells #[.slice a packs.length cap, .int .i64 room] 25)).alloc (.cells #[.string q.name, .int .i64 q.low, .int .i64 q.high] 27)) wr) (fun _ i _ => packs.length - (intOf i).toNat)
  case atStart => exact ⟨0, rfl, Nat.zero_le _, Or.inl rfl, ⟨rfl, Or.inr ⟨w.heap.size + 1 + 1, 0, #[], rfl, Nat.le_refl _, (three_alloc _ _ _ _).2.2, Nat.le_refl _, by unfold maxLen; omega, rfl, rfl⟩⟩, (Below.refl _ _).alloc (by simp) _⟩
  case round =>
    rename World => wo
    obtain ⟨k, rfl, hk, hok, hown, hw⟩ := hrel
    have r0 := hw.cell (p := ⟨w.heap.size, 0, none⟩) (by simp; omega)
    have r1 := hw.cell (p := ⟨w.heap.size, 1, none⟩) (by simp; omega)
    have hz := hw.size
    simp at r0 r1 hz
    by_cases hlt : k < packs.length
    · have HW := hide hw
      clear hw
      have hbw : Below w.heap.size w wo := (unhide E0 _ _).trans ((unhide HW).mono (by omega))
      have HBW := hide hbw
      clear hbw
      go_wp2_with fail
      refine (specRepoOk_any a packs cap room _ ((unhide HV).on (unhide HBW))).mono ?_
      rintro e w1 ⟨rfl, hb⟩
      have HW1 := hide ((unhide HW).trans (hb.mono (by omega)))
      have HO := hide (ownsRow_below hown hb)
      clear hb hown r0 r1 HW HBW
      have r0 := (unhide HW1).cell (p := ⟨w.heap.size, 0, none⟩) (by simp; omega)
      have q0 := (unhide HW1).cell (p := ⟨w.heap.size + 1, 0, none⟩) (by simp)
      have q1 := (unhide HW1).cell (p := ⟨w.heap.size + 1, 1, none⟩) (by simp)
      have q2 := (unhide HW1).cell (p := ⟨w.heap.size + 1, 2, none⟩) (by simp)
      have hz' := (unhide HW1).size
      simp at r0 q0 q1 q2 hz'
      cases hB : repoB ⟨packs, room⟩ with
      | false =>
        have hk0 : k = 0 := by
          rcases hok with h | h
          · exact h
          · have := h.out; rw [hB] at this; cases this
        have HK := hide hk0
        clear hk0 hok
        have HL := hide (show hitsL q packs room = [] by simp [hitsL, hB])
        go_wp2_with fail
        go_ret
        refine ⟨⟨_, rfl, ?_⟩, (unhide E0 _ _).trans ((unhide HW1).mono (by omega))⟩
        rw [unhide HL]
        have := unhide HO
        rw [unhide HK] at this
        exact ownsRow_base this (by omega)
      | true =>
        have h8 : packs.length ≤ 8 := by simp only [repoB, Bool.and_eq_true, decide_eq_true_eq] at hB; exact hB.1.1.1
        clear hok
        have hV := (unhide HV).on ((unhide E0 _ _).trans ((unhide HW1).mono (by omega)))
        obtain ⟨_, hV⟩ := hV
        rcases hV with hV | ⟨b, o, rfl, hSb, hV⟩
        · rw [hV] at hlt; simp at hlt
        have hq := hV k hlt
        clear hV
        obtain ⟨p, hpe⟩ : ∃ p, p = packs.getD k dPack := ⟨_, rfl⟩
        rw [← hpe] at hq
        have HP := hide hpe
        clear hpe
        obtain ⟨a1, c1, a2, c2, a3, c3, ⟨p0, p1, p2, p3, p4, p5⟩, _⟩ := hq
        have j0 : (0 : Int) ≤ (k : Int) := by omega
        have j1 : (k : Int) < (packs.length : Int) := by omega
        have s0 := cell_regrown r0
        have s1 := cell_regrown q0
        have s2 := cell_regrown q1
        have s3 := cell_regrown q2
        have t0 := cell_regrown p0
        have t1 := cell_regrown p1
        have t2 := cell_regrown p2
        have t3 := cell_regrown p3
        have t4 := cell_regrown p4
        have t5 := cell_regrown p5
        have cC := hide (fun d os => Calls.regrown_of (l1Fits_any p q a1 c1 a2 c2 a3 c3 (grow (redrawn w1 d) os)))
        go_wp2_with fail
        refine wp_region_quiet_below (by kernel_rfl) (by kernel_rfl) ?_
        repeat (quiet_step (exact unhide cC _ _))
        refine wpQuiet_nil ?_
        intro _ hw'
        obtain ⟨⟨dq, osq⟩, hw''⟩ := hw'
        subst hw''
        have hbq := below_regrown w1 dq osq
        have HW2 := hide ((unhide HW1).trans (hbq.mono (by omega)))
        have HO2 := hide (ownsRow_below (unhide HO) hbq)
        clear hbq s0 s1 s2 s3 t0 t1 t2 t3 t4 t5 HO HW1
        generalize grow (redrawn w1 dq) osq = w2 at HW2 HO2 ⊢
        have hz9 := (unhide HW2).size
        simp at hz9
        have hle := hits_le q packs k
        cases hf : fitsB q p with
        | false =>
          go_wp2_with fail
          go_roundw
          case rel =>
            refine ⟨k + 1, by go_num, by omega, Or.inr (hide hB), ?_, unhide HW2⟩
            rw [hits_succ, ← unhide HP, if_neg (by rw [hf]; decide)]
            exact unhide HO2
          case measure => simp [intOf]; omega
        | true =>
          have hown := unhide HO2
          go_wp2_with (first
            | (at_builtin; refine wpList_append_own _ rfl _ _ 30 rfl (w.heap.size + 1 + 1) 3 i0 (.int .i64 0) 1 8 Try.underlying30 hi hz0 hz1 hz2 rfl (by decide) _ _ _ rfl (hown.alloc _) ⟨w2.heap.size, 0, none⟩ 1 1 [.int .i64 k] rfl rfl ?c1 ?c2 ?c3 ?c4 ?c5 ?_))
          case c1 =>
            intro j u hj
            match j, hj with
            | 0, hj => simp at hj; subst hj; simp [Addr.add]
          case c2 => intro u hu; simp at hu; subst hu; rfl
          case c3 => unfold maxLen; omega
          case c4 => omega
          case c5 => simp; omega
          intro v' w3 hown' hgrow _
          have hb1 := ((unhide HW2).alloc (by omega) (.cells #[.int .i64 k] 3)).grown hgrow (by simp; omega) (fun j hj => (World.ownsRow.lt hown j hj).1)
          have hown1 : Ints (w.heap.size + 1 + 1) w3 v' (hitsTo q packs (k + 1)) := by
            unfold Ints
            rw [hits_succ, ← unhide HP, if_pos hf]
            simpa [intVs] using hown'
          have HO3 := hide hown1
          have HB3 := hide hb1
          clear hown hown' hgrow hown1 hb1
          go_wp2_with fail
          go_roundw
          case rel => exact ⟨k + 1, by go_num, by omega, Or.inr (hide hB), unhide HO3, unhide HB3⟩
          case measure => simp [intOf]; omega
    · go_wp2_with fail
      go_ret
      refine ⟨⟨_, rfl, ?_⟩, (unhide E0 _ _).trans (hw.mono (by omega))⟩
      have hkl : k = packs.length := by omega
      have : hitsL q packs room = hitsTo q packs k := by
        rcases hok with h | h
        · simp only [hitsL, ← hkl, h]; simp [hitsTo]
        · rw [hitsL, if_pos h.out, hkl]
      rw [this]
      exact ownsRow_base hown (by omega)
end Go.Proofs.Ytahnfgkjmkiodaa
