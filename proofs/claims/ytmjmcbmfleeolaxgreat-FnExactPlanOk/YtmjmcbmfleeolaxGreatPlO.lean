/- PlanOk of both sides. -/
import Derived.Test.YtmjmcbmfleeolaxGreatImP
import Derived.Test.YtmjmcbmfleeolaxGreatSpQ
import Derived.Deep.QuietTactic
namespace Go.Proofs.YtmjmcbmfleeolaxGreat
set_option linter.unusedVariables false
set_option linter.unusedSimpArgs false
open Go.RowKit Go.Deep

theorem ints_same {l m : List Int} (h : l.length = m.length) (ha : ∀ i, i < l.length → l.getD i 0 = m.getD i 0) : l = m := by
  apply List.ext_getElem h
  intro i h1 h2
  have := ha i h1
  simpa [List.getD, h1, h2] using this
set_option maxHeartbeats 1000000 in
theorem l4Same_any (a : Option Addr) (l : List Int) (c : Nat) (a' : Option Addr) (m : List Int) (c' : Nat) (w : World) (h : SetAt w a l) (h' : SetAt w a' m) :
    Calls Tryz.prog 46 #[.slice a l.length c, .slice a' m.length c'] w fun e w' => e = .returned (.bool (decide (l = m))) ∧ Below w.heap.size w w' := by
  obtain ⟨hl, h⟩ := h
  obtain ⟨hm, h'⟩ := h'
  go_enter Tryz.func46, Tryz.ntmps46
  by_cases hlen : l.length = m.length
  · have hb : ((l.length : Int) != (m.length : Int)) = false := by simp; omega
    have HL := hide hlen
    clear hlen
    go_wp2_with fail
    go_loopw [5] (fun i wr => ∃ k : Nat, k ≤ l.length ∧ i = .int .i64 k ∧ Hid (∀ i, i < k → l.getD i 0 = m.getD i 0) ∧ Drawn w wr) (fun i _ => l.length - (intOf i).toNat)
    case atStart => exact ⟨0, Nat.zero_le _, rfl, fun i hi => by omega, Drawn.refl _⟩
    case round =>
      rename World => wo
      obtain ⟨k, hk, rfl, HE, hw⟩ := hrel
      by_cases hlt : k < l.length
      · have hltm : k < m.length := by have := unhide HL; omega
        rcases h with h | ⟨b, o, rfl, _, h⟩
        · subst h; simp at hlt
        rcases h' with h' | ⟨b', o', rfl, _, h'⟩
        · subst h'; simp at hltm
        have c0 := h k hlt
        have d0 := h' k hltm
        have hres : l.getD k 0 ≠ m.getD k 0 → decide (l = m) = false := fun hne => by
          rw [decide_eq_false_iff_not]
          intro e
          rw [e] at hne
          exact hne rfl
        have hgo : l.getD k 0 = m.getD k 0 → ∀ i, i < k + 1 → l.getD i 0 = m.getD i 0 := fun he i hi => by
          rcases Nat.lt_or_ge i k with h1 | h1
          · exact unhide HE i h1
          · have : i = k := by omega
            rw [this]; exact he
        generalize l.getD k 0 = x at c0 hres hgo
        generalize m.getD k 0 = y at d0 hres hgo
        have HRES := hide hres
        have HGO := hide hgo
        rw [← hw.cell] at c0 d0
        have j0 : (0 : Int) ≤ (k : Int) := by omega
        have j1 : (k : Int) < (l.length : Int) := by omega
        have j2 : (k : Int) < (m.length : Int) := by omega
        clear h h' hres hgo
        by_cases hxy : x = y
        · have hxb : (x != y) = false := by simp [hxy]
          have HN := hide (unhide HGO hxy)
          clear HRES HGO hxy
          go_wp2_with fail
          go_quiet (fail)
          go_wp2_with fail
          go_roundw
          case rel => exact ⟨k + 1, by omega, by go_num, HN, hw.more _⟩
          case measure => simp [intOf]; omega
        · have hxb : (x != y) = true := by simp [hxy]
          have HN := hide (unhide HRES hxy)
          clear HRES HGO hxy
          go_wp2_with fail
          go_quiet (fail)
          go_wp2_with fail
          go_ret
          exact ⟨ret_bool (unhide HN).symm, (hw.more _).below _⟩
      · have HN := hide (show decide (l = m) = true by
          rw [decide_eq_true_eq]
          exact ints_same (unhide HL) fun i hi => unhide HE i (by omega))
        have j1 : ¬ (k : Int) < (l.length : Int) := by omega
        go_wp2_with fail
        go_ret
        exact ⟨ret_bool (unhide HN).symm, hw.below _⟩
  · have hb : ((l.length : Int) != (m.length : Int)) = true := by simp; omega
    have HN := hide (show decide (l = m) = false by
      rw [decide_eq_false_iff_not]
      intro e
      exact hlen (by rw [e]))
    clear hlen
    go_wp2_with fail
    go_ret
    exact ⟨ret_bool (unhide HN).symm, Below.refl _ _⟩
set_option maxHeartbeats 1000000 in
theorem slicesEqual_any (a : Option Addr) (l : List Int) (c : Nat) (a' : Option Addr) (m : List Int) (c' : Nat) (w : World) (h : SetAt w a l) (h' : SetAt w a' m) :
    Calls Tryz.prog 47 #[.slice a l.length c, .slice a' m.length c'] w fun e w' => e = .returned (.bool (decide (l = m))) ∧ Below w.heap.size w w' := by
  obtain ⟨hl, h⟩ := h
  obtain ⟨hm, h'⟩ := h'
  go_enter Tryz.func47, Tryz.ntmps47
  by_cases hlen : l.length = m.length
  · have hb : ((l.length : Int) != (m.length : Int)) = false := by simp; omega
    have HL := hide hlen
    clear hlen
    go_wp2_with fail
    go_loopw [13] (fun i wr => ∃ k : Nat, k ≤ l.length ∧ i = .int .i64 k ∧ Hid (∀ i, i < k → l.getD i 0 = m.getD i 0) ∧ Drawn w wr) (fun i _ => l.length - (intOf i).toNat)
    case atStart => exact ⟨0, Nat.zero_le _, rfl, fun i hi => by omega, Drawn.refl _⟩
    case round =>
      rename World => wo
      obtain ⟨k, hk, rfl, HE, hw⟩ := hrel
      by_cases hlt : k < l.length
      · have hltm : k < m.length := by have := unhide HL; omega
        rcases h with h | ⟨b, o, rfl, _, h⟩
        · subst h; simp at hlt
        rcases h' with h' | ⟨b', o', rfl, _, h'⟩
        · subst h'; simp at hltm
        have c0 := h k hlt
        have d0 := h' k hltm
        have hres : l.getD k 0 ≠ m.getD k 0 → decide (l = m) = false := fun hne => by
          rw [decide_eq_false_iff_not]
          intro e
          rw [e] at hne
          exact hne rfl
        have hgo : l.getD k 0 = m.getD k 0 → ∀ i, i < k + 1 → l.getD i 0 = m.getD i 0 := fun he i hi => by
          rcases Nat.lt_or_ge i k with h1 | h1
          · exact unhide HE i h1
          · have : i = k := by omega
            rw [this]; exact he
        generalize l.getD k 0 = x at c0 hres hgo
        generalize m.getD k 0 = y at d0 hres hgo
        have HRES := hide hres
        have HGO := hide hgo
        rw [← hw.cell] at c0 d0
        have j0 : (0 : Int) ≤ (k : Int) := by omega
        have j1 : (k : Int) < (l.length : Int) := by omega
        have j2 : (k : Int) < (m.length : Int) := by omega
        clear h h' hres hgo
        by_cases hxy : x = y
        · have hxb : (x != y) = false := by simp [hxy]
          have HN := hide (unhide HGO hxy)
          clear HRES HGO hxy
          go_wp2_with fail
          go_quiet (fail)
          go_wp2_with fail
          go_roundw
          case rel => exact ⟨k + 1, by omega, by go_num, HN, hw.more _⟩
          case measure => simp [intOf]; omega
        · have hxb : (x != y) = true := by simp [hxy]
          have HN := hide (unhide HRES hxy)
          clear HRES HGO hxy
          go_wp2_with fail
          go_quiet (fail)
          go_wp2_with fail
          go_ret
          exact ⟨ret_bool (unhide HN).symm, (hw.more _).below _⟩
      · have HN := hide (show decide (l = m) = true by
          rw [decide_eq_true_eq]
          exact ints_same (unhide HL) fun i hi => unhide HE i (by omega))
        have j1 : ¬ (k : Int) < (l.length : Int) := by omega
        go_wp2_with fail
        go_ret
        exact ⟨ret_bool (unhide HN).symm, hw.below _⟩
  · have hb : ((l.length : Int) != (m.length : Int)) = true := by simp; omega
    have HN := hide (show decide (l = m) = false by
      rw [decide_eq_false_iff_not]
      intro e
      exact hlen (by rw [e]))
    clear hlen
    go_wp2_with fail
    go_ret
    exact ⟨ret_bool (unhide HN).symm, Below.refl _ _⟩
/-- What PlanOk answers. -/
def planOkZ (l : List PackD) (room : Int) (set too : List Int) (ss : List StepD) : Bool := match planZ l room set ss with
  | none => false
  | some t => decide (t = too)
theorem planZ_len {l : List PackD} {room : Int} {set : List Int} {ss : List StepD} : ((planZ l room set ss).getD []).length ≤ 8 := by
  unfold planZ
  split
  · rename_i hc
    rw [Bool.and_eq_true] at hc
    cases hi : planDo l room set ss with
    | none => simp
    | some t => simpa using ok_len8 (plan_ok hc.1 hi)
  · simp

set_option maxRecDepth 100000 in
set_option maxHeartbeats 2000000 in
theorem specPlanOk_any (a : Option Addr) (l : List PackD) (cap : Nat) (room : Int) (sa : Option Addr) (set : List Int) (sc : Nat) (ta : Option Addr) (too : List Int) (tc : Nat) (qa : Option Addr) (ss : List StepD) (qc : Nat) (w : World) (h : PacksAt (Old w) w a l) (hca : CapsAt w a l) (hs : SetAt w sa set) (hsc : sa = none → sc = 0) (ht : SetAt w ta too) (hq : StepsAt w qa ss) :
    Calls Tryz.prog 24 #[.agg #[.slice a l.length cap, .int .i64 room], .slice sa set.length sc, .slice ta too.length tc, .slice qa ss.length qc] w fun e w' => e = .returned (.bool (planOkZ l room set too ss)) ∧ Below w.heap.size w w' := by
  have b1 := (Below.refl w.heap.size w).alloc (Nat.le_refl _) (.cells #[.slice a l.length cap, .int .i64 room] 33)
  have HC := hide (specPlanDo_any a l cap room sa set sc qa ss qc _ (h.on b1) (hca.on b1) (hs.on b1) hsc (hq.on b1))
  have HT := hide (ht.on b1)
  have hl8 := planZ_len (l := l) (room := room) (set := set) (ss := ss)
  have HE : Hid (planOkZ l room set too ss = match planZ l room set ss with
    | none => false
    | some t => decide (t = too)) := rfl
  clear h hs hq ht hca
  generalize planZ l room set ss = od at HC HE hl8
  go_enter Tryz.func24, Tryz.ntmps24
  go_wp2_with fail
  refine (unhide HC).mono ?_
  rintro e w2 ⟨⟨v, rfl, hr⟩, b2⟩
  obtain ⟨va, vc, hv, hset⟩ := RowI.set hr (by omega)
  subst hv
  have HB2 := hide (b1.trans (b2.mono (by simp)))
  have HV := hide hset
  have HT2 := hide ((unhide HT).on b2)
  clear HC HT b1 b2 hr hset
  cases od with
  | none =>
    have HE2 := hide (show planOkZ l room set too ss = false from unhide HE)
    simp only [Option.isSome_none]
    clear HE
    go_wp2_with fail
    go_ret
    exact ⟨ret_bool (unhide HE2).symm, unhide HB2⟩
  | some t =>
    have HE2 := hide (show planOkZ l room set too ss = decide (t = too) from unhide HE)
    simp only [Option.isSome_some, Option.getD_some] at HV ⊢
    clear HE
    go_wp2_with fail
    refine (l4Same_any va t vc ta too tc w2 (unhide HV) (unhide HT2)).mono ?_
    rintro e w3 ⟨rfl, b3⟩
    have HB3 := hide ((unhide HB2).trans (b3.mono (unhide HB2).size))
    generalize hbb : decide (t = too) = bb
    have HBB := hide (show bb = planOkZ l room set too ss by rw [unhide HE2, hbb])
    clear HB2 b3 HE2 hbb
    go_wp2_with fail
    go_ret
    exact ⟨by first | exact ret_bool (unhide HBB) | (simp; exact unhide HBB), unhide HB3⟩

set_option maxRecDepth 100000 in
set_option maxHeartbeats 2000000 in
theorem implPlanOk_any (a : Option Addr) (l : List PackD) (cap : Nat) (room : Int) (sa : Option Addr) (set : List Int) (sc : Nat) (ta : Option Addr) (too : List Int) (tc : Nat) (qa : Option Addr) (ss : List StepD) (qc : Nat) (w : World) (h : PacksAt (Old w) w a l) (hs : SetAt w sa set) (ht : SetAt w ta too) (hq : StepsAt w qa ss) :
    Calls Tryz.prog 25 #[.agg #[.slice a l.length cap, .int .i64 room], .slice sa set.length sc, .slice ta too.length tc, .slice qa ss.length qc] w fun e w' => e = .returned (.bool (planOkZ l room set too ss)) ∧ Below w.heap.size w w' := by
  have b1 := (Below.refl w.heap.size w).alloc (Nat.le_refl _) (.cells #[.slice a l.length cap, .int .i64 room] 33)
  have HC := hide (implPlanDo_any a l cap room sa set sc qa ss qc _ (h.on b1) (hs.on b1) (hq.on b1))
  have HT := hide (ht.on b1)
  have hl8 := planZ_len (l := l) (room := room) (set := set) (ss := ss)
  have HE : Hid (planOkZ l room set too ss = match planZ l room set ss with
    | none => false
    | some t => decide (t = too)) := rfl
  clear h hs hq ht
  generalize planZ l room set ss = od at HC HE hl8
  go_enter Tryz.func25, Tryz.ntmps25
  go_wp2_with fail
  refine (unhide HC).mono ?_
  rintro e w2 ⟨⟨v, rfl, hr⟩, b2⟩
  obtain ⟨va, vc, hv, hset⟩ := RowI.set hr (by omega)
  subst hv
  have HB2 := hide (b1.trans (b2.mono (by simp)))
  have HV := hide hset
  have HT2 := hide ((unhide HT).on b2)
  clear HC HT b1 b2 hr hset
  cases od with
  | none =>
    have HE2 := hide (show planOkZ l room set too ss = false from unhide HE)
    simp only [Option.isSome_none]
    clear HE
    go_wp2_with fail
    go_ret
    exact ⟨ret_bool (unhide HE2).symm, unhide HB2⟩
  | some t =>
    have HE2 := hide (show planOkZ l room set too ss = decide (t = too) from unhide HE)
    simp only [Option.isSome_some, Option.getD_some] at HV ⊢
    clear HE
    go_wp2_with fail
    refine (slicesEqual_any va t vc ta too tc w2 (unhide HV) (unhide HT2)).mono ?_
    rintro e w3 ⟨rfl, b3⟩
    have HB3 := hide ((unhide HB2).trans (b3.mono (unhide HB2).size))
    generalize hbb : decide (t = too) = bb
    have HBB := hide (show bb = planOkZ l room set too ss by rw [unhide HE2, hbb])
    clear HB2 b3 HE2 hbb
    go_wp2_with fail
    go_ret
    exact ⟨by first | exact ret_bool (unhide HBB) | (simp; exact unhide HBB), unhide HB3⟩
end Go.Proofs.YtmjmcbmfleeolaxGreat
