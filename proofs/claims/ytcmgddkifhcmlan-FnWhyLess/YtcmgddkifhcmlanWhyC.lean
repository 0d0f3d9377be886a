/- The program's WhyNot; the laws' look whether two lists of faults are the same. -/
import Derived.Test.YtcmgddkifhcmlanWhyB
import Derived.Test.YtcmgddkifhcmlanGForm
import Derived.Test.YtcmgddkifhcmlanGPd
import Derived.Test.YtcmgddkifhcmlanGStL
import Derived.Deep.QuietTactic
namespace Go.Proofs.Ytcmgddkifhcmlan
set_option linter.unusedVariables false
set_option linter.unusedSimpArgs false
open Go.RowKit Go.Deep

theorem WR.at {B : Nat} {w : World} {v : Value} {ss : List StepD} (h : WR B w v ss) (hl : ss.length ≤ 1048576) : ∃ a cap, v = .slice a ss.length cap ∧ StepsAt w a ss := by
  rcases h.2 with ⟨hv, h0⟩ | ⟨g, cap, cur, hv, hB, hc, hcap, hcm, hsz, hx⟩
  · exact ⟨none, 0, by rw [hv, h0], hl, Or.inl (List.length_eq_zero_iff.1 h0)⟩
  · refine ⟨_, cap, hv, hl, Or.inr ⟨g, 0, rfl, (Array.getElem?_eq_some_iff.1 hc).1, fun i hi => ?_⟩⟩
    have key : ∀ j, j < 3 → w.cell? ⟨g, 0 + i * 3 + j, none⟩ = [Value.int .i64 (ss.getD i dStep).kind, .int .i64 (ss.getD i dStep).inn, .int .i64 (ss.getD i dStep).out][j]? := fun j hj => by
      rw [cell_of_row w g _ cur _ _ hc, Nat.zero_add, ← stepVs_at ss i j hi hj, ← hx, List.getElem?_take, if_pos (by omega)]
      simp
    exact ⟨key 0 (by omega), key 1 (by omega), key 2 (by omega)⟩
set_option maxRecDepth 100000 in
set_option maxHeartbeats 2000000 in
theorem ldWhys_same (a : Option Addr) (ss : List StepD) (c : Nat) (a2 : Option Addr) (c2 : Nat) (w : World) (h : StepsAt w a ss) (h2 : StepsAt w a2 ss) :
    Calls Try.prog 10 #[.slice a ss.length c, .slice a2 ss.length c2] w fun e w' => e = .returned (.bool true) ∧ Below w.heap.size w w' := by
  obtain ⟨hl, h⟩ := h
  obtain ⟨_, h2⟩ := h2
  go_enter Try.func10, Try.ntmps10
  go_wp2_with fail
  go_loopw [5] (fun i wr => ∃ k : Nat, k ≤ ss.length ∧ i = .int .i64 k ∧ Drawn w wr) (fun i _ => ss.length - (intOf i).toNat)
  case atStart => exact ⟨0, Nat.zero_le _, rfl, Drawn.refl _⟩
  case round =>
    rename World => wo
    obtain ⟨k, hk, rfl, hw⟩ := hrel
    by_cases hlt : k < ss.length
    · have j1 : (k : Int) < (ss.length : Int) := by omega
      have j0 : (0 : Int) ≤ (k : Int) := by omega
      rcases h with hnil | ⟨b, o, rfl, hbl, hrk⟩
      · rw [hnil] at hlt; simp at hlt
      rcases h2 with hnil | ⟨b2, o2, rfl, hbl2, hrk2⟩
      · rw [hnil] at hlt; simp at hlt
      obtain ⟨c0, c1, c2⟩ := hrk k hlt
      obtain ⟨d0, d1, d2⟩ := hrk2 k hlt
      generalize ss.getD k dStep = s at c0 c1 c2 d0 d1 d2
      rw [← hw.cell] at c0 c1 c2 d0 d1 d2
      clear hrk hrk2
      go_wp2_with fail
      go_quiet (fail)
      go_wp2_with fail
      go_roundw
      case rel => exact ⟨k + 1, by omega, by go_num, hw.more _⟩
      case measure => simp [intOf]; omega
    · have j1 : ¬ (k : Int) < (ss.length : Int) := by omega
      go_wp2_with fail
      go_ret
      exact ⟨rfl, hw.below _⟩
theorem row_le {B : Nat} {w : World} {a : Option Addr} {c : Nat} {l : List Int} (h : RowI B w (.slice a l.length c) l) : l.length ≤ c := by
  rcases h.2 with ⟨hv, h0⟩ | ⟨g, cap, cur, hv, hB, hc, hcap, _⟩
  · omega
  · simp at hv
    omega
theorem why_room {l : List PackD} {room : Int} {set : List Int} (h : formB l room set = true) : 0 ≤ room ∧ room ≤ 999 := by
  unfold formB repoB inB at h
  simp only [Bool.and_eq_true, decide_eq_true_eq] at h
  exact h.2.1.1.2
set_option maxRecDepth 100000 in
set_option maxHeartbeats 2000000 in
theorem implWhyNot_any (a : Option Addr) (l : List PackD) (cap : Nat) (room : Int) (sa : Option Addr) (set : List Int) (sc : Nat) (w : World) (h : PacksAt (Old w) w a l) (hs : SetAt w sa set) :
    Calls Try.prog 9 #[.agg #[.slice a l.length cap, .int .i64 room], .slice sa set.length sc] w fun e w' => (∃ v, e = .returned v ∧ WR w.heap.size w' v (whyZ l room set)) ∧ Below w.heap.size w w' := by
  have bA := (Below.refl w.heap.size w).alloc (Nat.le_refl _) (.cells #[.slice a l.length cap, .int .i64 room] 25)
  have HC := hide (inForm_any a l cap room sa set sc _ (h.on bA) (hs.on bA))
  clear h hs
  go_enter Try.func9, Try.ntmps9
  go_wp2_with fail
  refine (unhide HC).mono ?_
  rintro e w1 ⟨hf, hb1⟩
  have HB1 := hide (bA.trans (hb1.mono (by simp)))
  have z1 := (unhide HB1).size
  clear HC hb1 bA
  unfold FormOut at hf
  cases hfm : formB l room set with
  | false =>
    rw [hfm] at hf
    simp at hf
    subst hf
    have HE := hide (show whyZ l room set = [] by unfold whyZ; rw [hfm]; rfl)
    clear hfm
    unfold emptyStock
    go_wp2_with fail
    go_ret
    exact ⟨⟨_, rfl, by rw [unhide HE]; exact WR.nil _ _⟩, (unhide HB1).alloc z1 _⟩
  | true =>
    rw [hfm] at hf
    simp at hf
    obtain ⟨V, rfl, hst⟩ := hf
    have HE := hide (show whyZ l room set = faultsL l room (setBits set) by unfold whyZ; rw [hfm]; rfl)
    have hsm := setBits_small hfm
    have hpl : ∀ p ∈ placesTo (setBits set) 8, p < l.length := by rw [set_places hfm]; exact set_lt hfm
    have HFA := hide (fun (o : Obj) => faults_any l room V (setBits set) hsm hpl (form_ok hfm) (why_room hfm) (w1.alloc o) (hst.on ((Below.refl _ _).alloc (Nat.le_refl _) _)))
    obtain ⟨a', cap', bm, v, rfl, hP, ⟨xa, xc, rfl⟩, hA⟩ := hst
    clear hfm hP hA hpl hsm
    generalize setBits set = bits at HFA HE
    go_wp2_with fail
    refine (unhide HFA _).mono ?_
    rintro e w2 ⟨⟨v, rfl, hr⟩, b2⟩
    obtain ⟨qa, qn, qc, hq⟩ : ∃ qa qn qc, v = .slice qa qn qc := by
      rcases hr.slice with ⟨hv, _⟩ | ⟨g, cap, hv, _⟩
      · exact ⟨_, _, _, hv⟩
      · exact ⟨_, _, _, hv⟩
    subst hq
    have HR := hide (show WR w.heap.size w2 _ (whyZ l room set) by rw [unhide HE]; exact row_base hr (by simp; omega))
    have HB2 := hide (((unhide HB1).alloc z1 _).trans (b2.mono (by simp; omega)))
    clear hr b2 HFA HB1
    go_wp2_with fail
    go_ret
    exact ⟨⟨_, rfl, unhide HR⟩, unhide HB2⟩
end Go.Proofs.Ytcmgddkifhcmlan
