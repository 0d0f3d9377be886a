/- Models and refutations compared by the laws; what a search answers is small. -/
import Derived.Test.YthkhaemlcmkkjarSatP
import Derived.Test.YthkhaemlcmkkjarFSat
import Derived.Test.YthkhaemlcmkkjarSuG
import Derived.Test.YthkhaemlcmkkjarGLd
namespace Go.Proofs.Ythkhaemlcmkkjar
set_option linter.unusedVariables false
set_option linter.unusedSimpArgs false
open Go.RowKit Go.Deep

theorem bools_of {B : Nat} {w : World} {v : Value} {m : List Bool} (h : w.ownsRow B 4 1 v m.length (bV m)) (hl : m.length ≤ 1048576) : ∃ a c, v = .slice a m.length c ∧ BoolsAt w a m := by
  rcases h.2 with ⟨hv, h0⟩ | ⟨g, cap, cur, hv, hB, hb, hnc, hcm, hsz, htk⟩
  · have : m = [] := List.length_eq_zero_iff.1 h0
    subst this
    exact ⟨none, 0, hv, by simp, .inl rfl⟩
  · refine ⟨_, cap, hv, hl, .inr ⟨g, 0, rfl, (Array.getElem?_eq_some_iff.1 hb).1, fun i hi => ?_⟩⟩
    subst hv
    rw [Nat.zero_add, h.cellAt i (by omega)]
    simp [bV, List.getD, hi]
theorem lists_of {B : Nat} {w : World} {v : Value} {p : List (List Int)} {vs : List Value} (h : LstI B w v p vs) (hl : p.length ≤ 1048576) (hr : ∀ c, c ∈ p → c.length ≤ 1048576) : ∃ a c, v = .slice a p.length c ∧ p.length ≤ c ∧ ListsAt w a p ∧ ClsAt w a p := by
  have hr' : ∀ i, i < p.length → (p.getD i []).length ≤ 1048576 := fun i hi => hr _ (getD_mem (d := ([] : List Int)) hi)
  obtain ⟨a, cap, hv, hc, _, _, hL⟩ := h.lists hl hr'
  refine ⟨a, cap, hv, hc, hL, hl, ?_⟩
  by_cases h0 : p.length = 0
  · exact .inl (List.length_eq_zero_iff.1 h0)
  · obtain ⟨g, c, hg, _, hgl, _⟩ := h.cell (i := 0) (by omega)
    rw [hv] at hg
    simp only [Value.slice.injEq, true_and] at hg
    obtain ⟨rfl, rfl⟩ := hg
    refine .inr ⟨g, 0, rfl, hgl, fun i hi => ?_⟩
    obtain ⟨g', c', hg', _, _, hc'⟩ := h.cell hi
    rw [hv] at hg'
    simp only [Value.slice.injEq, Option.some.injEq, Addr.mk.injEq, true_and, and_true] at hg'
    obtain ⟨rfl, _⟩ := hg'
    obtain ⟨a', c'', e, hs⟩ := RowI.set (h.row i hi) (hr' i hi)
    rw [Nat.zero_add, hc', e]
    exact ⟨a', c'', rfl, hs⟩

set_option maxHeartbeats 1000000 in
theorem ldBools_I (a a' : Option Addr) (l : List Bool) (c c' : Nat) (w : World) (h : BoolsAt w a l) (h' : BoolsAt w a' l) :
    Calls Try.prog 14 #[.slice a l.length c, .slice a' l.length c'] w fun e w' => e = .returned (.bool true) ∧ Below w.heap.size w w' := by
  obtain ⟨hm, h⟩ := h
  obtain ⟨_, h'⟩ := h'
  go_enter Try.func14, Try.ntmps14
  go_wp2
  go_loopw [5] (fun i wr => ∃ k : Nat, k ≤ l.length ∧ i = .int .i64 k ∧ Drawn w wr) (fun i _ => l.length - (intOf i).toNat)
  case atStart => exact ⟨0, Nat.zero_le _, rfl, Drawn.refl _⟩
  case round =>
    rename World => wo
    obtain ⟨k, hk, rfl, hw⟩ := hrel
    by_cases hlt : k < l.length
    · rcases h with h | ⟨b, o, rfl, _, h⟩
      · subst h; simp at hlt
      rcases h' with h' | ⟨b', o', rfl, _, h'⟩
      · subst h'; simp at hlt
      have c0 := h k hlt
      have d0 := h' k hlt
      clear h h'
      generalize l.getD k false = q at c0 d0
      rw [← hw.cell] at c0 d0
      have j0 : (0 : Int) ≤ (k : Int) := by omega
      have j1 : (k : Int) < (l.length : Int) := by omega
      go_wp2_with fail
      go_quiet (fail)
      go_wp2_with fail
      go_roundw
      case rel => exact ⟨k + 1, by omega, by go_num, hw.more _⟩
      case measure => simp [intOf]; omega
    · have j1 : ¬ (k : Int) < (l.length : Int) := by omega
      go_wp2_with fail
      go_ret
      exact ⟨rfl, hw.below _⟩
/-- All of a refutation are choices that are not so. -/
theorem find_rows {cs : List (List Int)} {vars most : Nat} (hok : cnfB (vars : Int) cs = true) : ∀ (k : Nat) (ch : List Int) (n : Nat), GoodC vars ch → ∀ c, c ∈ (findZ cs vars most k ch n).proof → litsB (vars : Int) c = true
  | 0, ch, n, hg, c, h => by unfold findZ at h; cases h
  | k + 1, ch, n, hg, c, h => by
    have hno : litsB (vars : Int) (noL ch) = true := by
      unfold litsB
      rw [Bool.and_eq_true, decide_eq_true_eq, List.all_eq_true]
      have h1 := hg.len
      have h2 := cnf_vars hok
      refine ⟨by simp [noL]; omega, fun x hx => ?_⟩
      obtain ⟨y, hy, rfl⟩ := List.mem_map.1 hx
      have h3 := hg.2 y hy
      simp [litB, inB]
      omega
    cases hc : confB cs ch with
    | true =>
      rw [find_conf hc] at h
      simp at h
      rw [h]
      exact hno
    | false =>
      by_cases h1 : vars < openV (upK cs ch) vars
      · rw [find_yes hc h1] at h; cases h
      · by_cases h2 : most ≤ n
        · rw [find_long hc h1 h2] at h; cases h
        · have hncf : ¬ Conf cs ch := fun h => by rw [confB_true h] at hc; cases hc
          have hf := up_full (cnf_nz hok) (fun x hx => (hg.2 x hx).1) hncf
          obtain ⟨v1, v2, v3, _⟩ := open_rng _ h1
          have g1 : GoodC vars (ch ++ [-((openV (upK cs ch) vars : Nat) : Int)]) := good_snoc hg hf.1 (by omega) v2 v3 (.inr rfl)
          have g2 : GoodC vars (ch ++ [((openV (upK cs ch) vars : Nat) : Int)]) := good_snoc hg hf.1 (by omega) v2 v3 (.inl rfl)
          rw [find_step hc rfl h1 h2 rfl] at h
          split at h
          · split at h
            · rcases List.mem_append.1 h with h | h
              · rcases List.mem_append.1 h with h | h
                · exact find_rows hok k _ _ g1 c h
                · exact find_rows hok k _ _ g2 c h
              · rw [List.mem_singleton] at h
                rw [h]
                exact hno
            · exact find_rows hok k _ _ g2 c h
          · exact find_rows hok k _ _ g1 c h
theorem satZ_find {vars most : Int} {cs : List (List Int)} (h : (cnfB vars cs && inB most 0 3000) = true) : satZ vars cs most = (findZ cs vars.toNat most.toNat 401 [] 0).fin := by
  unfold satZ
  rw [if_pos h, top_nil]
theorem satZ_bad {vars most : Int} {cs : List (List Int)} (h : (cnfB vars cs && inB most 0 3000) = false) : satZ vars cs most = (9, [], []) := by
  unfold satZ
  rw [if_neg (by rw [h]; decide)]
theorem sat_small {vars most : Int} {cs : List (List Int)} {k : Int} {m : List Bool} {p : List (List Int)} (h : satZ vars cs most = (k, m, p)) : m.length ≤ 400 ∧ p.length ≤ 6001 ∧ (∀ c, c ∈ p → c.length ≤ 400) ∧ (k ≠ 1 → m = []) ∧ (k ≠ 2 → p = []) ∧ (k = 1 ∨ k = 2 ∨ k = 3 ∨ k = 9) := by
  cases hb : (cnfB vars cs && inB most 0 3000) with
  | false =>
    rw [satZ_bad hb] at h
    simp only [Prod.mk.injEq] at h
    obtain ⟨rfl, rfl, rfl⟩ := h
    exact ⟨by simp, by simp, fun c hc => (by cases hc), fun _ => rfl, fun _ => rfl, .inr (.inr (.inr rfl))⟩
  | true =>
    rw [satZ_find hb] at h
    rw [Bool.and_eq_true] at hb
    obtain ⟨hok, hmo⟩ := hb
    obtain ⟨hv0, hv1⟩ := cnf_vars hok
    have hmr : 0 ≤ most ∧ most ≤ 3000 := by simpa [inB] using hmo
    have hok' : cnfB ((vars.toNat : Nat) : Int) cs = true := by rw [show ((vars.toNat : Nat) : Int) = vars by omega]; exact hok
    have h1 := model_len (cs := cs) (vars := vars.toNat) (most := most.toNat) 401 [] 0
    have h2 := find_code (cs := cs) (vars := vars.toNat) (most := most.toNat) 401 [] 0
    have h3 := find_len (cs := cs) (vars := vars.toNat) (most := most.toNat) 401 [] 0 (Nat.zero_le _)
    have h4 := find_proof (cs := cs) (vars := vars.toNat) (most := most.toNat) 401 [] 0
    have h5 := find_rows (cs := cs) (vars := vars.toNat) (most := most.toNat) hok' 401 [] 0 ⟨List.nodup_nil, fun x hx => by cases hx⟩
    generalize findZ cs vars.toNat most.toNat 401 [] 0 = R at h h1 h2 h3 h4 h5
    unfold FindR.fin at h
    simp only [Prod.mk.injEq] at h
    obtain ⟨rfl, rfl, rfl⟩ := h
    refine ⟨by have := h1.1; omega, ?_, fun c hc => ?_, h1.2, h4, by rcases h2 with h | h | h <;> simp [h]⟩
    · by_cases hc : R.code = 2
      · have := h3 hc; omega
      · rw [h4 hc]; simp
    · have := h5 c hc
      simp only [litsB, Bool.and_eq_true, decide_eq_true_eq] at this
      exact this.1
theorem sat_yes {vars most : Int} {cs : List (List Int)} {m : List Bool} {p : List (List Int)} (h : satZ vars cs most = (1, m, p)) : cnfTrueB vars cs m = true ∧ p = [] := by
  have hs := sat_small h
  cases hb : (cnfB vars cs && inB most 0 3000) with
  | false =>
    rw [satZ_bad hb] at h
    simp at h
  | true =>
    rw [satZ_find hb] at h
    rw [Bool.and_eq_true] at hb
    obtain ⟨hok, hmo⟩ := hb
    obtain ⟨hv0, hv1⟩ := cnf_vars hok
    have hok' : cnfB ((vars.toNat : Nat) : Int) cs = true := by rw [show ((vars.toNat : Nat) : Int) = vars by omega]; exact hok
    have he := find_ext (cs := cs) (vars := vars.toNat) (most := most.toNat) hok' 401 [] 0 (fun x hx => by cases hx)
    rw [show ((vars.toNat : Nat) : Int) = vars by omega] at he
    generalize findZ cs vars.toNat most.toNat 401 [] 0 = R at h he
    unfold FindR.fin at h
    simp only [Prod.mk.injEq] at h
    obtain ⟨h1, rfl, rfl⟩ := h
    exact ⟨(he h1).1, hs.2.2.2.2.1 (by decide)⟩
end Go.Proofs.Ythkhaemlcmkkjar
