/- Marks in rows of numbers: rows of bools stay. -/
import Derived.Test.YtgolmagpdbmahatRowsM
namespace Go.Proofs.Ytgolmagpdbmahat
set_option linter.unusedVariables false
set_option linter.unusedSimpArgs false
open Go.RowKit Go.Deep

set_option maxRecDepth 10000 in
set_option maxHeartbeats 2000000 in
theorem markIntSS_kept (B : Nat) (v : Value) (lss : List (List Int)) (vs : List Value) (k0 : Int) (w : World) (h : LstI B w v lss vs) (hB : B ≤ w.heap.size) (hl : lss.length ≤ 100000) (hr : ∀ l ∈ lss, l.length ≤ 1000) (hk0 : 0 ≤ k0) (hk1 : k0 ≤ 1000) :
    Calls Try.prog 18 #[v, .int .i64 k0] w fun e w' => e = .returned (.int .i64 (endK k0 lss)) ∧ Below B w w' ∧ LstI B w' v (markL k0 lss) vs ∧ ∀ (q : Nat) (C : Array Value), w.heap[q]? = some (.cells C 4 (0, 0)) → w'.heap[q]? = w.heap[q]? := by
  obtain ⟨a, cap, hv⟩ := h.slice
  have HH := hide h
  clear h
  subst hv
  go_enter Try.func18, Try.ntmps18
  go_wp2_with fail
  go_loopw [1, 5] (fun z i wr => ∃ k : Nat, k ≤ lss.length ∧ i = .int .i64 k ∧ z = .int .i64 (endK k0 (lss.take k)) ∧ Hid (Below B w wr) ∧ Hid (LstI B wr (.slice a lss.length cap) (partL k0 lss k) vs) ∧ Hid (∀ (q : Nat) (C : Array Value), w.heap[q]? = some (.cells C 4 (0, 0)) → wr.heap[q]? = w.heap[q]?)) (fun _ i _ => lss.length - (intOf i).toNat)
  case atStart => exact ⟨0, Nat.zero_le _, rfl, rfl, Below.refl _ _, by show LstI _ _ _ _ _; simpa [partL] using unhide HH, fun _ _ _ => rfl⟩
  case round =>
    rename World => wo
    obtain ⟨k, hk, rfl, rfl, HB, HL, HQ⟩ := hrel
    have hpl := partL_len k0 lss k hk
    by_cases hlt : k < lss.length
    · have j1 : (k : Int) < (lss.length : Int) := by omega
      obtain ⟨g, c1, hg, hBg, hgl, c0⟩ := (unhide HL).cell (i := k) (by omega)
      simp at hg
      obtain ⟨rfl, hgx, rfl⟩ := hg
      clear hgx
      have hrow := (unhide HL).row k (by omega)
      rw [partL_ge hk (Nat.le_refl _)] at hrow
      have hbd := endK_bound k0 (lss.take k) hk0 (fun l hl => hr l (List.mem_of_mem_take hl))
      have htl : (lss.take k).length = k := by simp; omega
      rw [htl] at hbd
      have hrl := hr (lss.getD k []) (getD_mem hlt)
      have hend : endK k0 (lss.take (k + 1)) = endK k0 (lss.take k) + (lss.getD k []).length := by
        rw [List.take_succ_eq_append_getElem hlt, endK_snoc]
        simp [List.getD, hlt]
      have hmk := markL_getD k0 lss k hlt
      obtain ⟨ra, rc, hrv, _⟩ := RowI.set hrow (by omega)
      have HLT := hide (fun j hj => (hrow.lt j hj))
      have HC := hide (markIntS_k (endK k0 (lss.take k)) B _ (lss.getD k []) wo hrow (by omega) (by omega) (by omega))
      have HEND := hide hend
      have HMK := hide hmk
      rw [hrv] at c0 HC
      have HRV := hide hrv
      generalize hz : endK k0 (lss.take k) = z at HC HEND HMK hbd ⊢
      generalize hn : (lss.getD k []).length = n at HC HEND HMK c0 hrl
      have HPL := hide hpl
      have HNN := hide hn
      clear hrow hrv hend hmk hz htl hbd hrl hpl hn
      go_wp2_with (first
        | (go_at_call 28; refine (unhide HC).mono ?_; rintro e w2 ⟨rfl, hg2, hr2⟩; have HG2 := hide hg2; have HR2 := hide hr2; clear hg2 hr2))
      go_roundw
      case rel =>
        have hL := unhide HL
        have hg2 := unhide HG2
        have hpl := unhide HPL
        have hrv2 := unhide HRV
        rw [unhide HNN] at hrv2
        rw [← hrv2] at hg2
        have hpl2 := partL_len k0 lss (k + 1) (by omega)
        refine ⟨k + 1, by omega, by go_num, by rw [unhide HEND], ⟨hg2.os.trans (unhide HB).os, hg2.tape.trans (unhide HB).tape, hg2.output.trans (unhide HB).output, Nat.le_trans (unhide HB).size hg2.size, fun b hb => ?_⟩, ⟨?_, ?_, fun i hi => ?_, fun i j hij hj => ?_⟩, fun q C hq => ?_⟩
        · rw [hg2.block b (by have := (unhide HB).size; omega) (fun e => by have := (unhide HLT b e.symm).1; omega)]
          exact (unhide HB).block b hb
        · rw [hpl2, ← hpl]; exact hL.len
        · rw [hpl2]
          have hown := hL.own
          rw [hpl] at hown
          refine hown.kept hg2 (Or.inr fun e => ?_)
          have hrow := hL.row k (by omega)
          obtain ⟨c, f, e1⟩ := row_kind hL.own g rfl
          obtain ⟨c', f', e2⟩ := row_kind hrow g e.symm
          rw [e1] at e2
          simp at e2
        · rw [hpl2] at hi
          by_cases e : i = k
          · subst e
            rw [partL_lt (by omega) (by omega), unhide HMK]
            have := unhide HR2
            rw [← hrv2] at this
            exact this
          · have e2 : (partL k0 lss (k + 1)).getD i [] = (partL k0 lss k).getD i [] := by
              by_cases h1 : i < k
              · rw [partL_lt (by omega) (by omega), partL_lt hk h1]
              · rw [partL_ge (by omega) (by omega), partL_ge hk (by omega)]
            rw [e2]
            refine (hL.row i (by omega)).kept hg2 ?_
            rcases Nat.lt_or_ge i k with h1 | h1
            · exact hL.apart i k h1 (by omega)
            · rcases hL.apart k i (by omega) (by omega) with h2 | h2
              · rw [h2]
                cases (vs.getD i undef).ownBlock
                · exact Or.inl rfl
                · exact Or.inr (by simp)
              · exact Or.inr fun e3 => h2 e3.symm
        · exact hL.apart i j hij (by omega)
        · have h1 := unhide HQ q C hq
          have h2 : wo.heap[q]? = some (.cells C 4 (0, 0)) := h1.trans hq
          rw [hg2.block q (Array.getElem?_eq_some_iff.1 h2).1 (fun e => ?_)]
          · exact h1
          · obtain ⟨c', f', e2⟩ := row_kind (hL.row k (by omega)) q e.symm
            rw [h2] at e2
            simp at e2
      case measure => simp [intOf]; omega
    · have j1 : ¬ (k : Int) < (lss.length : Int) := by omega
      have hke : k = lss.length := by omega
      subst hke
      rw [List.take_length]
      go_wp2_with fail
      go_ret
      refine ⟨rfl, unhide HB, ?_, unhide HQ⟩
      have e : partL k0 lss lss.length = markL k0 lss := by
        unfold partL
        rw [List.drop_length, List.append_nil, List.take_of_length_le (by rw [markL_len]; exact Nat.le_refl _)]
      rw [← e]
      exact unhide HL
end Go.Proofs.Ytgolmagpdbmahat
