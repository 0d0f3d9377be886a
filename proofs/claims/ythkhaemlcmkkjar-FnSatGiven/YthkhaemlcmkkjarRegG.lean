/- As RegF, where what an operation leaves may lapse by those behind it. -/
import Derived.Test.YthkhaemlcmkkjarGDcn
namespace Go.Proofs.Ythkhaemlcmkkjar
set_option linter.unusedVariables false
set_option linter.unusedSimpArgs false

variable {P : Program} {ops : Array Oper} {Q : Exit → Act → World → Prop}

theorem wp_region_headL {id : Nat} (m : Nat) {a0 : Act} {w0 : World} (hm : P.follows .mixedOrders = true) (hp : bareB ops = true) (hpg : plainN ops = true) (hs : slotsB ops a0.tmps.size = true) (ht : tailB ops m = true)
    (T : (Nat → Bool) → Nat → Value → World → Prop) (C : (Nat → Bool) → World → Prop) (hC : C (fun _ => false) w0.drew)
    (hop : ∀ (i : Nat) (o : Oper), i < m → ops[i]? = some o → ∀ (a : Act) (w : World) (L : Nat → Bool), L i = false → Agree ops a0 a → C L w → (∀ e ∈ o.after, Region.binds .any e = true → T L e.on (valOf ops a e.on) w) →
      o.wp P a w (fun a' w' => ∃ v, a' = a.put o.dst v ∧ T (doneOne L i) i (o.dst.elim undef fun _ => v) w' ∧ C (doneOne L i) w' ∧ ∀ j v, j < m → L j = true → T L j v w → T (doneOne L i) j v w') Q)
    (hend : ∀ a w, Agree ops a0 a → (∃ L, (∀ i, i < m → L i = true) ∧ (∀ i, i < m → T L i (valOf ops a i) w) ∧ C L w) → wpList P ops Q (ops.toList.drop m) a w) : (Code.region id ops true).wp P Q a0 w0 := by
  simp only [tailB, Bool.and_eq_true, decide_eq_true_eq] at ht
  obtain ⟨⟨⟨hn, hsink⟩, hchain⟩, hseq⟩ := ht
  have head : ∀ (f : Nat) (listed : Array Bool) (a : Act) (w : World), leftOver m listed = f → f ≤ m → HeadInv .any ops m listed → Agree ops a0 a → C (fun j => listed.getD j false) w → (∀ i, i < m → listed.getD i false = true → T (fun j => listed.getD j false) i (valOf ops a i) w) → wpAny P .any ops Q (f + (ops.size - m)) listed a w := by
    intro f
    induction f with
    | zero =>
      intro listed a w hf _ inv ha hCw hT
      have hall : ∀ i, i < m → listed.getD i false = true := fun i hi => by
        have h0 := List.countP_eq_zero.1 hf i (List.mem_range.2 hi)
        have hil : i < listed.size := by rw [inv.size]; omega
        simp [hil] at h0 ⊢
        exact h0
      have hl : listed = headL ops.size m := by
        apply Array.ext_getElem?
        intro i
        by_cases hi : i < ops.size
        · have hil : i < listed.size := by rw [inv.size]; exact hi
          by_cases hin : i < m
          · have := hall i hin
            simp [hil] at this
            simp [headL, hi, hil, this, hin]
          · have := inv.tail i (by omega) hi
            simp [hil] at this
            simp [headL, hi, hil, this, hin]
        · rw [Array.getElem?_eq_none (by rw [inv.size]; omega), Array.getElem?_eq_none (by simp [headL]; omega)]
      have h := hend a w ha ⟨_, hall, fun i hi => hT i hi (hall i hi), hCw⟩
      rw [hl]
      have hdl : (ops.toList.drop m).length = ops.size - m := by simp
      have := wpAny_of_seq (P := P) (ops := ops) (md := .any) (Q' := Q) (ops.toList.drop m) m (headL ops.size m) a w (fun j => by simp [List.getElem?_drop]) (by rw [hdl]; exact hseq) h
      rw [hdl] at this
      simpa using this
    | succ f ih =>
      intro listed a w hf hfm inv ha hCw hT
      obtain ⟨y, hu, hun⟩ : ∃ y, y < m ∧ listed.getD y true = false := by
        have : 0 < leftOver m listed := by omega
        obtain ⟨y, hu, h⟩ := List.countP_pos_iff.1 this
        exact ⟨y, List.mem_range.1 hu, by simpa using h⟩
      rw [show f + 1 + (ops.size - m) = (f + (ops.size - m)) + 1 by omega]
      refine ⟨fun hr => ?_, fun i hi => ?_⟩
      · exfalso
        have := allN_listed hpg hr inv.size y (by omega)
        rw [getD_both hun] at this
        cases this
      · have hin1 : i < m := by
          rcases Nat.lt_or_ge i m with h | h
          · exact h
          · exact absurd hi (tail_waits hsink hchain hn inv _ y rfl hu hun i h)
        obtain ⟨hiun, o, ho, hdeps⟩ := mem_ready.1 hi
        have hdep : ∀ e ∈ o.after, Region.binds .any e = true → T (fun j => listed.getD j false) e.on (valOf ops a e.on) w := fun e hee hb => hT e.on (Nat.lt_trans ((plainN_at hpg ho).1 e hee hb) hin1) (hdeps e hee hb)
        have hif : listed.getD i false = false := by
          rw [Array.getD_eq_getD_getElem?] at hiun ⊢
          cases hli : listed[i]? with
          | none => rfl
          | some b => rw [hli] at hiun; simpa using hiun
        have hw := hop i o hin1 ho a w (fun j => listed.getD j false) hif ha hCw hdep
        unfold wpOp
        simp only [ho]
        rw [if_pos (by simp [Region.wanted, bare_at hp ho])]
        refine Or.inl (Oper.wp_mono ?_ hw)
        rintro a' w' ⟨v, rfl, hv, hc', hE'⟩
        have e : (fun j => (listed.setIfInBounds i true).getD j false) = doneOne (fun j => listed.getD j false) i := by
          funext j
          by_cases e : j = i
          · subst e
            have : j < listed.size := by rw [inv.size]; omega
            simp [doneOne, this]
          · simp only [doneOne]
            rw [getD_set_ne false (Ne.symm e)]
            simp [e]
        refine ih _ _ _ (by have := left_step' hi hin1; omega) (by omega) (inv.set hi hin1) (ha.put ho v) (by rw [e]; exact hc') ?_
        rw [e]
        intro j hj hjl
        by_cases e : j = i
        · subst e
          rw [valOf_put_same ho (fun d hd => by rw [ha.size]; exact slots_at hs (i := j) (by simp [slotOf, ho, hd]))]
          exact hv
        · rw [valOf_put_otherN hpg ho e]
          have hjl' : listed.getD j false = true := by
            rw [← hjl]
            exact (getD_set_ne false (Ne.symm e)).symm
          exact hE' j _ hj hjl' (hT j hj hjl')
  refine wp_region_any hm ?_
  have hl0 : leftOver m (Array.replicate ops.size false) = m := by
    unfold leftOver
    rw [List.countP_eq_length.2, List.length_range]
    intro i hi
    have := List.mem_range.1 hi
    have : i < ops.size := by omega
    simp [this]
  have := head m (Array.replicate ops.size false) a0 w0.drew hl0 (Nat.le_refl _) ⟨by simp, fun j oj _ hl => (by rw [getD_replicate_false] at hl; cases hl), fun t _ ht => getD_in (by simpa using ht) (getD_replicate_false _ _)⟩ (Agree.refl _ _) (by
    have e : (fun j => (Array.replicate ops.size false).getD j false) = fun _ => false := by funext j; exact getD_replicate_false _ _
    rw [e]; exact hC) (fun i _ hl => by rw [getD_replicate_false] at hl; cases hl)
  rw [show m + (ops.size - m) = ops.size by omega] at this
  exact this
end Go.Proofs.Ythkhaemlcmkkjar
