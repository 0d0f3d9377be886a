/- Drawn regions, as in RegM, of which an operation may wait, in one compiler alone, for a later one. A region that draws its order: operations of which each leaves a value of its kind, whatever the order; and a tail in order. As RegH, where values speak of memory. A region that draws its order: operations of which each leaves a value of its kind, whatever the order; and a tail in order. All blocks but one stay as they were. -/
import Derived.Test.YthkhaemlcmkkjasGReg
import Derived.Test.YthkhaemlcmkkjasGGrow
namespace Go.Proofs.Ythkhaemlcmkkjas
set_option linter.unusedVariables false
set_option linter.unusedSimpArgs false

variable {P : Program} {ops : Array Oper} {Q : Exit → Act → World → Prop} {md : Region.Mode}

/-- Edges backward alone, each slot once, what is looked at or guards is waited for. -/
def plainN (ops : Array Oper) : Bool :=
  (List.range ops.size).all fun i => match ops[i]? with
    | some o => o.after.all (fun e => !Region.binds .any e || decide (e.on < i)) && (match o.dst with | some d => (List.range i).all (fun j => slotOf ops j != some d) | none => true) && (match o.guard with | some (g, _) => o.after.any (fun e => Region.binds .any e && e.on == g) | none => true)
    | none => true
theorem plainN_at (h : plainN ops = true) {i : Nat} {o : Oper} (hi : ops[i]? = some o) : (∀ e ∈ o.after, Region.binds .any e = true → e.on < i) ∧ (∀ d, o.dst = some d → ∀ j, j < i → slotOf ops j ≠ some d) ∧ ∀ g want, o.guard = some (g, want) → ∃ e ∈ o.after, Region.binds .any e = true ∧ e.on = g := by
  have hlt : i < ops.size := (Array.getElem?_eq_some_iff.1 hi).1
  have h1 := List.all_eq_true.1 h i (List.mem_range.2 hlt)
  simp only [hi] at h1
  rw [Bool.and_eq_true, Bool.and_eq_true] at h1
  obtain ⟨⟨h3, h4⟩, h5⟩ := h1
  refine ⟨fun e he hb => ?_, fun d hd j hj => ?_, fun g want hg => ?_⟩
  · have := Array.all_eq_true'.1 h3 e he
    rw [hb] at this
    simpa using this
  · rw [hd] at h4
    have := List.all_eq_true.1 h4 j (List.mem_range.2 hj)
    simpa using this
  · rw [hg] at h5
    obtain ⟨e, he, hb⟩ := Array.any_eq_true'.1 h5
    simp only [Bool.and_eq_true, beq_iff_eq] at hb
    exact ⟨e, he, hb.1, hb.2⟩
theorem slotN_once (h : plainN ops = true) {i j : Nat} {d : Tmp} (hi : slotOf ops i = some d) (hj : slotOf ops j = some d) : i = j := by
  have key : ∀ i j, slotOf ops i = some d → slotOf ops j = some d → ¬ j < i := fun i j hi hj hlt => by
    unfold slotOf at hi
    obtain ⟨o, ho, hd⟩ := Option.bind_eq_some_iff.1 hi
    exact (plainN_at h ho).2.1 d hd j hlt hj
  have := key i j hi hj
  have := key j i hj hi
  omega
theorem allN_listed (h : plainN ops = true) {listed : Array Bool} (hr : Region.ready .any ops listed = []) (hs : listed.size = ops.size) : ∀ i, i < ops.size → listed.getD i false = true := by
  intro i
  induction i using Nat.strongRecOn with
  | _ i ih =>
    intro hi
    have ho : ops[i]? = some ops[i] := by simp [hi]
    cases hl : listed.getD i false
    · exfalso
      have hin : i ∈ Region.ready .any ops listed := by
        unfold Region.ready
        refine List.mem_filter.2 ⟨List.mem_range.2 hi, ?_⟩
        have hl' : listed.getD i true = false := by
          simp [Array.getD, hs, hi] at hl ⊢
          exact hl
        rw [hl', ho]
        simp only [Option.map_some, Option.getD_some, Bool.not_false, Bool.true_and]
        refine Array.all_eq_true'.2 fun e he => ?_
        cases hbe : Region.binds .any e with
        | false => simp
        | true =>
          have := ih e.on ((plainN_at h ho).1 e he hbe) (Nat.lt_trans ((plainN_at h ho).1 e he hbe) hi)
          rw [this]
          simp
      rw [hr] at hin
      cases hin
    · rfl
end Go.Proofs.Ythkhaemlcmkkjas

namespace Go.Proofs.Ythkhaemlcmkkjas
set_option linter.unusedVariables false
set_option linter.unusedSimpArgs false

variable {P : Program} {ops : Array Oper} {Q : Exit → Act → World → Prop}

/-- No operation is guarded. -/
def bareB (ops : Array Oper) : Bool := (List.range ops.size).all fun i => match ops[i]? with | some o => o.guard.isNone | none => true
theorem bare_at (h : bareB ops = true) {i : Nat} {o : Oper} (hi : ops[i]? = some o) : o.guard = none := by
  have hlt : i < ops.size := (Array.getElem?_eq_some_iff.1 hi).1
  have h1 := List.all_eq_true.1 h i (List.mem_range.2 hlt)
  simp only [hi] at h1
  simpa using h1
theorem valOf_put_otherN (h : plainN ops = true) {a : Act} {i j : Nat} {o : Oper} (hi : ops[i]? = some o) (hne : j ≠ i) (v : Value) : valOf ops (a.put o.dst v) j = valOf ops a j := by
  have e : slotOf ops i = o.dst := by simp [slotOf, hi]
  unfold valOf
  cases hj : slotOf ops j with
  | none => rfl
  | some d =>
    simp only
    cases hd : o.dst with
    | none => rfl
    | some dd =>
      have hdd : dd ≠ d := fun x => hne (slotN_once h hj (by rw [e, hd, x]))
      rw [eval_tmp, eval_tmp]
      simp [Act.put, Array.getD_eq_getD_getElem?, Array.getElem?_setIfInBounds, hdd]

theorem wp_region_head {id : Nat} (m : Nat) {a0 : Act} {w0 : World} (hm : P.follows .mixedOrders = true) (hp : bareB ops = true) (hpg : plainN ops = true) (hs : slotsB ops a0.tmps.size = true) (ht : tailB ops m = true)
    (T : Nat → Value → Prop) (C : Nat → World → Prop) (hC : C 0 w0.drew)
    (hop : ∀ (i : Nat) (o : Oper), i < m → ops[i]? = some o → ∀ (a : Act) (w : World) (n : Nat), n < m → Agree ops a0 a → C n w → (∀ e ∈ o.after, Region.binds .any e = true → T e.on (valOf ops a e.on)) →
      o.wp P a w (fun a' w' => ∃ v, a' = a.put o.dst v ∧ T i (o.dst.elim undef fun _ => v) ∧ C (n + 1) w') Q)
    (hend : ∀ a w, Agree ops a0 a → (∀ i, i < m → T i (valOf ops a i)) → C m w → wpList P ops Q (ops.toList.drop m) a w) : (Code.region id ops true).wp P Q a0 w0 := by
  simp only [tailB, Bool.and_eq_true, decide_eq_true_eq] at ht
  obtain ⟨⟨⟨hn, hsink⟩, hchain⟩, hseq⟩ := ht
  have head : ∀ (f : Nat) (listed : Array Bool) (a : Act) (w : World), leftOver m listed = f → f ≤ m → HeadInv .any ops m listed → Agree ops a0 a → C (m - f) w → (∀ i, i < m → listed.getD i false = true → T i (valOf ops a i)) → wpAny P .any ops Q (f + (ops.size - m)) listed a w := by
    intro f
    induction f with
    | zero =>
      intro listed a w hf _ inv ha hCw hT
      have hall : ∀ i, i < m → listed.getD i false = true := fun i hi => by
        have h0 := List.countP_eq_zero.1 hf i (List.mem_range.2 hi)
        have hil : i < listed.size := by rw [inv.size]; omega
        simp [hil] at h0 ⊢
        exact h0
      have hl : listed = headL ops.size m := by
        apply Array.ext_getElem?
        intro i
        by_cases hi : i < ops.size
        · have hil : i < listed.size := by rw [inv.size]; exact hi
          by_cases hin : i < m
          · have := hall i hin
            simp [hil] at this
            simp [headL, hi, hil, this, hin]
          · have := inv.tail i (by omega) hi
            simp [hil] at this
            simp [headL, hi, hil, this, hin]
        · rw [Array.getElem?_eq_none (by rw [inv.size]; omega), Array.getElem?_eq_none (by simp [headL]; omega)]
      have h := hend a w ha (fun i hi => hT i hi (hall i hi)) hCw
      rw [hl]
      have hdl : (ops.toList.drop m).length = ops.size - m := by simp
      have := wpAny_of_seq (P := P) (ops := ops) (md := .any) (Q' := Q) (ops.toList.drop m) m (headL ops.size m) a w (fun j => by simp [List.getElem?_drop]) (by rw [hdl]; exact hseq) h
      rw [hdl] at this
      simpa using this
    | succ f ih =>
      intro listed a w hf hfm inv ha hCw hT
      obtain ⟨y, hu, hun⟩ : ∃ y, y < m ∧ listed.getD y true = false := by
        have : 0 < leftOver m listed := by omega
        obtain ⟨y, hu, h⟩ := List.countP_pos_iff.1 this
        exact ⟨y, List.mem_range.1 hu, by simpa using h⟩
      rw [show f + 1 + (ops.size - m) = (f + (ops.size - m)) + 1 by omega]
      refine ⟨fun hr => ?_, fun i hi => ?_⟩
      · exfalso
        have := allN_listed hpg hr inv.size y (by omega)
        rw [getD_both hun] at this
        cases this
      · have hin1 : i < m := by
          rcases Nat.lt_or_ge i m with h | h
          · exact h
          · exact absurd hi (tail_waits hsink hchain hn inv _ y rfl hu hun i h)
        obtain ⟨hiun, o, ho, hdeps⟩ := mem_ready.1 hi
        have hdep : ∀ e ∈ o.after, Region.binds .any e = true → T e.on (valOf ops a e.on) := fun e hee hb => hT e.on (Nat.lt_trans ((plainN_at hpg ho).1 e hee hb) hin1) (hdeps e hee hb)
        have hw := hop i o hin1 ho a w (m - (f + 1)) (by omega) ha hCw hdep
        unfold wpOp
        simp only [ho]
        rw [if_pos (by simp [Region.wanted, bare_at hp ho])]
        refine Or.inl (Oper.wp_mono ?_ hw)
        rintro a' w' ⟨v, rfl, hv, hc'⟩
        refine ih _ _ _ (by have := left_step' hi hin1; omega) (by omega) (inv.set hi hin1) (ha.put ho v) (by rw [show m - f = m - (f + 1) + 1 by omega]; exact hc') ?_
        intro j hj hjl
        by_cases e : j = i
        · subst e
          rw [valOf_put_same ho (fun d hd => by rw [ha.size]; exact slots_at hs (i := j) (by simp [slotOf, ho, hd]))]
          exact hv
        · rw [valOf_put_otherN hpg ho e]
          refine hT j hj ?_
          rw [← hjl]
          exact (getD_set_ne false (Ne.symm e)).symm
  refine wp_region_any hm ?_
  have hl0 : leftOver m (Array.replicate ops.size false) = m := by
    unfold leftOver
    rw [List.countP_eq_length.2, List.length_range]
    intro i hi
    have := List.mem_range.1 hi
    have : i < ops.size := by omega
    simp [this]
  have := head m (Array.replicate ops.size false) a0 w0.drew hl0 (Nat.le_refl _) ⟨by simp, fun j oj _ hl => (by rw [getD_replicate_false] at hl; cases hl), fun t _ ht => getD_in (by simpa using ht) (getD_replicate_false _ _)⟩ (Agree.refl _ _) (by rw [Nat.sub_self]; exact hC) (fun i _ hl => by rw [getD_replicate_false] at hl; cases hl)
  rw [show m + (ops.size - m) = ops.size by omega] at this
  exact this
end Go.Proofs.Ythkhaemlcmkkjas

namespace Go.Proofs.Ythkhaemlcmkkjas
set_option linter.unusedVariables false
set_option linter.unusedSimpArgs false

variable {P : Program} {ops : Array Oper} {Q : Exit → Act → World → Prop}

/-- The same, where what the operations leave speaks of memory. -/
theorem wp_region_headE {id : Nat} (m : Nat) {a0 : Act} {w0 : World} (hm : P.follows .mixedOrders = true) (hp : bareB ops = true) (hpg : plainN ops = true) (hs : slotsB ops a0.tmps.size = true) (ht : tailB ops m = true)
    (T : Nat → Value → World → Prop) (C : Nat → World → Prop) (E : World → World → Prop) (hTE : ∀ i v x y, T i v x → E x y → T i v y) (hC : C 0 w0.drew)
    (hop : ∀ (i : Nat) (o : Oper), i < m → ops[i]? = some o → ∀ (a : Act) (w : World) (n : Nat), n < m → Agree ops a0 a → C n w → (∀ e ∈ o.after, Region.binds .any e = true → T e.on (valOf ops a e.on) w) →
      o.wp P a w (fun a' w' => ∃ v, a' = a.put o.dst v ∧ T i (o.dst.elim undef fun _ => v) w' ∧ C (n + 1) w' ∧ E w w') Q)
    (hend : ∀ a w, Agree ops a0 a → (∀ i, i < m → T i (valOf ops a i) w) → C m w → wpList P ops Q (ops.toList.drop m) a w) : (Code.region id ops true).wp P Q a0 w0 := by
  simp only [tailB, Bool.and_eq_true, decide_eq_true_eq] at ht
  obtain ⟨⟨⟨hn, hsink⟩, hchain⟩, hseq⟩ := ht
  have head : ∀ (f : Nat) (listed : Array Bool) (a : Act) (w : World), leftOver m listed = f → f ≤ m → HeadInv .any ops m listed → Agree ops a0 a → C (m - f) w → (∀ i, i < m → listed.getD i false = true → T i (valOf ops a i) w) → wpAny P .any ops Q (f + (ops.size - m)) listed a w := by
    intro f
    induction f with
    | zero =>
      intro listed a w hf _ inv ha hCw hT
      have hall : ∀ i, i < m → listed.getD i false = true := fun i hi => by
        have h0 := List.countP_eq_zero.1 hf i (List.mem_range.2 hi)
        have hil : i < listed.size := by rw [inv.size]; omega
        simp [hil] at h0 ⊢
        exact h0
      have hl : listed = headL ops.size m := by
        apply Array.ext_getElem?
        intro i
        by_cases hi : i < ops.size
        · have hil : i < listed.size := by rw [inv.size]; exact hi
          by_cases hin : i < m
          · have := hall i hin
            simp [hil] at this
            simp [headL, hi, hil, this, hin]
          · have := inv.tail i (by omega) hi
            simp [hil] at this
            simp [headL, hi, hil, this, hin]
        · rw [Array.getElem?_eq_none (by rw [inv.size]; omega), Array.getElem?_eq_none (by simp [headL]; omega)]
      have h := hend a w ha (fun i hi => hT i hi (hall i hi)) hCw
      rw [hl]
      have hdl : (ops.toList.drop m).length = ops.size - m := by simp
      have := wpAny_of_seq (P := P) (ops := ops) (md := .any) (Q' := Q) (ops.toList.drop m) m (headL ops.size m) a w (fun j => by simp [List.getElem?_drop]) (by rw [hdl]; exact hseq) h
      rw [hdl] at this
      simpa using this
    | succ f ih =>
      intro listed a w hf hfm inv ha hCw hT
      obtain ⟨y, hu, hun⟩ : ∃ y, y < m ∧ listed.getD y true = false := by
        have : 0 < leftOver m listed := by omega
        obtain ⟨y, hu, h⟩ := List.countP_pos_iff.1 this
        exact ⟨y, List.mem_range.1 hu, by simpa using h⟩
      rw [show f + 1 + (ops.size - m) = (f + (ops.size - m)) + 1 by omega]
      refine ⟨fun hr => ?_, fun i hi => ?_⟩
      · exfalso
        have := allN_listed hpg hr inv.size y (by omega)
        rw [getD_both hun] at this
        cases this
      · have hin1 : i < m := by
          rcases Nat.lt_or_ge i m with h | h
          · exact h
          · exact absurd hi (tail_waits hsink hchain hn inv _ y rfl hu hun i h)
        obtain ⟨hiun, o, ho, hdeps⟩ := mem_ready.1 hi
        have hdep : ∀ e ∈ o.after, Region.binds .any e = true → T e.on (valOf ops a e.on) w := fun e hee hb => hT e.on (Nat.lt_trans ((plainN_at hpg ho).1 e hee hb) hin1) (hdeps e hee hb)
        have hw := hop i o hin1 ho a w (m - (f + 1)) (by omega) ha hCw hdep
        unfold wpOp
        simp only [ho]
        rw [if_pos (by simp [Region.wanted, bare_at hp ho])]
        refine Or.inl (Oper.wp_mono ?_ hw)
        rintro a' w' ⟨v, rfl, hv, hc', hE'⟩
        refine ih _ _ _ (by have := left_step' hi hin1; omega) (by omega) (inv.set hi hin1) (ha.put ho v) (by rw [show m - f = m - (f + 1) + 1 by omega]; exact hc') ?_
        intro j hj hjl
        by_cases e : j = i
        · subst e
          rw [valOf_put_same ho (fun d hd => by rw [ha.size]; exact slots_at hs (i := j) (by simp [slotOf, ho, hd]))]
          exact hv
        · rw [valOf_put_otherN hpg ho e]
          refine hTE _ _ _ _ (hT j hj ?_) hE'
          rw [← hjl]
          exact (getD_set_ne false (Ne.symm e)).symm
  refine wp_region_any hm ?_
  have hl0 : leftOver m (Array.replicate ops.size false) = m := by
    unfold leftOver
    rw [List.countP_eq_length.2, List.length_range]
    intro i hi
    have := List.mem_range.1 hi
    have : i < ops.size := by omega
    simp [this]
  have := head m (Array.replicate ops.size false) a0 w0.drew hl0 (Nat.le_refl _) ⟨by simp, fun j oj _ hl => (by rw [getD_replicate_false] at hl; cases hl), fun t _ ht => getD_in (by simpa using ht) (getD_replicate_false _ _)⟩ (Agree.refl _ _) (by rw [Nat.sub_self]; exact hC) (fun i _ hl => by rw [getD_replicate_false] at hl; cases hl)
  rw [show m + (ops.size - m) = ops.size by omega] at this
  exact this
end Go.Proofs.Ythkhaemlcmkkjas

namespace Go.Proofs.Ythkhaemlcmkkjas
set_option linter.unusedVariables false
set_option linter.unusedSimpArgs false
open Go.RowKit Go.Deep

/-- All that was there in x0, but block o, is there still; the row v lies in o or behind. -/
structure Bar (o : Nat) (x0 x : World) (v : Value) : Prop where
  size : x0.heap.size ≤ x.heap.size
  block : ∀ b, b < x0.heap.size → b ≠ o → x.heap[b]? = x0.heap[b]?
  at_ : ∀ g, v.ownBlock = some g → g = o ∨ x0.heap.size ≤ g
theorem Bar.refl {o : Nat} {x : World} {v : Value} (h : ∀ g, v.ownBlock = some g → g = o) : Bar o x x v := ⟨Nat.le_refl _, fun _ _ _ => rfl, fun g hg => Or.inl (h g hg)⟩
theorem Bar.on {o : Nat} {x0 x y : World} {v : Value} (h : Bar o x0 x v) (hb : Below x.heap.size x y) : Bar o x0 y v :=
  ⟨Nat.le_trans h.size hb.size, fun b h1 h2 => (hb.block b (Nat.lt_of_lt_of_le h1 h.size)).trans (h.block b h1 h2), h.at_⟩
theorem Bar.cell {o : Nat} {x0 x : World} {v : Value} (h : Bar o x0 x v) {p : Addr} (h1 : p.block < x0.heap.size) (h2 : p.block ≠ o) : x.cell? p = x0.cell? p := World.cell?_of_block (w := x0) (h.block p.block h1 h2)
theorem Bar.grown {o : Nat} {x0 x y : World} {v v' : Value} (h : Bar o x0 x v) (hg : x.grownBy y v.ownBlock) (hf : v'.ownBlock = v.ownBlock ∨ v'.ownBlock = some x.heap.size) : Bar o x0 y v' := by
  refine ⟨Nat.le_trans h.size hg.size, fun b h1 h2 => ?_, fun g hv => ?_⟩
  · rw [hg.block b (Nat.lt_of_lt_of_le h1 h.size) (fun e => ?_), h.block b h1 h2]
    rcases h.at_ b e.symm with e | e
    · exact h2 e
    · omega
  · rcases hf with hf | hf
    · exact h.at_ g (hf.symm.trans hv)
    · rw [hf] at hv
      simp at hv
      have := h.size
      omega
end Go.Proofs.Ythkhaemlcmkkjas
