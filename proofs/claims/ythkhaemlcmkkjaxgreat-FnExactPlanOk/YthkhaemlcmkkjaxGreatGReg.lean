/- A region that draws its order, by what holds all along: one thing to show for each of its operations, in whatever order they come. Slots that no operation of a region writes. A region that draws its order among its first n operations, each of which leaves one value whatever the order; the others come behind them, in their order. A region that draws its order: operations with one value each, whatever the order, guarded ones among them; some, one behind the other, whose values may be any; and a tail in order. -/
import Derived.Test.YthkhaemlcmkkjaxGreatProg
import Derived.Orders
import Derived.WalkKit
import Derived.StillTail
namespace Go.Proofs.YthkhaemlcmkkjaxGreat
set_option linter.unusedVariables false
set_option linter.unusedSimpArgs false

/-- How many operations are not listed yet. -/
def leftOver (n : Nat) (listed : Array Bool) : Nat := (List.range n).countP fun i => !listed.getD i true

theorem count_less {p q : Nat → Bool} {i : Nat} (hi : p i = true) (hq : q i = false) (h : ∀ j, j ≠ i → q j = p j) : ∀ n, i < n → (List.range n).countP q + 1 = (List.range n).countP p
  | 0, hn => absurd hn (Nat.not_lt_zero _)
  | n + 1, hn => by
    rw [List.range_succ, List.countP_append, List.countP_append, List.countP_singleton, List.countP_singleton]
    by_cases e : i = n
    · subst e
      have e2 : (List.range i).countP q = (List.range i).countP p := by
        apply List.countP_congr
        intro x hx
        rw [h x (by have := List.mem_range.1 hx; omega)]
      rw [e2, hi, hq]
      simp
    · have := count_less hi hq h n (by omega)
      rw [h n (fun x => e x.symm)]
      omega

theorem left_step {md : Region.Mode} {ops : Array Oper} {listed : Array Bool} {i : Nat} (hi : i ∈ Region.ready md ops listed) : leftOver ops.size (listed.setIfInBounds i true) + 1 = leftOver ops.size listed := by
  unfold Region.ready at hi
  obtain ⟨h1, h2⟩ := List.mem_filter.1 hi
  have hlt : i < ops.size := List.mem_range.1 h1
  have hf : listed.getD i true = false := by
    cases h : listed.getD i true
    · rfl
    · rw [h] at h2; simp at h2
  have hin : i < listed.size := by
    refine Nat.lt_of_not_le fun hge => ?_
    rw [Array.getD_eq_getD_getElem?, Array.getElem?_eq_none hge] at hf
    cases hf
  refine count_less (p := fun i => !listed.getD i true) (q := fun j => !(listed.setIfInBounds i true).getD j true) (by rw [hf]; rfl) ?_ ?_ ops.size hlt
  · simp [Array.getD_eq_getD_getElem?, Array.getElem?_setIfInBounds, hin]
  · intro j hj
    simp [Array.getD_eq_getD_getElem?, Array.getElem?_setIfInBounds, Ne.symm hj]

variable {P : Program} {ops : Array Oper} {Q : Exit → Act → World → Prop} {md : Region.Mode}

/-- The slot of operation i. -/
def slotOf (ops : Array Oper) (i : Nat) : Option Tmp := (ops[i]?).bind (·.dst)
/-- A frame that differs from another in the region's own slots alone. -/
structure Agree (ops : Array Oper) (a0 a : Act) : Prop where
  defers : a.defers = a0.defers
  size : a.tmps.size = a0.tmps.size
  slot : ∀ t, (∀ i, slotOf ops i ≠ some t) → a.tmps[t]? = a0.tmps[t]?
theorem Agree.refl (ops : Array Oper) (a : Act) : Agree ops a a := ⟨rfl, rfl, fun _ _ => rfl⟩
theorem Agree.put {ops : Array Oper} {a0 a : Act} (h : Agree ops a0 a) {i : Nat} {o : Oper} (hi : ops[i]? = some o) (v : Value) : Agree ops a0 (a.put o.dst v) := by
  have hs : slotOf ops i = o.dst := by simp [slotOf, hi]
  cases hd : o.dst with
  | none => exact h
  | some d =>
    refine ⟨h.defers, by simp [Act.put, h.size], fun t ht => ?_⟩
    have hne : d ≠ t := fun e => ht i (by rw [hs, hd, e])
    simp only [Act.put, Array.getElem?_setIfInBounds, hne, if_false]
    exact h.slot t ht

/-- What may be checked of a region ahead: no guard, edges backward alone, each slot once. -/
def plainB (ops : Array Oper) : Bool :=
  (List.range ops.size).all fun i => match ops[i]? with
    | some o => o.guard.isNone && o.after.all (fun e => decide (e.on < i)) && (match o.dst with | some d => (List.range i).all (fun j => slotOf ops j != some d) | none => true)
    | none => true

theorem plain_at (h : plainB ops = true) {i : Nat} {o : Oper} (hi : ops[i]? = some o) : o.guard = none ∧ (∀ e ∈ o.after, e.on < i) ∧ ∀ d, o.dst = some d → ∀ j, j < i → slotOf ops j ≠ some d := by
  have hlt : i < ops.size := (Array.getElem?_eq_some_iff.1 hi).1
  have h1 := List.all_eq_true.1 h i (List.mem_range.2 hlt)
  simp only [hi] at h1
  rw [Bool.and_eq_true, Bool.and_eq_true] at h1
  obtain ⟨⟨h2, h3⟩, h4⟩ := h1
  refine ⟨by simpa using h2, fun e he => ?_, fun d hd j hj => ?_⟩
  · have := Array.all_eq_true'.1 h3 e he
    simpa using this
  · rw [hd] at h4
    have := List.all_eq_true.1 h4 j (List.mem_range.2 hj)
    simpa using this

theorem slot_once (h : plainB ops = true) {i j : Nat} {d : Tmp} (hi : slotOf ops i = some d) (hj : slotOf ops j = some d) : i = j := by
  have key : ∀ i j, slotOf ops i = some d → slotOf ops j = some d → ¬ j < i := fun i j hi hj hlt => by
    unfold slotOf at hi
    obtain ⟨o, ho, hd⟩ := Option.bind_eq_some_iff.1 hi
    exact (plain_at h ho).2.2 d hd j hlt hj
  have := key i j hi hj
  have := key j i hj hi
  omega

/-- Where nothing is ready all is listed. -/
theorem all_listed (h : plainB ops = true) {listed : Array Bool} (hr : Region.ready md ops listed = []) (hs : listed.size = ops.size) : ∀ i, i < ops.size → listed.getD i false = true := by
  intro i
  induction i using Nat.strongRecOn with
  | _ i ih =>
    intro hi
    have ho : ops[i]? = some ops[i] := by simp [hi]
    cases hl : listed.getD i false
    · exfalso
      have hin : i ∈ Region.ready md ops listed := by
        unfold Region.ready
        refine List.mem_filter.2 ⟨List.mem_range.2 hi, ?_⟩
        have hl' : listed.getD i true = false := by
          simp [Array.getD, hs, hi] at hl ⊢
          exact hl
        rw [hl', ho]
        simp only [Option.map_some, Option.getD_some, Bool.not_false, Bool.true_and]
        refine Array.all_eq_true'.2 fun e he => ?_
        have := ih e.on ((plain_at h ho).2.1 e he) (Nat.lt_trans ((plain_at h ho).2.1 e he) hi)
        rw [this]
        simp
      rw [hr] at hin
      cases hin
    · rfl

def slotsB (ops : Array Oper) (n : Nat) : Bool := (List.range ops.size).all fun i => match slotOf ops i with | some d => decide (d < n) | none => true
theorem slots_at {n : Nat} (h : slotsB ops n = true) {i : Nat} {d : Tmp} (hi : slotOf ops i = some d) : d < n := by
  have hlt : i < ops.size := by
    unfold slotOf at hi
    obtain ⟨o, ho, _⟩ := Option.bind_eq_some_iff.1 hi
    exact (Array.getElem?_eq_some_iff.1 ho).1
  have h1 := List.all_eq_true.1 h i (List.mem_range.2 hlt)
  simp only [hi] at h1
  simpa using h1

/-- What operation i has left in its slot. -/
def valOf (ops : Array Oper) (a : Act) (i : Nat) : Value := match slotOf ops i with | some d => a.eval (.tmp d) | none => undef

theorem eval_tmp (a : Act) (d : Tmp) : a.eval (.tmp d) = a.tmps.getD d undef := rfl

theorem valOf_put_same {a : Act} {i : Nat} {o : Oper} (hi : ops[i]? = some o) (hs : ∀ d, o.dst = some d → d < a.tmps.size) (v : Value) : valOf ops (a.put o.dst v) i = o.dst.elim undef fun _ => v := by
  have e : slotOf ops i = o.dst := by simp [slotOf, hi]
  unfold valOf
  rw [e]
  cases hd : o.dst with
  | none => rfl
  | some d =>
    simp only [Option.elim_some]
    rw [eval_tmp]
    simp [Act.put, Array.getD_eq_getD_getElem?, Array.getElem?_setIfInBounds, hs d hd]

/-- The frame written out: the region's own slots as they are, the others as they were. -/
theorem Agree.list {ops : Array Oper} {a0 a : Act} (ha : Agree ops a0 a) :
    a = ⟨((List.range a0.tmps.size).map fun t => if (List.range ops.size).any (fun i => slotOf ops i == some t) then a.tmps[t]?.getD undef else a0.tmps[t]?.getD undef).toArray, a0.defers⟩ := by
  obtain ⟨t, d⟩ := a
  have h1 : d = a0.defers := ha.defers
  have h2 : t.size = a0.tmps.size := ha.size
  subst h1
  congr 1
  apply Array.ext
  · simp [h2]
  · intro i hi1 hi2
    simp only [List.getElem_toArray, List.getElem_map, List.getElem_range]
    split
    · simp [hi1]
    · rename_i hn
      have := ha.slot i (fun j hj => hn (by
        refine List.any_eq_true.2 ⟨j, List.mem_range.2 ?_, by simp [hj]⟩
        unfold slotOf at hj
        obtain ⟨o, ho, _⟩ := Option.bind_eq_some_iff.1 hj
        exact (Array.getElem?_eq_some_iff.1 ho).1))
      have h3 : t[i]? = a0.tmps[i]? := this
      rw [← h3]
      simp [hi1]

theorem valOf_at {ops : Array Oper} {i : Nat} {d : Tmp} (h : slotOf ops i = some d) (a : Act) : valOf ops a i = a.tmps[d]?.getD undef := by
  unfold valOf
  rw [h]
  simp only
  rw [eval_tmp, Array.getD_eq_getD_getElem?]
end Go.Proofs.YthkhaemlcmkkjaxGreat

namespace Go.Proofs.YthkhaemlcmkkjaxGreat
set_option linter.unusedVariables false
set_option linter.unusedSimpArgs false

theorem slots_no {ops : Array Oper} {t : Tmp} (h : ((List.range ops.size).any fun i => slotOf ops i == some t) = false) : ∀ i, slotOf ops i ≠ some t := fun j hj => by
  have : ((List.range ops.size).any fun i => slotOf ops i == some t) = true := by
    refine List.any_eq_true.2 ⟨j, List.mem_range.2 ?_, by simp [hj]⟩
    unfold slotOf at hj
    obtain ⟨o, ho, _⟩ := Option.bind_eq_some_iff.1 hj
    exact (Array.getElem?_eq_some_iff.1 ho).1
  rw [h] at this
  cases this
end Go.Proofs.YthkhaemlcmkkjaxGreat

namespace Go.Proofs.YthkhaemlcmkkjaxGreat
set_option linter.unusedVariables false
set_option linter.unusedSimpArgs false

variable {P : Program} {ops : Array Oper} {Q : Exit → Act → World → Prop}

/-- The frame with the values of the first n operations. -/
def putAll (ops : Array Oper) (V : List Value) : Nat → Act → Act
  | 0, a => a
  | n + 1, a => (putAll ops V n a).put (slotOf ops n) (V.getD n undef)

/-- What an operation looks at of the region's own slots it waits for. -/
def looksB (ops : Array Oper) : Bool :=
  (List.range ops.size).all fun i => match ops[i]? with
    | some o => (match o.op with | .select _ _ => false | _ => true) && o.op.operands.all (fun x => match x with
      | .tmp t => (List.range ops.size).all fun j => decide (slotOf ops j ≠ some t) || o.after.any (fun e => Region.binds .any e && e.on == j)
      | _ => true)
    | none => true

theorem looks_at (h : looksB ops = true) {i : Nat} {o : Oper} (hi : ops[i]? = some o) : (∀ cs b, o.op ≠ .select cs b) ∧ ∀ t, Operand.tmp t ∈ o.op.operands → ∀ j, slotOf ops j = some t → ∃ e ∈ o.after, Region.binds .any e = true ∧ e.on = j := by
  have hlt : i < ops.size := (Array.getElem?_eq_some_iff.1 hi).1
  have h1 := List.all_eq_true.1 h i (List.mem_range.2 hlt)
  simp only [hi, Bool.and_eq_true] at h1
  refine ⟨fun cs b e => ?_, fun t ht j hj => ?_⟩
  · rw [e] at h1; simp at h1
  · have h2 := Array.all_eq_true'.1 h1.2 _ ht
    have hj' : j < ops.size := by
      unfold slotOf at hj
      obtain ⟨o', ho', _⟩ := Option.bind_eq_some_iff.1 hj
      exact (Array.getElem?_eq_some_iff.1 ho').1
    have h3 := List.all_eq_true.1 h2 j (List.mem_range.2 hj')
    simp only [hj, Bool.or_eq_true, decide_eq_true_eq] at h3
    rcases h3 with h3 | h3
    · exact absurd rfl h3
    · obtain ⟨e, he, hb⟩ := Array.any_eq_true'.1 h3
      simp only [Bool.and_eq_true, beq_iff_eq] at hb
      exact ⟨e, he, hb.1, hb.2⟩

theorem putAll_facts (hp : plainB ops = true) (V : List Value) {a0 : Act} (hs : slotsB ops a0.tmps.size = true) : ∀ n, n ≤ ops.size → (putAll ops V n a0).defers = a0.defers ∧ (putAll ops V n a0).tmps.size = a0.tmps.size ∧ (∀ t, (∀ i, i < n → slotOf ops i ≠ some t) → (putAll ops V n a0).tmps[t]? = a0.tmps[t]?) ∧ ∀ i, i < n → ∀ t, slotOf ops i = some t → (putAll ops V n a0).tmps[t]? = some (V.getD i undef)
  | 0, _ => ⟨rfl, rfl, fun _ _ => rfl, fun i hi => absurd hi (Nat.not_lt_zero _)⟩
  | n + 1, hn => by
    obtain ⟨h1, h2, h3, h4⟩ := putAll_facts hp V hs n (by omega)
    unfold putAll
    cases hd : slotOf ops n with
    | none =>
      refine ⟨h1, h2, fun t ht => h3 t fun i hi => ht i (by omega), fun i hi t ht => ?_⟩
      by_cases e : i = n
      · subst e; rw [hd] at ht; cases ht
      · exact h4 i (by omega) t ht
    | some d =>
      refine ⟨h1, by simp [Act.put, h2], fun t ht => ?_, fun i hi t ht => ?_⟩
      · have hne : d ≠ t := fun e => ht n (by omega) (by rw [hd, e])
        simp only [Act.put, Array.getElem?_setIfInBounds, hne, if_false]
        exact h3 t fun i hi => ht i (by omega)
      · by_cases e : i = n
        · subst e
          rw [hd] at ht
          cases ht
          have hlt := slots_at hs hd
          simp [Act.put, Array.getElem?_setIfInBounds, h2, hlt]
        · have hne : d ≠ t := fun x => e (slot_once hp ht (by rw [hd, x]))
          simp only [Act.put, Array.getElem?_setIfInBounds, hne, if_false]
          exact h4 i (by omega) t ht

theorem left_step' {md : Region.Mode} {listed : Array Bool} {i n : Nat} (hi : i ∈ Region.ready md ops listed) (hn : i < n) : leftOver n (listed.setIfInBounds i true) + 1 = leftOver n listed := by
  unfold Region.ready at hi
  obtain ⟨h1, h2⟩ := List.mem_filter.1 hi
  have hlt : i < ops.size := List.mem_range.1 h1
  have hf : listed.getD i true = false := by
    cases h : listed.getD i true
    · rfl
    · rw [h] at h2; simp at h2
  have hin : i < listed.size := by
    refine Nat.lt_of_not_le fun hge => ?_
    rw [Array.getD_eq_getD_getElem?, Array.getElem?_eq_none hge] at hf
    cases hf
  refine count_less (p := fun i => !listed.getD i true) (q := fun j => !(listed.setIfInBounds i true).getD j true) (by rw [hf]; rfl) ?_ ?_ n hn
  · simp [Array.getD_eq_getD_getElem?, Array.getElem?_setIfInBounds, hin]
  · intro j hj
    simp [Array.getD_eq_getD_getElem?, Array.getElem?_setIfInBounds, Ne.symm hj]

/-- What is listed when the first n operations are. -/
def headL (m n : Nat) : Array Bool := ((List.range m).map fun i => decide (i < n)).toArray
def tailB (ops : Array Oper) (n : Nat) : Bool := decide (n < ops.size) && Region.sinkB .any ops n && Region.chainB .any ops n && Region.seqB .any ops (ops.size - n) n (headL ops.size n)

theorem no_out (h : LetsOut (fun (_ : Exit) (_ : Act) (_ : World) => False)) : False := by
  obtain ⟨_, _, h⟩ := h
  exact h

theorem put_same {full a : Act} {dst : Option Tmp} {u v : Value} (hfit : ∀ d, dst = some d → d < full.tmps.size) (h : full.put dst u = full.put dst v) : a.put dst u = a.put dst v := by
  cases dst with
  | none => rfl
  | some d =>
    have h1 : (full.put (some d) u).tmps[d]? = (full.put (some d) v).tmps[d]? := by rw [h]
    have hd := hfit d rfl
    simp [Act.put, Array.getElem?_setIfInBounds, hd] at h1
    rw [h1]

theorem wp_of_full {o : Oper} {a full : Act} {w : World} {v : Value} {C' : World → Prop} (hex : execOp a.eval o = execOp full.eval o) (hfit : ∀ d, o.dst = some d → d < full.tmps.size)
    (h : o.wp P full w (fun a' w' => a' = full.put o.dst v ∧ C' w') (fun _ _ _ => False)) : o.wp P a w (fun a' w' => a' = a.put o.dst v ∧ C' w') Q := by
  unfold Oper.wp at *
  rw [hex]
  generalize (execOp full.eval o).run P w = r at *
  cases r with
  | ok n w' =>
    cases n <;> simp only [Oper.upon] at h ⊢
    case value u => exact ⟨put_same hfit h.1, h.2⟩
    case skip => exact ⟨put_same hfit h.1, h.2⟩
    case defer d =>
      exfalso
      have h1 := congrArg Act.defers h.1
      cases hd : o.dst <;> simp [hd, Act.put] at h1
    case enter f args =>
      refine Calls.mono h fun e w'' he => ?_
      cases e with
      | returned u => exact ⟨put_same hfit he.1, he.2⟩
      | panicked c => exact he.elim
      | outgrown => exact (no_out he).elim
    case row row args => exact Rows.mono h fun u w'' he => ⟨put_same hfit he.1, he.2⟩
  | halt x w' =>
    cases x <;> simp only [Oper.upon] at h ⊢

theorem wp_of_full_ex {o : Oper} {a full : Act} {w : World} {C' : Value → World → Prop} (hex : execOp a.eval o = execOp full.eval o) (hfit : ∀ d, o.dst = some d → d < full.tmps.size)
    (h : o.wp P full w (fun a' w' => ∃ x, a' = full.put o.dst x ∧ C' x w') (fun _ _ _ => False)) : o.wp P a w (fun a' w' => ∃ x, a' = a.put o.dst x ∧ C' x w') Q := by
  unfold Oper.wp at *
  rw [hex]
  generalize (execOp full.eval o).run P w = r at *
  cases r with
  | ok n w' =>
    cases n <;> simp only [Oper.upon] at h ⊢
    case value u => obtain ⟨x, h1, h2⟩ := h; exact ⟨x, put_same hfit h1, h2⟩
    case skip => obtain ⟨x, h1, h2⟩ := h; exact ⟨x, put_same hfit h1, h2⟩
    case defer d =>
      exfalso
      obtain ⟨x, h1, h2⟩ := h
      have h1 := congrArg Act.defers h1
      cases hd : o.dst <;> simp [hd, Act.put] at h1
    case enter f args =>
      refine Calls.mono h fun e w'' he => ?_
      cases e with
      | returned u => obtain ⟨x, h1, h2⟩ := he; exact ⟨x, put_same hfit h1, h2⟩
      | panicked c => exact he.elim
      | outgrown => exact (no_out he).elim
    case row row args => exact Rows.mono h fun u w'' he => by obtain ⟨x, h1, h2⟩ := he; exact ⟨x, put_same hfit h1, h2⟩
  | halt x w' =>
    cases x <;> simp only [Oper.upon] at h ⊢

/-- The first s operations leave the values V, in whatever order they come (operation k turns the flag of the class C), among them comes operation s, whose value may be any; then the others come in their order. -/
theorem wp_region_fresh {id k : Nat} (s : Nat) {a0 : Act} {w0 : World} (V : List Value) (C : Bool → Option Value → World → Prop) (hm : P.follows .mixedOrders = true) (hp : plainB ops = true) (hs : slotsB ops a0.tmps.size = true) (hlk : looksB ops = true) (ht : tailB ops (s + 1) = true)
    (hC : C false none w0.drew)
    (hop : ∀ full, full = putAll ops V s a0 → ∀ (i : Nat) (o : Oper), i < s → ops[i]? = some o → ∀ (w : World) (b : Bool) (u : Option Value), C b u w → (i = k → b = false) →
      o.wp P full w (fun a' w' => a' = full.put o.dst (V.getD i undef) ∧ C (b || decide (i = k)) u w') (fun _ _ _ => False))
    (hmk : ∀ full, full = putAll ops V s a0 → ∀ (o : Oper), ops[s]? = some o → ∀ (w : World) (b : Bool), C b none w → (∀ e ∈ o.after, Region.binds .any e = true → e.on = k → b = true) →
      o.wp P full w (fun a' w' => ∃ x, a' = full.put o.dst x ∧ C b (some x) w') (fun _ _ _ => False))
    (hend : ∀ full, full = putAll ops V s a0 → ∀ x w, C (decide (k < s)) (some x) w → wpList P ops Q (ops.toList.drop (s + 1)) (full.put (slotOf ops s) x) w) : (Code.region id ops true).wp P Q a0 w0 := by
  simp only [tailB, Bool.and_eq_true, decide_eq_true_eq] at ht
  obtain ⟨⟨⟨hn, hsink⟩, hchain⟩, hseq⟩ := ht
  obtain ⟨full, hfull⟩ : ∃ f, f = putAll ops V s a0 := ⟨_, rfl⟩
  have hop := hop full hfull
  have hmk := hmk full hfull
  have hend := hend full hfull
  obtain ⟨f1, f2, f3, f4⟩ := putAll_facts hp V hs s (by omega)
  rw [← hfull] at f1 f2 f3 f4
  have head : ∀ (f : Nat) (listed : Array Bool) (a : Act) (w : World) (u : Option Value), leftOver (s + 1) listed = f → HeadInv .any ops (s + 1) listed → a.defers = a0.defers → a.tmps.size = a0.tmps.size → (∀ t, (∀ i, i < s + 1 → slotOf ops i ≠ some t) → a.tmps[t]? = a0.tmps[t]?) →
      (∀ i, i < s → listed.getD i false = true → ∀ t, slotOf ops i = some t → a.tmps[t]? = some (V.getD i undef)) → (listed.getD s false = u.isSome) → (∀ x, u = some x → ∀ t, slotOf ops s = some t → a.tmps[t]? = some x) → C (listed.getD k false && decide (k < s)) u w → wpAny P .any ops Q (f + (ops.size - (s + 1))) listed a w := by
    intro f
    induction f with
    | zero =>
      intro listed a w u hf inv g1 g2 g3 g4 g5 g6 hCw
      have hall : ∀ i, i < s + 1 → listed.getD i false = true := fun i hi => by
        have h0 := List.countP_eq_zero.1 hf i (List.mem_range.2 hi)
        have hil : i < listed.size := by rw [inv.size]; omega
        simp [hil] at h0 ⊢
        exact h0
      have hl : listed = headL ops.size (s + 1) := by
        apply Array.ext_getElem?
        intro i
        by_cases hi : i < ops.size
        · have hil : i < listed.size := by rw [inv.size]; exact hi
          by_cases hin : i < s + 1
          · have := hall i hin
            simp [hil] at this
            simp [headL, hi, hil, this, hin]
          · have := inv.tail i (by omega) hi
            simp [hil] at this
            simp [headL, hi, hil, this, hin]
        · rw [Array.getElem?_eq_none (by rw [inv.size]; omega), Array.getElem?_eq_none (by simp [headL]; omega)]
      have hsu : u.isSome = true := by rw [← g5]; exact hall s (by omega)
      obtain ⟨x, rfl⟩ := Option.isSome_iff_exists.1 hsu
      have hslotn : ∀ t, slotOf ops s = some t → t < full.tmps.size := fun t ht => by rw [f2]; exact slots_at hs ht
      have ha : a = full.put (slotOf ops s) x := by
        have e1 : a.tmps = (full.put (slotOf ops s) x).tmps := by
          apply Array.ext_getElem?
          intro t
          by_cases hst : slotOf ops s = some t
          · rw [g6 x rfl t hst, hst]
            have := hslotn t hst
            simp [Act.put, Array.getElem?_setIfInBounds, this]
          · have e2 : (full.put (slotOf ops s) x).tmps[t]? = full.tmps[t]? := by
              cases hd : slotOf ops s with
              | none => rfl
              | some d =>
                have hne : d ≠ t := fun e => hst (by rw [hd, e])
                simp [Act.put, Array.getElem?_setIfInBounds, hne]
            rw [e2]
            by_cases hx : ∃ i, i < s ∧ slotOf ops i = some t
            · obtain ⟨i, hi, hit⟩ := hx
              rw [g4 i hi (hall i (by omega)) t hit, f4 i hi t hit]
            · have hx' : ∀ i, i < s → slotOf ops i ≠ some t := fun i hi h => hx ⟨i, hi, h⟩
              rw [g3 t (fun i hi h => by
                by_cases e : i = s
                · subst e; exact hst h
                · exact hx' i (by omega) h), f3 t hx']
        have e2 : a.defers = (full.put (slotOf ops s) x).defers := by
          rw [g1, ← f1]
          cases slotOf ops s <;> rfl
        cases ha : a
        cases hb : full.put (slotOf ops s) x
        rw [ha, hb] at e1 e2
        simp at e1 e2
        rw [e1, e2]
      subst ha
      have hCw' : C (decide (k < s)) (some x) w := by
        by_cases hk : k < s
        · have e := hall k (by omega)
          rw [e] at hCw
          simpa [hk] using hCw
        · simpa [hk] using hCw
      have h := hend x w hCw'
      rw [hl]
      have hdl : (ops.toList.drop (s + 1)).length = ops.size - (s + 1) := by simp
      have := wpAny_of_seq (P := P) (ops := ops) (md := .any) (Q' := Q) (ops.toList.drop (s + 1)) (s + 1) (headL ops.size (s + 1)) (full.put (slotOf ops s) x) w (fun j => by simp [List.getElem?_drop]) (by rw [hdl]; exact hseq) h
      rw [hdl] at this
      simpa using this
    | succ f ih =>
      intro listed a w u hf inv g1 g2 g3 g4 g5 g6 hCw
      obtain ⟨y, hu, hun⟩ : ∃ y, y < s + 1 ∧ listed.getD y true = false := by
        have : 0 < leftOver (s + 1) listed := by omega
        obtain ⟨y, hu, h⟩ := List.countP_pos_iff.1 this
        exact ⟨y, List.mem_range.1 hu, by simpa using h⟩
      rw [show f + 1 + (ops.size - (s + 1)) = (f + (ops.size - (s + 1))) + 1 by omega]
      refine ⟨fun hr => ?_, fun i hi => ?_⟩
      · exfalso
        have := all_listed hp hr inv.size y (by omega)
        rw [getD_both hun] at this
        cases this
      · have hin1 : i < s + 1 := by
          rcases Nat.lt_or_ge i (s + 1) with h | h
          · exact h
          · exact absurd hi (tail_waits hsink hchain hn inv _ y rfl hu hun i h)
        obtain ⟨hiun, o, ho, hdeps⟩ := mem_ready.1 hi
        have hex : execOp a.eval o = execOp full.eval o := by
          refine execOp_congr o (looks_at hlk ho).1 fun x hx => ?_
          cases x with
          | tmp t =>
            show a.tmps.getD t undef = full.tmps.getD t undef
            have e : a.tmps[t]? = full.tmps[t]? := by
              by_cases hy : ∃ j, j < s + 1 ∧ slotOf ops j = some t
              · obtain ⟨j, hj, hjt⟩ := hy
                obtain ⟨e, he, hb, hon⟩ := (looks_at hlk ho).2 t (by simpa using hx) j hjt
                have hl := hdeps e he hb
                have hlt := (plain_at hp ho).2.1 e he
                rw [hon] at hl hlt
                rw [g4 j (by omega) hl t hjt, f4 j (by omega) t hjt]
              · have hy' : ∀ j, j < s + 1 → slotOf ops j ≠ some t := fun j hj h => hy ⟨j, hj, h⟩
                rw [g3 t hy', f3 t fun j hj => hy' j (by omega)]
            rw [Array.getD_eq_getD_getElem?, Array.getD_eq_getD_getElem?, e]
          | _ => rfl
        have hfit : ∀ d, o.dst = some d → d < full.tmps.size := fun d hd => by
          rw [f2]
          exact slots_at hs (i := i) (by simp [slotOf, ho, hd])
        have hil : i < listed.size := by rw [inv.size]; omega
        have hslot : slotOf ops i = o.dst := by simp [slotOf, ho]
        have hdef : ∀ v, (a.put o.dst v).defers = a0.defers := fun v => by cases hd : o.dst <;> simp [Act.put, g1]
        have hsiz : ∀ v, (a.put o.dst v).tmps.size = a0.tmps.size := fun v => by cases hd : o.dst <;> simp [Act.put, g2]
        have hoth : ∀ v t, (∀ j, j < s + 1 → slotOf ops j ≠ some t) → (a.put o.dst v).tmps[t]? = a0.tmps[t]? := fun v t ht => by
          cases hd : o.dst with
          | none => exact g3 t ht
          | some d =>
            have hne : d ≠ t := fun e => ht i hin1 (by rw [hslot, hd, e])
            simp only [Act.put, Array.getElem?_setIfInBounds, hne, if_false]
            exact g3 t ht
        have hown : ∀ v t, slotOf ops i = some t → (a.put o.dst v).tmps[t]? = some v := fun v t ht => by
          rw [hslot] at ht
          rw [ht]
          have hlt := hfit t ht
          rw [f2] at hlt
          simp [Act.put, Array.getElem?_setIfInBounds, g2, hlt]
        have hnot : ∀ v j t, j ≠ i → slotOf ops j = some t → (a.put o.dst v).tmps[t]? = a.tmps[t]? := fun v j t e hjt => by
          cases hd : o.dst with
          | none => rfl
          | some d =>
            have hne : d ≠ t := fun x => e (slot_once hp hjt (by rw [hslot, hd, x]))
            simp only [Act.put, Array.getElem?_setIfInBounds, hne, if_false]
        unfold wpOp
        simp only [ho]
        rw [if_pos (by simp [Region.wanted, (plain_at hp ho).1])]
        refine Or.inl ?_
        by_cases his : i = s
        · subst his
          have hu0 : u = none := by
            rw [getD_both hiun] at g5
            cases u with
            | none => rfl
            | some x => cases g5
          subst hu0
          have hw := hmk o ho w _ hCw (fun e he hb hk => by
            have hl := hdeps e he hb
            have hlt := (plain_at hp ho).2.1 e he
            rw [hk] at hl hlt
            simp [hl, hlt])
          have hw' : o.wp P a w (fun a' w' => ∃ x, a' = a.put o.dst x ∧ C (listed.getD k false && decide (k < i)) (some x) w') Q := wp_of_full_ex hex hfit hw
          refine Oper.wp_mono ?_ hw'
          rintro a' w' ⟨x, rfl, hC'⟩
          refine ih _ _ _ (some x) (by have := left_step' hi hin1; omega) (inv.set hi hin1) (hdef _) (hsiz _) (hoth _) ?_ ?_ ?_ ?_
          · intro j hj hjl t hjt
            have e : j ≠ i := by omega
            have hjl' : listed.getD j false = true := by rw [← hjl]; exact (getD_set_ne false (Ne.symm e)).symm
            rw [hnot _ j t e hjt]
            exact g4 j hj hjl' t hjt
          · simp [Array.getD_eq_getD_getElem?, Array.getElem?_setIfInBounds, hil]
          · intro x' hx' t ht
            cases hx'
            exact hown _ t ht
          · by_cases e : k = i
            · subst e
              have hCx := hC'
              simp at hCx ⊢
              exact hCx
            · have e2 : (listed.setIfInBounds i true).getD k false = listed.getD k false := getD_set_ne false (Ne.symm e)
              rw [e2]
              exact hC'
        · have hin : i < s := by omega
          have hflag : i = k → (listed.getD k false && decide (k < s)) = false := fun e => by
            subst e
            rw [getD_both hiun]
            rfl
          have hw := wp_of_full (Q := Q) hex hfit (hop i o hin ho w _ u hCw hflag)
          refine Oper.wp_mono ?_ hw
          rintro a' w' ⟨rfl, hC'⟩
          refine ih _ _ _ u (by have := left_step' hi hin1; omega) (inv.set hi hin1) (hdef _) (hsiz _) (hoth _) ?_ ?_ ?_ ?_
          · intro j hj hjl t hjt
            by_cases e : j = i
            · subst e
              exact hown _ t hjt
            · have hjl' : listed.getD j false = true := by rw [← hjl]; exact (getD_set_ne false (Ne.symm e)).symm
              rw [hnot _ j t e hjt]
              exact g4 j hj hjl' t hjt
          · rw [← g5]; exact getD_set_ne false his
          · intro x hx t ht
            rw [hnot _ s t (Ne.symm his) ht]
            exact g6 x hx t ht
          · by_cases e : i = k
            · subst e
              have e2 : (listed.setIfInBounds i true).getD i false = true := by simp [Array.getD_eq_getD_getElem?, Array.getElem?_setIfInBounds, hil]
              rw [e2]
              simpa [hin] using hC'
            · have e2 : (listed.setIfInBounds i true).getD k false = listed.getD k false := getD_set_ne false e
              rw [e2]
              simpa [e] using hC'
  refine wp_region_any hm ?_
  have hl0 : leftOver (s + 1) (Array.replicate ops.size false) = s + 1 := by
    unfold leftOver
    rw [List.countP_eq_length.2, List.length_range]
    intro i hi
    have := List.mem_range.1 hi
    have : i < ops.size := by omega
    simp [this]
  have := head (s + 1) (Array.replicate ops.size false) a0 w0.drew none hl0 ⟨by simp, fun j oj _ hl => (by rw [getD_replicate_false] at hl; cases hl), fun t _ ht => getD_in (by simpa using ht) (getD_replicate_false _ _)⟩ rfl rfl (fun _ _ => rfl) (fun i _ hl => by rw [getD_replicate_false] at hl; cases hl) (by rw [getD_replicate_false]; rfl) (fun x hx => by cases hx) (by rw [getD_replicate_false]; exact hC)
  rw [show s + 1 + (ops.size - (s + 1)) = ops.size by omega] at this
  exact this
/-- The values of operations from s on. -/
def putS (ops : Array Oper) : Nat → List Value → Act → Act
  | _, [], a => a
  | s, x :: us, a => putS ops (s + 1) us (a.put (slotOf ops s) x)
theorem putS_facts (hp : plainB ops = true) : ∀ {a : Act} (_ : slotsB ops a.tmps.size = true) (us : List Value) (s : Nat), (putS ops s us a).defers = a.defers ∧ (putS ops s us a).tmps.size = a.tmps.size ∧ (∀ t, (∀ i, i < us.length → slotOf ops (s + i) ≠ some t) → (putS ops s us a).tmps[t]? = a.tmps[t]?) ∧ ∀ i, i < us.length → ∀ t, slotOf ops (s + i) = some t → (putS ops s us a).tmps[t]? = us[i]?
  | a, hs, [], s => ⟨rfl, rfl, fun _ _ => rfl, fun i hi => absurd hi (Nat.not_lt_zero _)⟩
  | a, hs, x :: us, s => by
    have hsz : (a.put (slotOf ops s) x).tmps.size = a.tmps.size := by cases slotOf ops s <;> simp [Act.put]
    have hdf : (a.put (slotOf ops s) x).defers = a.defers := by cases slotOf ops s <;> rfl
    obtain ⟨h1, h2, h3, h4⟩ := putS_facts hp (a := a.put (slotOf ops s) x) (by rw [hsz]; exact hs) us (s + 1)
    unfold putS
    refine ⟨h1.trans hdf, h2.trans hsz, fun t ht => ?_, fun i hi t ht => ?_⟩
    · rw [h3 t (fun i hi => by have := ht (i + 1) (by simp; omega); rwa [show s + 1 + i = s + (i + 1) by omega])]
      have h0 := ht 0 (by simp)
      rw [Nat.add_zero] at h0
      cases hd : slotOf ops s with
      | none => rfl
      | some d =>
        have hne : d ≠ t := fun e => h0 (by rw [hd, e])
        simp [Act.put, Array.getElem?_setIfInBounds, hne]
    · match i with
      | 0 =>
        rw [Nat.add_zero] at ht
        rw [h3 t (fun i hi h => by have := slot_once hp ht h; omega), ht]
        have := slots_at hs ht
        simp [Act.put, Array.getElem?_setIfInBounds, this]
      | i + 1 =>
        rw [h4 i (by simpa using hi) t (by rw [← ht]; congr 1; omega)]
        simp
/-- Of the operations from s on each waits for the one ahead. -/
def chainSB (ops : Array Oper) (s c : Nat) : Bool := (List.range (s + c)).all fun t => decide (t ≤ s) || Region.waitsFor .any ops t (t - 1)
theorem chainS_at {s c : Nat} (h : chainSB ops s c = true) {t : Nat} (h1 : s < t) (h2 : t < s + c) : Region.waitsFor .any ops t (t - 1) = true := by
  have h3 := List.all_eq_true.1 h t (List.mem_range.2 h2)
  simp only [Bool.or_eq_true, decide_eq_true_eq] at h3
  rcases h3 with h3 | h3
  · omega
  · exact h3

/-- The first s operations leave the values V, in whatever order they come (operation k turns the flag of the class C); among them come c operations one behind the other, whose values may be any; then the others come in their order. -/
theorem wp_region_chain {id k : Nat} (s c : Nat) {a0 : Act} {w0 : World} (V : List Value) (C : Bool → List Value → World → Prop) (hm : P.follows .mixedOrders = true) (hp : plainB ops = true) (hs : slotsB ops a0.tmps.size = true) (hlk : looksB ops = true) (ht : tailB ops (s + c) = true) (hcb : chainSB ops s c = true)
    (hC : C false [] w0.drew)
    (hop : ∀ full, full = putAll ops V s a0 → ∀ (i : Nat) (o : Oper), i < s → ops[i]? = some o → ∀ (w : World) (b : Bool) (us : List Value), C b us w → (i = k → b = false) →
      o.wp P full w (fun a' w' => a' = full.put o.dst (V.getD i undef) ∧ C (b || decide (i = k)) us w') (fun _ _ _ => False))
    (hmk : ∀ full, full = putAll ops V s a0 → ∀ (us : List Value), us.length < c → ∀ (o : Oper), ops[s + us.length]? = some o → ∀ (w : World) (b : Bool), C b us w →
      o.wp P (putS ops s us full) w (fun a' w' => ∃ x, a' = (putS ops s us full).put o.dst x ∧ C b (us ++ [x]) w') (fun _ _ _ => False))
    (hend : ∀ full, full = putAll ops V s a0 → ∀ us w, us.length = c → C (decide (k < s)) us w → wpList P ops Q (ops.toList.drop (s + c)) (putS ops s us full) w) : (Code.region id ops true).wp P Q a0 w0 := by
  simp only [tailB, Bool.and_eq_true, decide_eq_true_eq] at ht
  obtain ⟨⟨⟨hn, hsink⟩, hchain⟩, hseq⟩ := ht
  obtain ⟨full, hfull⟩ : ∃ f, f = putAll ops V s a0 := ⟨_, rfl⟩
  have hop := hop full hfull
  have hmk := hmk full hfull
  have hend := hend full hfull
  obtain ⟨f1, f2, f3, f4⟩ := putAll_facts hp V hs s (by omega)
  rw [← hfull] at f1 f2 f3 f4
  have head : ∀ (f : Nat) (listed : Array Bool) (a : Act) (w : World) (us : List Value), leftOver (s + c) listed = f → HeadInv .any ops (s + c) listed → a.defers = a0.defers → a.tmps.size = a0.tmps.size → (∀ t, (∀ i, i < s + c → slotOf ops i ≠ some t) → a.tmps[t]? = a0.tmps[t]?) →
      (∀ i, i < s → listed.getD i false = true → ∀ t, slotOf ops i = some t → a.tmps[t]? = some (V.getD i undef)) → (us.length ≤ c ∧ ∀ i, i < c → listed.getD (s + i) false = decide (i < us.length)) → (∀ i, i < us.length → ∀ t, slotOf ops (s + i) = some t → a.tmps[t]? = us[i]?) → C (listed.getD k false && decide (k < s)) us w → wpAny P .any ops Q (f + (ops.size - (s + c))) listed a w := by
    intro f
    induction f with
    | zero =>
      intro listed a w us hf inv g1 g2 g3 g4 g5 g6 hCw
      have hall : ∀ i, i < s + c → listed.getD i false = true := fun i hi => by
        have h0 := List.countP_eq_zero.1 hf i (List.mem_range.2 hi)
        have hil : i < listed.size := by rw [inv.size]; omega
        simp [hil] at h0 ⊢
        exact h0
      have hl : listed = headL ops.size (s + c) := by
        apply Array.ext_getElem?
        intro i
        by_cases hi : i < ops.size
        · have hil : i < listed.size := by rw [inv.size]; exact hi
          by_cases hin : i < s + c
          · have := hall i hin
            simp [hil] at this
            simp [headL, hi, hil, this, hin]
          · have := inv.tail i (by omega) hi
            simp [hil] at this
            simp [headL, hi, hil, this, hin]
        · rw [Array.getElem?_eq_none (by rw [inv.size]; omega), Array.getElem?_eq_none (by simp [headL]; omega)]
      have hlen : us.length = c := by
        have h1 := g5.1
        rcases Nat.lt_or_ge us.length c with h | h
        · have h2 := g5.2 us.length h
          rw [hall _ (by omega)] at h2
          simp at h2
        · omega
      obtain ⟨p1, p2, p3, p4⟩ := putS_facts hp (a := full) (by rw [f2]; exact hs) us s
      have ha : a = putS ops s us full := by
        have e1 : a.tmps = (putS ops s us full).tmps := by
          apply Array.ext_getElem?
          intro t
          by_cases hst : ∃ i, i < us.length ∧ slotOf ops (s + i) = some t
          · obtain ⟨i, hi, hit⟩ := hst
            rw [g6 i hi t hit, p4 i hi t hit]
          · have hst' : ∀ i, i < us.length → slotOf ops (s + i) ≠ some t := fun i hi h => hst ⟨i, hi, h⟩
            rw [p3 t hst']
            by_cases hx : ∃ i, i < s ∧ slotOf ops i = some t
            · obtain ⟨i, hi, hit⟩ := hx
              rw [g4 i hi (hall i (by omega)) t hit, f4 i hi t hit]
            · have hx' : ∀ i, i < s → slotOf ops i ≠ some t := fun i hi h => hx ⟨i, hi, h⟩
              rw [g3 t (fun i hi h => by
                by_cases e : i < s
                · exact hx' i e h
                · exact hst' (i - s) (by omega) (by rw [show s + (i - s) = i by omega]; exact h)), f3 t hx']
        have e2 : a.defers = (putS ops s us full).defers := by rw [g1, p1, f1]
        cases ha : a
        cases hb : putS ops s us full
        rw [ha, hb] at e1 e2
        simp at e1 e2
        rw [e1, e2]
      subst ha
      have hCw' : C (decide (k < s)) us w := by
        by_cases hk : k < s
        · have e := hall k (by omega)
          rw [e] at hCw
          simpa [hk] using hCw
        · simpa [hk] using hCw
      have h := hend us w hlen hCw'
      rw [hl]
      have hdl : (ops.toList.drop (s + c)).length = ops.size - (s + c) := by simp
      have := wpAny_of_seq (P := P) (ops := ops) (md := .any) (Q' := Q) (ops.toList.drop (s + c)) (s + c) (headL ops.size (s + c)) (putS ops s us full) w (fun j => by simp [List.getElem?_drop]) (by rw [hdl]; exact hseq) h
      rw [hdl] at this
      simpa using this
    | succ f ih =>
      intro listed a w us hf inv g1 g2 g3 g4 g5 g6 hCw
      obtain ⟨y, hu, hun⟩ : ∃ y, y < s + c ∧ listed.getD y true = false := by
        have : 0 < leftOver (s + c) listed := by omega
        obtain ⟨y, hu, h⟩ := List.countP_pos_iff.1 this
        exact ⟨y, List.mem_range.1 hu, by simpa using h⟩
      rw [show f + 1 + (ops.size - (s + c)) = (f + (ops.size - (s + c))) + 1 by omega]
      refine ⟨fun hr => ?_, fun i hi => ?_⟩
      · exfalso
        have := all_listed hp hr inv.size y (by omega)
        rw [getD_both hun] at this
        cases this
      · have hin1 : i < s + c := by
          rcases Nat.lt_or_ge i (s + c) with h | h
          · exact h
          · exact absurd hi (tail_waits hsink hchain hn inv _ y rfl hu hun i h)
        obtain ⟨hiun, o, ho, hdeps⟩ := mem_ready.1 hi
        obtain ⟨p1, p2, p3, p4⟩ := putS_facts hp (a := full) (by rw [f2]; exact hs) us s
        have hexS : execOp a.eval o = execOp (putS ops s us full).eval o := by
          refine execOp_congr o (looks_at hlk ho).1 fun x hx => ?_
          cases x with
          | tmp t =>
            show a.tmps.getD t undef = (putS ops s us full).tmps.getD t undef
            have e : a.tmps[t]? = (putS ops s us full).tmps[t]? := by
              by_cases hy : ∃ j, j < s + c ∧ slotOf ops j = some t
              · obtain ⟨j, hj, hjt⟩ := hy
                obtain ⟨e, he, hb, hon⟩ := (looks_at hlk ho).2 t (by simpa using hx) j hjt
                have hl := hdeps e he hb
                rw [hon] at hl
                by_cases hjs : j < s
                · rw [g4 j hjs hl t hjt, p3 t (fun i' hi' h => by have := slot_once hp hjt h; omega), f4 j hjs t hjt]
                · have e2 := g5.2 (j - s) (by omega)
                  rw [show s + (j - s) = j by omega, hl] at e2
                  have hjl : j - s < us.length := by simpa using e2.symm
                  have hjt' : slotOf ops (s + (j - s)) = some t := by rw [show s + (j - s) = j by omega]; exact hjt
                  rw [g6 (j - s) hjl t hjt', p4 (j - s) hjl t hjt']
              · have hy' : ∀ j, j < s + c → slotOf ops j ≠ some t := fun j hj h => hy ⟨j, hj, h⟩
                have := g5.1
                rw [g3 t hy', p3 t (fun i' hi' => hy' _ (by omega)), f3 t fun j hj => hy' j (by omega)]
            rw [Array.getD_eq_getD_getElem?, Array.getD_eq_getD_getElem?, e]
          | _ => rfl
        have hfit : ∀ d, o.dst = some d → d < full.tmps.size := fun d hd => by
          rw [f2]
          exact slots_at hs (i := i) (by simp [slotOf, ho, hd])
        have hil : i < listed.size := by rw [inv.size]; omega
        have hslot : slotOf ops i = o.dst := by simp [slotOf, ho]
        have hdef : ∀ v, (a.put o.dst v).defers = a0.defers := fun v => by cases hd : o.dst <;> simp [Act.put, g1]
        have hsiz : ∀ v, (a.put o.dst v).tmps.size = a0.tmps.size := fun v => by cases hd : o.dst <;> simp [Act.put, g2]
        have hoth : ∀ v t, (∀ j, j < s + c → slotOf ops j ≠ some t) → (a.put o.dst v).tmps[t]? = a0.tmps[t]? := fun v t ht => by
          cases hd : o.dst with
          | none => exact g3 t ht
          | some d =>
            have hne : d ≠ t := fun e => ht i hin1 (by rw [hslot, hd, e])
            simp only [Act.put, Array.getElem?_setIfInBounds, hne, if_false]
            exact g3 t ht
        have hown : ∀ v t, slotOf ops i = some t → (a.put o.dst v).tmps[t]? = some v := fun v t ht => by
          rw [hslot] at ht
          rw [ht]
          have hlt := hfit t ht
          rw [f2] at hlt
          simp [Act.put, Array.getElem?_setIfInBounds, g2, hlt]
        have hnot : ∀ v j t, j ≠ i → slotOf ops j = some t → (a.put o.dst v).tmps[t]? = a.tmps[t]? := fun v j t e hjt => by
          cases hd : o.dst with
          | none => rfl
          | some d =>
            have hne : d ≠ t := fun x => e (slot_once hp hjt (by rw [hslot, hd, x]))
            simp only [Act.put, Array.getElem?_setIfInBounds, hne, if_false]
        unfold wpOp
        simp only [ho]
        rw [if_pos (by simp [Region.wanted, (plain_at hp ho).1])]
        refine Or.inl ?_
        by_cases his : s ≤ i
        · have hus : i = s + us.length := by
            have h1 := g5.2 (i - s) (by omega)
            rw [show s + (i - s) = i by omega, getD_both hiun] at h1
            have h2 : ¬ i - s < us.length := by simpa using h1.symm
            rcases Nat.eq_or_lt_of_le his with h | h
            · omega
            · have hw := chainS_at hcb (t := i) (by omega) hin1
              obtain ⟨oj, hoj, e, he, hb, hon⟩ := Region.waitsFor_spec hw
              rw [ho] at hoj
              cases hoj
              have hl := hdeps e he hb
              rw [hon] at hl
              have h3 := g5.2 (i - 1 - s) (by omega)
              rw [show s + (i - 1 - s) = i - 1 by omega, hl] at h3
              have h4 : i - 1 - s < us.length := by simpa using h3.symm
              omega
          have hclt : us.length < c := by omega
          have hw := hmk us hclt o (by rw [← hus]; exact ho) w _ hCw
          have hw' : o.wp P a w (fun a' w' => ∃ x, a' = a.put o.dst x ∧ C (listed.getD k false && decide (k < s)) (us ++ [x]) w') Q := wp_of_full_ex hexS (fun d hd => by rw [p2]; exact hfit d hd) hw
          refine Oper.wp_mono ?_ hw'
          rintro a' w' ⟨x, rfl, hC'⟩
          refine ih _ _ _ (us ++ [x]) (by have := left_step' hi hin1; omega) (inv.set hi hin1) (hdef _) (hsiz _) (hoth _) ?_ ⟨by simp; omega, ?_⟩ ?_ ?_
          · intro j hj hjl t hjt
            have e : j ≠ i := by omega
            have hjl' : listed.getD j false = true := by rw [← hjl]; exact (getD_set_ne false (Ne.symm e)).symm
            rw [hnot _ j t e hjt]
            exact g4 j hj hjl' t hjt
          · intro j hj
            by_cases e : s + j = i
            · rw [e]
              have e2 : (listed.setIfInBounds i true).getD i false = true := by simp [Array.getD_eq_getD_getElem?, Array.getElem?_setIfInBounds, hil]
              rw [e2]
              simp
              omega
            · rw [getD_set_ne false (Ne.symm e), g5.2 j hj, List.length_append]
              simp
              omega
          · intro j hj t ht
            by_cases e : s + j = i
            · have ej : j = us.length := by omega
              subst ej
              rw [hown _ t (by rw [← e]; exact ht)]
              simp
            · have hj' : j < us.length := by simp at hj; omega
              rw [hnot _ (s + j) t e ht, g6 j hj' t ht, List.getElem?_append_left hj']
          · by_cases e : k = i
            · have : ¬ k < s := by omega
              simpa [this] using hC'
            · have e2 : (listed.setIfInBounds i true).getD k false = listed.getD k false := getD_set_ne false (Ne.symm e)
              rw [e2]
              exact hC'
        · have hin : i < s := by omega
          have hex : execOp a.eval o = execOp full.eval o := by
            rw [hexS]
            refine execOp_congr o (looks_at hlk ho).1 fun x hx => ?_
            cases x with
            | tmp t =>
              show (putS ops s us full).tmps.getD t undef = full.tmps.getD t undef
              have e : (putS ops s us full).tmps[t]? = full.tmps[t]? := p3 t (fun i' hi' h => by
                obtain ⟨e, he, hb, hon⟩ := (looks_at hlk ho).2 t (by simpa using hx) _ h
                have hlt := (plain_at hp ho).2.1 e he
                omega)
              rw [Array.getD_eq_getD_getElem?, Array.getD_eq_getD_getElem?, e]
            | _ => rfl
          have hflag : i = k → (listed.getD k false && decide (k < s)) = false := fun e => by
            subst e
            rw [getD_both hiun]
            rfl
          have hw := wp_of_full (Q := Q) hex hfit (hop i o hin ho w _ us hCw hflag)
          refine Oper.wp_mono ?_ hw
          rintro a' w' ⟨rfl, hC'⟩
          refine ih _ _ _ us (by have := left_step' hi hin1; omega) (inv.set hi hin1) (hdef _) (hsiz _) (hoth _) ?_ ⟨g5.1, ?_⟩ ?_ ?_
          · intro j hj hjl t hjt
            by_cases e : j = i
            · subst e
              exact hown _ t hjt
            · have hjl' : listed.getD j false = true := by rw [← hjl]; exact (getD_set_ne false (Ne.symm e)).symm
              rw [hnot _ j t e hjt]
              exact g4 j hj hjl' t hjt
          · intro j hj
            rw [getD_set_ne false (by omega)]
            exact g5.2 j hj
          · intro j hj t ht
            rw [hnot _ (s + j) t (by omega) ht]
            exact g6 j hj t ht
          · by_cases e : i = k
            · subst e
              have e2 : (listed.setIfInBounds i true).getD i false = true := by simp [Array.getD_eq_getD_getElem?, Array.getElem?_setIfInBounds, hil]
              rw [e2]
              simpa [hin] using hC'
            · have e2 : (listed.setIfInBounds i true).getD k false = listed.getD k false := getD_set_ne false e
              rw [e2]
              simpa [e] using hC'
  refine wp_region_any hm ?_
  have hl0 : leftOver (s + c) (Array.replicate ops.size false) = s + c := by
    unfold leftOver
    rw [List.countP_eq_length.2, List.length_range]
    intro i hi
    have := List.mem_range.1 hi
    have : i < ops.size := by omega
    simp [this]
  have := head (s + c) (Array.replicate ops.size false) a0 w0.drew [] hl0 ⟨by simp, fun j oj _ hl => (by rw [getD_replicate_false] at hl; cases hl), fun t _ ht => getD_in (by simpa using ht) (getD_replicate_false _ _)⟩ rfl rfl (fun _ _ => rfl) (fun i _ hl => by rw [getD_replicate_false] at hl; cases hl) ⟨Nat.zero_le _, fun i _ => by rw [getD_replicate_false]; rfl⟩ (fun i hi => absurd hi (Nat.not_lt_zero _)) (by rw [getD_replicate_false]; exact hC)
  rw [show s + c + (ops.size - (s + c)) = ops.size by omega] at this
  exact this
theorem wp_append_runV {o : Oper} {a : Act} {w : World} {K : Act → World → Prop} (s x : Operand) (t : TypeId)
    (ho : o.op = .call { callee := .builtin .append, args := #[s, x], argTypes := #[t, t] }) (v u v' : Value) (w' : World) (hs : a.eval s = v) (hx : a.eval x = u)
    (hr : (Builtin.append_ #[t, t] o.type #[v, u]).run P w = .ok v' w') (h : K (a.put o.dst v') w') : o.wp P a w K Q := by
  unfold Oper.wp execOp
  simp only [ho, resolve, invoke, builtin, Sem.run_bind, Sem.run_pure, Result.andThen_ok, List.map_toArray, List.map_cons, List.map_nil, hs, hx, hr]
  exact h
end Go.Proofs.YthkhaemlcmkkjaxGreat

namespace Go.Proofs.YthkhaemlcmkkjaxGreat
set_option linter.unusedVariables false
set_option linter.unusedSimpArgs false

variable {P : Program} {ops : Array Oper} {Q : Exit → Act → World → Prop} {md : Region.Mode}

/-- Edges backward alone, each slot once, what is looked at or guards is waited for. -/
def plainG (ops : Array Oper) : Bool :=
  (List.range ops.size).all fun i => match ops[i]? with
    | some o => o.after.all (fun e => decide (e.on < i)) && (match o.dst with | some d => (List.range i).all (fun j => slotOf ops j != some d) | none => true) && (match o.guard with | some (g, _) => o.after.any (fun e => Region.binds .any e && e.on == g) | none => true)
    | none => true
theorem plainG_at (h : plainG ops = true) {i : Nat} {o : Oper} (hi : ops[i]? = some o) : (∀ e ∈ o.after, e.on < i) ∧ (∀ d, o.dst = some d → ∀ j, j < i → slotOf ops j ≠ some d) ∧ ∀ g want, o.guard = some (g, want) → ∃ e ∈ o.after, Region.binds .any e = true ∧ e.on = g := by
  have hlt : i < ops.size := (Array.getElem?_eq_some_iff.1 hi).1
  have h1 := List.all_eq_true.1 h i (List.mem_range.2 hlt)
  simp only [hi] at h1
  rw [Bool.and_eq_true, Bool.and_eq_true] at h1
  obtain ⟨⟨h3, h4⟩, h5⟩ := h1
  refine ⟨fun e he => ?_, fun d hd j hj => ?_, fun g want hg => ?_⟩
  · have := Array.all_eq_true'.1 h3 e he
    simpa using this
  · rw [hd] at h4
    have := List.all_eq_true.1 h4 j (List.mem_range.2 hj)
    simpa using this
  · rw [hg] at h5
    obtain ⟨e, he, hb⟩ := Array.any_eq_true'.1 h5
    simp only [Bool.and_eq_true, beq_iff_eq] at hb
    exact ⟨e, he, hb.1, hb.2⟩
theorem slotG_once (h : plainG ops = true) {i j : Nat} {d : Tmp} (hi : slotOf ops i = some d) (hj : slotOf ops j = some d) : i = j := by
  have key : ∀ i j, slotOf ops i = some d → slotOf ops j = some d → ¬ j < i := fun i j hi hj hlt => by
    unfold slotOf at hi
    obtain ⟨o, ho, hd⟩ := Option.bind_eq_some_iff.1 hi
    exact (plainG_at h ho).2.1 d hd j hlt hj
  have := key i j hi hj
  have := key j i hj hi
  omega
theorem allG_listed (h : plainG ops = true) {listed : Array Bool} (hr : Region.ready md ops listed = []) (hs : listed.size = ops.size) : ∀ i, i < ops.size → listed.getD i false = true := by
  intro i
  induction i using Nat.strongRecOn with
  | _ i ih =>
    intro hi
    have ho : ops[i]? = some ops[i] := by simp [hi]
    cases hl : listed.getD i false
    · exfalso
      have hin : i ∈ Region.ready md ops listed := by
        unfold Region.ready
        refine List.mem_filter.2 ⟨List.mem_range.2 hi, ?_⟩
        have hl' : listed.getD i true = false := by
          simp [Array.getD, hs, hi] at hl ⊢
          exact hl
        rw [hl', ho]
        simp only [Option.map_some, Option.getD_some, Bool.not_false, Bool.true_and]
        refine Array.all_eq_true'.2 fun e he => ?_
        have := ih e.on ((plainG_at h ho).1 e he) (Nat.lt_trans ((plainG_at h ho).1 e he) hi)
        rw [this]
        simp
      rw [hr] at hin
      cases hin
    · rfl

/-- The values of some operations. -/
def putP (ops : Array Oper) : List Nat → List Value → Act → Act
  | j :: sp, x :: us, a => putP ops sp us (a.put (slotOf ops j) x)
  | _, _, a => a
theorem putG_facts (hp : plainG ops = true) (V : List Value) {a0 : Act} (hs : slotsB ops a0.tmps.size = true) : ∀ n, n ≤ ops.size → (putAll ops V n a0).defers = a0.defers ∧ (putAll ops V n a0).tmps.size = a0.tmps.size ∧ (∀ t, (∀ i, i < n → slotOf ops i ≠ some t) → (putAll ops V n a0).tmps[t]? = a0.tmps[t]?) ∧ ∀ i, i < n → ∀ t, slotOf ops i = some t → (putAll ops V n a0).tmps[t]? = some (V.getD i undef)
  | 0, _ => ⟨rfl, rfl, fun _ _ => rfl, fun i hi => absurd hi (Nat.not_lt_zero _)⟩
  | n + 1, hn => by
    obtain ⟨h1, h2, h3, h4⟩ := putG_facts hp V hs n (by omega)
    unfold putAll
    cases hd : slotOf ops n with
    | none =>
      refine ⟨h1, h2, fun t ht => h3 t fun i hi => ht i (by omega), fun i hi t ht => ?_⟩
      by_cases e : i = n
      · subst e; rw [hd] at ht; cases ht
      · exact h4 i (by omega) t ht
    | some d =>
      refine ⟨h1, by simp [Act.put, h2], fun t ht => ?_, fun i hi t ht => ?_⟩
      · have hne : d ≠ t := fun e => ht n (by omega) (by rw [hd, e])
        simp only [Act.put, Array.getElem?_setIfInBounds, hne, if_false]
        exact h3 t fun i hi => ht i (by omega)
      · by_cases e : i = n
        · subst e
          rw [hd] at ht
          cases ht
          have hlt := slots_at hs hd
          simp [Act.put, Array.getElem?_setIfInBounds, h2, hlt]
        · have hne : d ≠ t := fun x => e (slotG_once hp ht (by rw [hd, x]))
          simp only [Act.put, Array.getElem?_setIfInBounds, hne, if_false]
          exact h4 i (by omega) t ht
theorem putP_facts (hp : plainG ops = true) : ∀ (sp : List Nat) (us : List Value) {a : Act}, slotsB ops a.tmps.size = true → sp.Nodup → us.length ≤ sp.length → (putP ops sp us a).defers = a.defers ∧ (putP ops sp us a).tmps.size = a.tmps.size ∧ (∀ t, (∀ i, i < us.length → ∀ j, sp[i]? = some j → slotOf ops j ≠ some t) → (putP ops sp us a).tmps[t]? = a.tmps[t]?) ∧ ∀ i, i < us.length → ∀ j, sp[i]? = some j → ∀ t, slotOf ops j = some t → (putP ops sp us a).tmps[t]? = us[i]?
  | [], [], a, hs, hn, hl => ⟨rfl, rfl, fun _ _ => rfl, fun i hi => absurd hi (Nat.not_lt_zero _)⟩
  | [], _ :: _, a, hs, hn, hl => absurd hl (by simp)
  | j :: sp, [], a, hs, hn, hl => ⟨rfl, rfl, fun _ _ => rfl, fun i hi => absurd hi (Nat.not_lt_zero _)⟩
  | j :: sp, x :: us, a, hs, hn, hl => by
    have hsz : (a.put (slotOf ops j) x).tmps.size = a.tmps.size := by cases slotOf ops j <;> simp [Act.put]
    have hdf : (a.put (slotOf ops j) x).defers = a.defers := by cases slotOf ops j <;> rfl
    obtain ⟨hnj, hn'⟩ := List.nodup_cons.1 hn
    obtain ⟨h1, h2, h3, h4⟩ := putP_facts hp sp us (a := a.put (slotOf ops j) x) (by rw [hsz]; exact hs) hn' (by simpa using hl)
    unfold putP
    refine ⟨h1.trans hdf, h2.trans hsz, fun t ht => ?_, fun i hi j' hj' t ht => ?_⟩
    · rw [h3 t (fun i hi j' hj' => ht (i + 1) (by simp; omega) j' (by simpa using hj'))]
      have h0 := ht 0 (by simp) j (by simp)
      cases hd : slotOf ops j with
      | none => rfl
      | some d =>
        have hne : d ≠ t := fun e => h0 (by rw [hd, e])
        simp [Act.put, Array.getElem?_setIfInBounds, hne]
    · match i with
      | 0 =>
        simp at hj'
        subst hj'
        rw [h3 t (fun i hi j' hj' h => by
          have := slotG_once hp ht h
          subst this
          exact hnj (List.mem_of_getElem? hj')), ht]
        have := slots_at hs ht
        simp [Act.put, Array.getElem?_setIfInBounds, this]
      | i + 1 =>
        rw [h4 i (by simpa using hi) j' (by simpa using hj') t ht]
        simp

/-- The operations sp come one behind the other; nothing else of the first m looks at them, and they guard nothing. -/
def mixB (ops : Array Oper) (m : Nat) (sp : List Nat) : Bool :=
  sp.all (fun j => decide (j < m)) && decide sp.Nodup && (List.range sp.length).all (fun t => decide (t = 0) || Region.waitsFor .any ops (sp.getD t 0) (sp.getD (t - 1) 0)) &&
  (List.range m).all fun i => match ops[i]? with
    | some o => (match o.guard with | some (g, _) => !sp.contains g && decide (g < m) | none => true) && (sp.contains i || o.op.operands.all (fun x => match x with | .tmp t => sp.all (fun j => decide (slotOf ops j ≠ some t)) | _ => true))
    | none => true
structure Mix (ops : Array Oper) (m : Nat) (sp : List Nat) : Prop where
  lt : ∀ j ∈ sp, j < m
  nodup : sp.Nodup
  chain : ∀ t, 0 < t → t < sp.length → Region.waitsFor .any ops (sp.getD t 0) (sp.getD (t - 1) 0) = true
  guard : ∀ i o g want, i < m → ops[i]? = some o → o.guard = some (g, want) → g ∉ sp ∧ g < m
  looks : ∀ i o, i < m → ops[i]? = some o → i ∉ sp → ∀ t, Operand.tmp t ∈ o.op.operands → ∀ j ∈ sp, slotOf ops j ≠ some t
theorem mix_of {m : Nat} {sp : List Nat} (h : mixB ops m sp = true) : Mix ops m sp := by
  unfold mixB at h
  simp only [Bool.and_eq_true] at h
  obtain ⟨⟨⟨h1, h2⟩, h3⟩, h4⟩ := h
  refine ⟨fun j hj => by simpa using List.all_eq_true.1 h1 j hj, by simpa using h2, fun t ht htl => ?_, fun i o g want hi ho hg => ?_, fun i o hi ho hns t ht j hj => ?_⟩
  · have := List.all_eq_true.1 h3 t (List.mem_range.2 htl)
    simp only [Bool.or_eq_true, decide_eq_true_eq] at this
    rcases this with h | h
    · omega
    · exact h
  · have := List.all_eq_true.1 h4 i (List.mem_range.2 hi)
    simp only [ho, hg, Bool.and_eq_true, decide_eq_true_eq] at this
    exact ⟨by simpa using this.1.1, this.1.2⟩
  · have := List.all_eq_true.1 h4 i (List.mem_range.2 hi)
    simp only [ho, Bool.and_eq_true, Bool.or_eq_true] at this
    rcases this.2 with h | h
    · exact absurd (by simpa using h) hns
    · have h5 := Array.all_eq_true'.1 h _ ht
      simpa using List.all_eq_true.1 h5 j hj

theorem wanted_same {o : Oper} {a a' : Act} (h : ∀ g want, o.guard = some (g, want) → ∀ t, slotOf ops g = some t → a.tmps[t]? = a'.tmps[t]?) : Region.wanted o (yielded ops a.tmps) = Region.wanted o (yielded ops a'.tmps) := by
  unfold Region.wanted
  cases hg : o.guard with
  | none => rfl
  | some gw =>
    obtain ⟨g, want⟩ := gw
    have hy : yielded ops a.tmps g = yielded ops a'.tmps g := by
      unfold yielded
      cases ht : (ops[g]?).bind (·.dst) with
      | none => rfl
      | some t =>
        have e := h g want hg t ht
        simp only [Option.bind_some, e]
    simp only [hy]

/-- What is asked of an operation that is guarded. -/
def gwp (P : Program) (ops : Array Oper) (full : Act) (o : Oper) (a : Act) (w : World) (R : Value → World → Prop) : Prop :=
  if Region.wanted o (yielded ops full.tmps) then o.wp P a w (fun a' w' => ∃ x, a' = a.put o.dst x ∧ R x w') (fun _ _ _ => False) else R undef w

/-- The theorem: m operations ahead of the tail; sp those whose values may be any. -/
theorem wp_region_mix {id k : Nat} (m : Nat) (sp : List Nat) {a0 : Act} {w0 : World} (V : List Value) (C : Bool → List Value → World → Prop) (hm : P.follows .mixedOrders = true) (hp : plainG ops = true) (hs : slotsB ops a0.tmps.size = true) (hlk : looksB ops = true) (ht : tailB ops m = true) (hmx : mixB ops m sp = true)
    (hC : C false [] w0.drew)
    (hop : ∀ full, full = putAll ops V m a0 → ∀ (i : Nat) (o : Oper), i < m → i ∉ sp → ops[i]? = some o → ∀ (w : World) (b : Bool) (us : List Value), C b us w → (i = k → b = false) →
      gwp P ops full o full w (fun x w' => x = V.getD i undef ∧ C (b || decide (i = k)) us w'))
    (hmk : ∀ full, full = putAll ops V m a0 → ∀ (us : List Value) (j : Nat), sp[us.length]? = some j → ∀ (o : Oper), ops[j]? = some o → ∀ (w : World) (b : Bool), C b us w →
      gwp P ops full o (putP ops sp us full) w (fun x w' => C b (us ++ [x]) w'))
    (hend : ∀ full, full = putAll ops V m a0 → ∀ us w, us.length = sp.length → C (decide (k < m ∧ k ∉ sp)) us w → wpList P ops Q (ops.toList.drop m) (putP ops sp us full) w) : (Code.region id ops true).wp P Q a0 w0 := by
  have M := mix_of hmx
  simp only [tailB, Bool.and_eq_true, decide_eq_true_eq] at ht
  obtain ⟨⟨⟨hn, hsink⟩, hchain⟩, hseq⟩ := ht
  obtain ⟨full, hfull⟩ : ∃ f, f = putAll ops V m a0 := ⟨_, rfl⟩
  have hop := hop full hfull
  have hmk := hmk full hfull
  have hend := hend full hfull
  obtain ⟨f1, f2, f3, f4⟩ := putG_facts hp V hs m (by omega)
  rw [← hfull] at f1 f2 f3 f4
  have head : ∀ (f : Nat) (listed : Array Bool) (a : Act) (w : World) (us : List Value), leftOver m listed = f → HeadInv .any ops m listed → a.defers = a0.defers → a.tmps.size = a0.tmps.size → (∀ t, (∀ i, i < m → slotOf ops i ≠ some t) → a.tmps[t]? = a0.tmps[t]?) →
      (∀ i, i < m → i ∉ sp → listed.getD i false = true → ∀ t, slotOf ops i = some t → a.tmps[t]? = some (V.getD i undef)) → (us.length ≤ sp.length ∧ ∀ i j, sp[i]? = some j → listed.getD j false = decide (i < us.length)) → (∀ i j, i < us.length → sp[i]? = some j → ∀ t, slotOf ops j = some t → a.tmps[t]? = us[i]?) → C (listed.getD k false && decide (k < m ∧ k ∉ sp)) us w → wpAny P .any ops Q (f + (ops.size - m)) listed a w := by
    intro f
    induction f with
    | zero =>
      intro listed a w us hf inv g1 g2 g3 g4 g5 g6 hCw
      have hall : ∀ i, i < m → listed.getD i false = true := fun i hi => by
        have h0 := List.countP_eq_zero.1 hf i (List.mem_range.2 hi)
        have hil : i < listed.size := by rw [inv.size]; omega
        simp [hil] at h0 ⊢
        exact h0
      have hl : listed = headL ops.size m := by
        apply Array.ext_getElem?
        intro i
        by_cases hi : i < ops.size
        · have hil : i < listed.size := by rw [inv.size]; exact hi
          by_cases hin : i < m
          · have := hall i hin
            simp [hil] at this
            simp [headL, hi, hil, this, hin]
          · have := inv.tail i (by omega) hi
            simp [hil] at this
            simp [headL, hi, hil, this, hin]
        · rw [Array.getElem?_eq_none (by rw [inv.size]; omega), Array.getElem?_eq_none (by simp [headL]; omega)]
      have hlen : us.length = sp.length := by
        rcases Nat.lt_or_ge us.length sp.length with h | h
        · have e : sp[us.length]? = some sp[us.length] := by simp [h]
          have h2 := g5.2 _ _ e
          rw [hall _ (M.lt _ (List.getElem_mem h))] at h2
          simp at h2
        · exact Nat.le_antisymm g5.1 h
      obtain ⟨p1, p2, p3, p4⟩ := putP_facts hp sp us (a := full) (by rw [f2]; exact hs) M.nodup g5.1
      have ha : a = putP ops sp us full := by
        have e1 : a.tmps = (putP ops sp us full).tmps := by
          apply Array.ext_getElem?
          intro t
          by_cases hst : ∃ i j, i < us.length ∧ sp[i]? = some j ∧ slotOf ops j = some t
          · obtain ⟨i, j, hi, hij, hit⟩ := hst
            rw [g6 i j hi hij t hit, p4 i hi j hij t hit]
          · have hst' : ∀ i, i < us.length → ∀ j, sp[i]? = some j → slotOf ops j ≠ some t := fun i hi j hij h => hst ⟨i, j, hi, hij, h⟩
            rw [p3 t hst']
            by_cases hx : ∃ i, i < m ∧ slotOf ops i = some t
            · obtain ⟨i, hi, hit⟩ := hx
              have hns : i ∉ sp := fun hmem => by
                obtain ⟨q, hq, hqe⟩ := List.getElem_of_mem hmem
                exact hst' q (by omega) i (by simp [hq, hqe]) hit
              rw [g4 i hi hns (hall i hi) t hit, f4 i hi t hit]
            · have hx' : ∀ i, i < m → slotOf ops i ≠ some t := fun i hi h => hx ⟨i, hi, h⟩
              rw [g3 t hx', f3 t hx']
        have e2 : a.defers = (putP ops sp us full).defers := by rw [g1, p1, f1]
        cases ha : a
        cases hb : putP ops sp us full
        rw [ha, hb] at e1 e2
        simp at e1 e2
        rw [e1, e2]
      subst ha
      have hCw' : C (decide (k < m ∧ k ∉ sp)) us w := by
        by_cases hk : k < m
        · have e := hall k hk
          rw [e] at hCw
          simpa using hCw
        · simpa [hk] using hCw
      have h := hend us w hlen hCw'
      rw [hl]
      have hdl : (ops.toList.drop m).length = ops.size - m := by simp
      have := wpAny_of_seq (P := P) (ops := ops) (md := .any) (Q' := Q) (ops.toList.drop m) m (headL ops.size m) (putP ops sp us full) w (fun j => by simp [List.getElem?_drop]) (by rw [hdl]; exact hseq) h
      rw [hdl] at this
      simpa using this
    | succ f ih =>
      intro listed a w us hf inv g1 g2 g3 g4 g5 g6 hCw
      obtain ⟨y, hu, hun⟩ : ∃ y, y < m ∧ listed.getD y true = false := by
        have : 0 < leftOver m listed := by omega
        obtain ⟨y, hu, h⟩ := List.countP_pos_iff.1 this
        exact ⟨y, List.mem_range.1 hu, by simpa using h⟩
      rw [show f + 1 + (ops.size - m) = (f + (ops.size - m)) + 1 by omega]
      refine ⟨fun hr => ?_, fun i hi => ?_⟩
      · exfalso
        have := allG_listed hp hr inv.size y (by omega)
        rw [getD_both hun] at this
        cases this
      · have hin1 : i < m := by
          rcases Nat.lt_or_ge i m with h | h
          · exact h
          · exact absurd hi (tail_waits hsink hchain hn inv _ y rfl hu hun i h)
        obtain ⟨hiun, o, ho, hdeps⟩ := mem_ready.1 hi
        obtain ⟨p1, p2, p3, p4⟩ := putP_facts hp sp us (a := full) (by rw [f2]; exact hs) M.nodup g5.1
        have hpd : ∀ j, j < m → j ∉ sp → ∀ t, slotOf ops j = some t → (putP ops sp us full).tmps[t]? = full.tmps[t]? := fun j hj hns t hjt => p3 t (fun q hq j' hj' h => by
          have := slotG_once hp hjt h
          subst this
          exact hns (List.mem_of_getElem? hj'))
        have hexS : execOp a.eval o = execOp (putP ops sp us full).eval o := by
          refine execOp_congr o (looks_at hlk ho).1 fun x hx => ?_
          cases x with
          | tmp t =>
            show a.tmps.getD t undef = (putP ops sp us full).tmps.getD t undef
            have e : a.tmps[t]? = (putP ops sp us full).tmps[t]? := by
              by_cases hy : ∃ j, j < m ∧ slotOf ops j = some t
              · obtain ⟨j, hj, hjt⟩ := hy
                obtain ⟨e, he, hb, hon⟩ := (looks_at hlk ho).2 t (by simpa using hx) j hjt
                have hl := hdeps e he hb
                rw [hon] at hl
                by_cases hjs : j ∈ sp
                · obtain ⟨q, hq, hqe⟩ := List.getElem_of_mem hjs
                  have hqj : sp[q]? = some j := by simp [hq, hqe]
                  have e2 := g5.2 q j hqj
                  rw [hl] at e2
                  have hjl : q < us.length := by simpa using e2.symm
                  rw [g6 q j hjl hqj t hjt, p4 q hjl j hqj t hjt]
                · rw [g4 j hj hjs hl t hjt, hpd j hj hjs t hjt, f4 j hj t hjt]
              · have hy' : ∀ j, j < m → slotOf ops j ≠ some t := fun j hj h => hy ⟨j, hj, h⟩
                rw [g3 t hy', p3 t (fun q hq j hj => hy' j (M.lt j (List.mem_of_getElem? hj))), f3 t hy']
            rw [Array.getD_eq_getD_getElem?, Array.getD_eq_getD_getElem?, e]
          | _ => rfl
        have hwant : Region.wanted o (yielded ops a.tmps) = Region.wanted o (yielded ops full.tmps) := wanted_same fun g want hg t hgt => by
          obtain ⟨e, he, hb, hon⟩ := (plainG_at hp ho).2.2 g want hg
          have hl := hdeps e he hb
          rw [hon] at hl
          obtain ⟨hns, hgm⟩ := M.guard i o g want hin1 ho hg
          rw [g4 g hgm hns hl t hgt, f4 g hgm t hgt]
        have hfit : ∀ d, o.dst = some d → d < full.tmps.size := fun d hd => by
          rw [f2]
          exact slots_at hs (i := i) (by simp [slotOf, ho, hd])
        have hil : i < listed.size := by rw [inv.size]; omega
        have hslot : slotOf ops i = o.dst := by simp [slotOf, ho]
        have hdef : ∀ v, (a.put o.dst v).defers = a0.defers := fun v => by cases hd : o.dst <;> simp [Act.put, g1]
        have hsiz : ∀ v, (a.put o.dst v).tmps.size = a0.tmps.size := fun v => by cases hd : o.dst <;> simp [Act.put, g2]
        have hoth : ∀ v t, (∀ j, j < m → slotOf ops j ≠ some t) → (a.put o.dst v).tmps[t]? = a0.tmps[t]? := fun v t ht => by
          cases hd : o.dst with
          | none => exact g3 t ht
          | some d =>
            have hne : d ≠ t := fun e => ht i hin1 (by rw [hslot, hd, e])
            simp only [Act.put, Array.getElem?_setIfInBounds, hne, if_false]
            exact g3 t ht
        have hown : ∀ v t, slotOf ops i = some t → (a.put o.dst v).tmps[t]? = some v := fun v t ht => by
          rw [hslot] at ht
          rw [ht]
          have hlt := hfit t ht
          rw [f2] at hlt
          simp [Act.put, Array.getElem?_setIfInBounds, g2, hlt]
        have hnot : ∀ v j t, j ≠ i → slotOf ops j = some t → (a.put o.dst v).tmps[t]? = a.tmps[t]? := fun v j t e hjt => by
          cases hd : o.dst with
          | none => rfl
          | some d =>
            have hne : d ≠ t := fun x => e (slotG_once hp hjt (by rw [hslot, hd, x]))
            simp only [Act.put, Array.getElem?_setIfInBounds, hne, if_false]
        unfold wpOp
        simp only [ho]
        rw [hwant]
        by_cases his : i ∈ sp
        · obtain ⟨q, hq, hqe⟩ := List.getElem_of_mem his
          have hqi : sp[q]? = some i := by simp [hq, hqe]
          have hus : q = us.length := by
            have h1 := g5.2 q i hqi
            rw [getD_both hiun] at h1
            have h2 : ¬ q < us.length := by simpa using h1.symm
            rcases Nat.eq_zero_or_pos q with h0 | h0
            · omega
            · have hw := M.chain q h0 hq
              have hgq : sp.getD q 0 = i := by simp [List.getD, hq, hqe]
              rw [hgq] at hw
              obtain ⟨oj, hoj, e, he, hb, hon⟩ := Region.waitsFor_spec hw
              rw [ho] at hoj
              cases hoj
              have hl := hdeps e he hb
              rw [hon] at hl
              have hq1 : sp[q - 1]? = some (sp.getD (q - 1) 0) := by
                have : q - 1 < sp.length := by omega
                simp [List.getD, this]
              have h3 := g5.2 (q - 1) _ hq1
              rw [hl] at h3
              have h4 : q - 1 < us.length := by simpa using h3.symm
              omega
          subst hus
          have key : ∀ x w', C (listed.getD k false && decide (k < m ∧ k ∉ sp)) (us ++ [x]) w' → wpAny P .any ops Q (f + (ops.size - m)) (listed.setIfInBounds i true) (a.put o.dst x) w' := fun x w' hC' => by
            refine ih _ _ _ (us ++ [x]) (by have := left_step' hi hin1; omega) (inv.set hi hin1) (hdef _) (hsiz _) (hoth _) ?_ ⟨by simp; omega, ?_⟩ ?_ ?_
            · intro j hj hns hjl t hjt
              have e : j ≠ i := fun e => hns (by rw [e]; exact his)
              have hjl' : listed.getD j false = true := by rw [← hjl]; exact (getD_set_ne false (Ne.symm e)).symm
              rw [hnot _ j t e hjt]
              exact g4 j hj hns hjl' t hjt
            · intro q' j hj
              by_cases e : j = i
              · subst e
                have eq : q' = us.length := by
                  have h1 : q' < sp.length := (List.getElem?_eq_some_iff.1 hj).1
                  exact (List.getElem?_inj h1 M.nodup).1 (by rw [hj, hqi])
                subst eq
                have e2 : (listed.setIfInBounds j true).getD j false = true := by simp [Array.getD_eq_getD_getElem?, Array.getElem?_setIfInBounds, hil]
                rw [e2]
                simp
              · have hne : q' ≠ us.length := fun eq => by
                  subst eq
                  rw [hqi] at hj
                  cases hj
                  exact e rfl
                rw [getD_set_ne false (Ne.symm e), g5.2 q' j hj, List.length_append]
                simp
                omega
            · intro q' j hq' hj t ht
              by_cases e : j = i
              · subst e
                have eq : q' = us.length := by
                  have h1 : q' < sp.length := (List.getElem?_eq_some_iff.1 hj).1
                  exact (List.getElem?_inj h1 M.nodup).1 (by rw [hj, hqi])
                subst eq
                rw [hown _ t ht]
                simp
              · have hne : q' ≠ us.length := fun eq => by
                  subst eq
                  rw [hqi] at hj
                  cases hj
                  exact e rfl
                have hq2 : q' < us.length := by simp at hq'; omega
                rw [hnot _ j t e ht, g6 q' j hq2 hj t ht, List.getElem?_append_left hq2]
            · by_cases e : k = i
              · have : ¬ (k < m ∧ k ∉ sp) := fun h => h.2 (by rw [e]; exact his)
                simp only [this, decide_false, Bool.and_false] at hC' ⊢
                exact hC'
              · have e2 : (listed.setIfInBounds i true).getD k false = listed.getD k false := getD_set_ne false (Ne.symm e)
                rw [e2]
                exact hC'
          have hw := hmk us i hqi o ho w _ hCw
          unfold gwp at hw
          split at hw
          · rename_i hwt
            rw [if_pos hwt]
            have hw' : o.wp P a w (fun a' w' => ∃ x, a' = a.put o.dst x ∧ C (listed.getD k false && decide (k < m ∧ k ∉ sp)) (us ++ [x]) w') Q := wp_of_full_ex hexS (fun d hd => by rw [p2]; exact hfit d hd) hw
            refine Or.inl (Oper.wp_mono ?_ hw')
            rintro a' w' ⟨x, rfl, hC'⟩
            exact key x w' hC'
          · rename_i hwt
            rw [if_neg hwt]
            exact key undef w hw
        · have hex : execOp a.eval o = execOp full.eval o := by
            rw [hexS]
            refine execOp_congr o (looks_at hlk ho).1 fun x hx => ?_
            cases x with
            | tmp t =>
              show (putP ops sp us full).tmps.getD t undef = full.tmps.getD t undef
              have e : (putP ops sp us full).tmps[t]? = full.tmps[t]? := p3 t (fun q hq j hj h => M.looks i o hin1 ho his t (by simpa using hx) j (List.mem_of_getElem? hj) h)
              rw [Array.getD_eq_getD_getElem?, Array.getD_eq_getD_getElem?, e]
            | _ => rfl
          have hflag : i = k → (listed.getD k false && decide (k < m ∧ k ∉ sp)) = false := fun e => by
            subst e
            rw [getD_both hiun]
            rfl
          have key : ∀ w', C ((listed.getD k false && decide (k < m ∧ k ∉ sp)) || decide (i = k)) us w' → wpAny P .any ops Q (f + (ops.size - m)) (listed.setIfInBounds i true) (a.put o.dst (V.getD i undef)) w' := fun w' hC' => by
            refine ih _ _ _ us (by have := left_step' hi hin1; omega) (inv.set hi hin1) (hdef _) (hsiz _) (hoth _) ?_ ⟨g5.1, ?_⟩ ?_ ?_
            · intro j hj hns hjl t hjt
              by_cases e : j = i
              · subst e
                exact hown _ t hjt
              · have hjl' : listed.getD j false = true := by rw [← hjl]; exact (getD_set_ne false (Ne.symm e)).symm
                rw [hnot _ j t e hjt]
                exact g4 j hj hns hjl' t hjt
            · intro q j hj
              have e : j ≠ i := fun e => his (by rw [← e]; exact List.mem_of_getElem? hj)
              rw [getD_set_ne false (Ne.symm e)]
              exact g5.2 q j hj
            · intro q j hq hj t ht
              have e : j ≠ i := fun e => his (by rw [← e]; exact List.mem_of_getElem? hj)
              rw [hnot _ j t e ht]
              exact g6 q j hq hj t ht
            · by_cases e : i = k
              · subst e
                have e2 : (listed.setIfInBounds i true).getD i false = true := by simp [Array.getD_eq_getD_getElem?, Array.getElem?_setIfInBounds, hil]
                rw [e2]
                simpa [hin1, his] using hC'
              · have e2 : (listed.setIfInBounds i true).getD k false = listed.getD k false := getD_set_ne false e
                rw [e2]
                simpa [e] using hC'
          have hw := hop i o hin1 his ho w _ us hCw hflag
          unfold gwp at hw
          split at hw
          · rename_i hwt
            rw [if_pos hwt]
            have hw' := wp_of_full_ex (Q := Q) hex hfit hw
            refine Or.inl (Oper.wp_mono ?_ hw')
            rintro a' w' ⟨x, rfl, rfl, hC'⟩
            exact key w' hC'
          · rename_i hwt
            rw [if_neg hwt]
            obtain ⟨e, hC'⟩ := hw
            rw [e]
            exact key w hC'
  refine wp_region_any hm ?_
  have hl0 : leftOver m (Array.replicate ops.size false) = m := by
    unfold leftOver
    rw [List.countP_eq_length.2, List.length_range]
    intro i hi
    have := List.mem_range.1 hi
    have : i < ops.size := by omega
    simp [this]
  have := head m (Array.replicate ops.size false) a0 w0.drew [] hl0 ⟨by simp, fun j oj _ hl => (by rw [getD_replicate_false] at hl; cases hl), fun t _ ht => getD_in (by simpa using ht) (getD_replicate_false _ _)⟩ rfl rfl (fun _ _ => rfl) (fun i _ _ hl => by rw [getD_replicate_false] at hl; cases hl) ⟨Nat.zero_le _, fun i j _ => by rw [getD_replicate_false]; rfl⟩ (fun i j hi => absurd hi (Nat.not_lt_zero _)) (by rw [getD_replicate_false]; exact hC)
  rw [show m + (ops.size - m) = ops.size by omega] at this
  exact this
end Go.Proofs.YthkhaemlcmkkjaxGreat
