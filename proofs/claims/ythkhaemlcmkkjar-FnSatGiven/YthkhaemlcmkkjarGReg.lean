/- A region that draws its order, by what holds all along: one thing to show for each of its operations, in whatever order they come. Slots that no operation of a region writes. A region that draws its order among its first n operations, each of which leaves one value whatever the order; the others come behind them, in their order. A region that draws its order: operations with one value each, whatever the order, guarded ones among them; some, one behind the other, whose values may be any; and a tail in order. -/
import Derived.Test.YthkhaemlcmkkjarProg
import Derived.Orders
import Derived.WalkKit
import Derived.StillTail
namespace Go.Proofs.Ythkhaemlcmkkjar
set_option linter.unusedVariables false
set_option linter.unusedSimpArgs false

/-- How many operations are not listed yet. -/
def leftOver (n : Nat) (listed : Array Bool) : Nat := (List.range n).countP fun i => !listed.getD i true

theorem count_less {p q : Nat → Bool} {i : Nat} (hi : p i = true) (hq : q i = false) (h : ∀ j, j ≠ i → q j = p j) : ∀ n, i < n → (List.range n).countP q + 1 = (List.range n).countP p
  | 0, hn => absurd hn (Nat.not_lt_zero _)
  | n + 1, hn => by
    rw [List.range_succ, List.countP_append, List.countP_append, List.countP_singleton, List.countP_singleton]
    by_cases e : i = n
    · subst e
      have e2 : (List.range i).countP q = (List.range i).countP p := by
        apply List.countP_congr
        intro x hx
        rw [h x (by have := List.mem_range.1 hx; omega)]
      rw [e2, hi, hq]
      simp
    · have := count_less hi hq h n (by omega)
      rw [h n (fun x => e x.symm)]
      omega

theorem left_step {md : Region.Mode} {ops : Array Oper} {listed : Array Bool} {i : Nat} (hi : i ∈ Region.ready md ops listed) : leftOver ops.size (listed.setIfInBounds i true) + 1 = leftOver ops.size listed := by
  unfold Region.ready at hi
  obtain ⟨h1, h2⟩ := List.mem_filter.1 hi
  have hlt : i < ops.size := List.mem_range.1 h1
  have hf : listed.getD i true = false := by
    cases h : listed.getD i true
    · rfl
    · rw [h] at h2; simp at h2
  have hin : i < listed.size := by
    refine Nat.lt_of_not_le fun hge => ?_
    rw [Array.getD_eq_getD_getElem?, Array.getElem?_eq_none hge] at hf
    cases hf
  refine count_less (p := fun i => !listed.getD i true) (q := fun j => !(listed.setIfInBounds i true).getD j true) (by rw [hf]; rfl) ?_ ?_ ops.size hlt
  · simp [Array.getD_eq_getD_getElem?, Array.getElem?_setIfInBounds, hin]
  · intro j hj
    simp [Array.getD_eq_getD_getElem?, Array.getElem?_setIfInBounds, Ne.symm hj]

variable {P : Program} {ops : Array Oper} {Q : Exit → Act → World → Prop} {md : Region.Mode}

/-- The slot of operation i. -/
def slotOf (ops : Array Oper) (i : Nat) : Option Tmp := (ops[i]?).bind (·.dst)
/-- A frame that differs from another in the region's own slots alone. -/
structure Agree (ops : Array Oper) (a0 a : Act) : Prop where
  defers : a.defers = a0.defers
  size : a.tmps.size = a0.tmps.size
  slot : ∀ t, (∀ i, slotOf ops i ≠ some t) → a.tmps[t]? = a0.tmps[t]?
theorem Agree.refl (ops : Array Oper) (a : Act) : Agree ops a a := ⟨rfl, rfl, fun _ _ => rfl⟩
theorem Agree.put {ops : Array Oper} {a0 a : Act} (h : Agree ops a0 a) {i : Nat} {o : Oper} (hi : ops[i]? = some o) (v : Value) : Agree ops a0 (a.put o.dst v) := by
  have hs : slotOf ops i = o.dst := by simp [slotOf, hi]
  cases hd : o.dst with
  | none => exact h
  | some d =>
    refine ⟨h.defers, by simp [Act.put, h.size], fun t ht => ?_⟩
    have hne : d ≠ t := fun e => ht i (by rw [hs, hd, e])
    simp only [Act.put, Array.getElem?_setIfInBounds, hne, if_false]
    exact h.slot t ht

def slotsB (ops : Array Oper) (n : Nat) : Bool := (List.range ops.size).all fun i => match slotOf ops i with | some d => decide (d < n) | none => true
theorem slots_at {n : Nat} (h : slotsB ops n = true) {i : Nat} {d : Tmp} (hi : slotOf ops i = some d) : d < n := by
  have hlt : i < ops.size := by
    unfold slotOf at hi
    obtain ⟨o, ho, _⟩ := Option.bind_eq_some_iff.1 hi
    exact (Array.getElem?_eq_some_iff.1 ho).1
  have h1 := List.all_eq_true.1 h i (List.mem_range.2 hlt)
  simp only [hi] at h1
  simpa using h1

/-- What operation i has left in its slot. -/
def valOf (ops : Array Oper) (a : Act) (i : Nat) : Value := match slotOf ops i with | some d => a.eval (.tmp d) | none => undef

theorem eval_tmp (a : Act) (d : Tmp) : a.eval (.tmp d) = a.tmps.getD d undef := rfl

theorem valOf_put_same {a : Act} {i : Nat} {o : Oper} (hi : ops[i]? = some o) (hs : ∀ d, o.dst = some d → d < a.tmps.size) (v : Value) : valOf ops (a.put o.dst v) i = o.dst.elim undef fun _ => v := by
  have e : slotOf ops i = o.dst := by simp [slotOf, hi]
  unfold valOf
  rw [e]
  cases hd : o.dst with
  | none => rfl
  | some d =>
    simp only [Option.elim_some]
    rw [eval_tmp]
    simp [Act.put, Array.getD_eq_getD_getElem?, Array.getElem?_setIfInBounds, hs d hd]

/-- The frame written out: the region's own slots as they are, the others as they were. -/
theorem Agree.list {ops : Array Oper} {a0 a : Act} (ha : Agree ops a0 a) :
    a = ⟨((List.range a0.tmps.size).map fun t => if (List.range ops.size).any (fun i => slotOf ops i == some t) then a.tmps[t]?.getD undef else a0.tmps[t]?.getD undef).toArray, a0.defers⟩ := by
  obtain ⟨t, d⟩ := a
  have h1 : d = a0.defers := ha.defers
  have h2 : t.size = a0.tmps.size := ha.size
  subst h1
  congr 1
  apply Array.ext
  · simp [h2]
  · intro i hi1 hi2
    simp only [List.getElem_toArray, List.getElem_map, List.getElem_range]
    split
    · simp [hi1]
    · rename_i hn
      have := ha.slot i (fun j hj => hn (by
        refine List.any_eq_true.2 ⟨j, List.mem_range.2 ?_, by simp [hj]⟩
        unfold slotOf at hj
        obtain ⟨o, ho, _⟩ := Option.bind_eq_some_iff.1 hj
        exact (Array.getElem?_eq_some_iff.1 ho).1))
      have h3 : t[i]? = a0.tmps[i]? := this
      rw [← h3]
      simp [hi1]

theorem valOf_at {ops : Array Oper} {i : Nat} {d : Tmp} (h : slotOf ops i = some d) (a : Act) : valOf ops a i = a.tmps[d]?.getD undef := by
  unfold valOf
  rw [h]
  simp only
  rw [eval_tmp, Array.getD_eq_getD_getElem?]
end Go.Proofs.Ythkhaemlcmkkjar

namespace Go.Proofs.Ythkhaemlcmkkjar
set_option linter.unusedVariables false
set_option linter.unusedSimpArgs false

theorem slots_no {ops : Array Oper} {t : Tmp} (h : ((List.range ops.size).any fun i => slotOf ops i == some t) = false) : ∀ i, slotOf ops i ≠ some t := fun j hj => by
  have : ((List.range ops.size).any fun i => slotOf ops i == some t) = true := by
    refine List.any_eq_true.2 ⟨j, List.mem_range.2 ?_, by simp [hj]⟩
    unfold slotOf at hj
    obtain ⟨o, ho, _⟩ := Option.bind_eq_some_iff.1 hj
    exact (Array.getElem?_eq_some_iff.1 ho).1
  rw [h] at this
  cases this
end Go.Proofs.Ythkhaemlcmkkjar

namespace Go.Proofs.Ythkhaemlcmkkjar
set_option linter.unusedVariables false
set_option linter.unusedSimpArgs false

variable {P : Program} {ops : Array Oper} {Q : Exit → Act → World → Prop}

/-- The frame with the values of the first n operations. -/
def putAll (ops : Array Oper) (V : List Value) : Nat → Act → Act
  | 0, a => a
  | n + 1, a => (putAll ops V n a).put (slotOf ops n) (V.getD n undef)

/-- What an operation looks at of the region's own slots it waits for. -/
def looksB (ops : Array Oper) : Bool :=
  (List.range ops.size).all fun i => match ops[i]? with
    | some o => (match o.op with | .select _ _ => false | _ => true) && o.op.operands.all (fun x => match x with
      | .tmp t => (List.range ops.size).all fun j => decide (slotOf ops j ≠ some t) || o.after.any (fun e => Region.binds .any e && e.on == j)
      | _ => true)
    | none => true

theorem looks_at (h : looksB ops = true) {i : Nat} {o : Oper} (hi : ops[i]? = some o) : (∀ cs b, o.op ≠ .select cs b) ∧ ∀ t, Operand.tmp t ∈ o.op.operands → ∀ j, slotOf ops j = some t → ∃ e ∈ o.after, Region.binds .any e = true ∧ e.on = j := by
  have hlt : i < ops.size := (Array.getElem?_eq_some_iff.1 hi).1
  have h1 := List.all_eq_true.1 h i (List.mem_range.2 hlt)
  simp only [hi, Bool.and_eq_true] at h1
  refine ⟨fun cs b e => ?_, fun t ht j hj => ?_⟩
  · rw [e] at h1; simp at h1
  · have h2 := Array.all_eq_true'.1 h1.2 _ ht
    have hj' : j < ops.size := by
      unfold slotOf at hj
      obtain ⟨o', ho', _⟩ := Option.bind_eq_some_iff.1 hj
      exact (Array.getElem?_eq_some_iff.1 ho').1
    have h3 := List.all_eq_true.1 h2 j (List.mem_range.2 hj')
    simp only [hj, Bool.or_eq_true, decide_eq_true_eq] at h3
    rcases h3 with h3 | h3
    · exact absurd rfl h3
    · obtain ⟨e, he, hb⟩ := Array.any_eq_true'.1 h3
      simp only [Bool.and_eq_true, beq_iff_eq] at hb
      exact ⟨e, he, hb.1, hb.2⟩

theorem left_step' {md : Region.Mode} {listed : Array Bool} {i n : Nat} (hi : i ∈ Region.ready md ops listed) (hn : i < n) : leftOver n (listed.setIfInBounds i true) + 1 = leftOver n listed := by
  unfold Region.ready at hi
  obtain ⟨h1, h2⟩ := List.mem_filter.1 hi
  have hlt : i < ops.size := List.mem_range.1 h1
  have hf : listed.getD i true = false := by
    cases h : listed.getD i true
    · rfl
    · rw [h] at h2; simp at h2
  have hin : i < listed.size := by
    refine Nat.lt_of_not_le fun hge => ?_
    rw [Array.getD_eq_getD_getElem?, Array.getElem?_eq_none hge] at hf
    cases hf
  refine count_less (p := fun i => !listed.getD i true) (q := fun j => !(listed.setIfInBounds i true).getD j true) (by rw [hf]; rfl) ?_ ?_ n hn
  · simp [Array.getD_eq_getD_getElem?, Array.getElem?_setIfInBounds, hin]
  · intro j hj
    simp [Array.getD_eq_getD_getElem?, Array.getElem?_setIfInBounds, Ne.symm hj]

/-- What is listed when the first n operations are. -/
def headL (m n : Nat) : Array Bool := ((List.range m).map fun i => decide (i < n)).toArray
def tailB (ops : Array Oper) (n : Nat) : Bool := decide (n < ops.size) && Region.sinkB .any ops n && Region.chainB .any ops n && Region.seqB .any ops (ops.size - n) n (headL ops.size n)

theorem no_out (h : LetsOut (fun (_ : Exit) (_ : Act) (_ : World) => False)) : False := by
  obtain ⟨_, _, h⟩ := h
  exact h

theorem put_same {full a : Act} {dst : Option Tmp} {u v : Value} (hfit : ∀ d, dst = some d → d < full.tmps.size) (h : full.put dst u = full.put dst v) : a.put dst u = a.put dst v := by
  cases dst with
  | none => rfl
  | some d =>
    have h1 : (full.put (some d) u).tmps[d]? = (full.put (some d) v).tmps[d]? := by rw [h]
    have hd := hfit d rfl
    simp [Act.put, Array.getElem?_setIfInBounds, hd] at h1
    rw [h1]

theorem wp_of_full_ex {o : Oper} {a full : Act} {w : World} {C' : Value → World → Prop} (hex : execOp a.eval o = execOp full.eval o) (hfit : ∀ d, o.dst = some d → d < full.tmps.size)
    (h : o.wp P full w (fun a' w' => ∃ x, a' = full.put o.dst x ∧ C' x w') (fun _ _ _ => False)) : o.wp P a w (fun a' w' => ∃ x, a' = a.put o.dst x ∧ C' x w') Q := by
  unfold Oper.wp at *
  rw [hex]
  generalize (execOp full.eval o).run P w = r at *
  cases r with
  | ok n w' =>
    cases n <;> simp only [Oper.upon] at h ⊢
    case value u => obtain ⟨x, h1, h2⟩ := h; exact ⟨x, put_same hfit h1, h2⟩
    case skip => obtain ⟨x, h1, h2⟩ := h; exact ⟨x, put_same hfit h1, h2⟩
    case defer d =>
      exfalso
      obtain ⟨x, h1, h2⟩ := h
      have h1 := congrArg Act.defers h1
      cases hd : o.dst <;> simp [hd, Act.put] at h1
    case enter f args =>
      refine Calls.mono h fun e w'' he => ?_
      cases e with
      | returned u => obtain ⟨x, h1, h2⟩ := he; exact ⟨x, put_same hfit h1, h2⟩
      | panicked c => exact he.elim
      | outgrown => exact (no_out he).elim
    case row row args => exact Rows.mono h fun u w'' he => by obtain ⟨x, h1, h2⟩ := he; exact ⟨x, put_same hfit h1, h2⟩
  | halt x w' =>
    cases x <;> simp only [Oper.upon] at h ⊢

theorem wp_append_runV {o : Oper} {a : Act} {w : World} {K : Act → World → Prop} (s x : Operand) (t : TypeId)
    (ho : o.op = .call { callee := .builtin .append, args := #[s, x], argTypes := #[t, t] }) (v u v' : Value) (w' : World) (hs : a.eval s = v) (hx : a.eval x = u)
    (hr : (Builtin.append_ #[t, t] o.type #[v, u]).run P w = .ok v' w') (h : K (a.put o.dst v') w') : o.wp P a w K Q := by
  unfold Oper.wp execOp
  simp only [ho, resolve, invoke, builtin, Sem.run_bind, Sem.run_pure, Result.andThen_ok, List.map_toArray, List.map_cons, List.map_nil, hs, hx, hr]
  exact h
end Go.Proofs.Ythkhaemlcmkkjar

namespace Go.Proofs.Ythkhaemlcmkkjar
set_option linter.unusedVariables false
set_option linter.unusedSimpArgs false

variable {P : Program} {ops : Array Oper} {Q : Exit → Act → World → Prop} {md : Region.Mode}

/-- The values of some operations. -/
def putP (ops : Array Oper) : List Nat → List Value → Act → Act
  | j :: sp, x :: us, a => putP ops sp us (a.put (slotOf ops j) x)
  | _, _, a => a
/-- The operations sp come one behind the other; nothing else of the first m looks at them, and they guard nothing. -/
def mixB (ops : Array Oper) (m : Nat) (sp : List Nat) : Bool :=
  sp.all (fun j => decide (j < m)) && decide sp.Nodup && (List.range sp.length).all (fun t => decide (t = 0) || Region.waitsFor .any ops (sp.getD t 0) (sp.getD (t - 1) 0)) &&
  (List.range m).all fun i => match ops[i]? with
    | some o => (match o.guard with | some (g, _) => !sp.contains g && decide (g < m) | none => true) && (sp.contains i || o.op.operands.all (fun x => match x with | .tmp t => sp.all (fun j => decide (slotOf ops j ≠ some t)) | _ => true))
    | none => true
structure Mix (ops : Array Oper) (m : Nat) (sp : List Nat) : Prop where
  lt : ∀ j ∈ sp, j < m
  nodup : sp.Nodup
  chain : ∀ t, 0 < t → t < sp.length → Region.waitsFor .any ops (sp.getD t 0) (sp.getD (t - 1) 0) = true
  guard : ∀ i o g want, i < m → ops[i]? = some o → o.guard = some (g, want) → g ∉ sp ∧ g < m
  looks : ∀ i o, i < m → ops[i]? = some o → i ∉ sp → ∀ t, Operand.tmp t ∈ o.op.operands → ∀ j ∈ sp, slotOf ops j ≠ some t
theorem mix_of {m : Nat} {sp : List Nat} (h : mixB ops m sp = true) : Mix ops m sp := by
  unfold mixB at h
  simp only [Bool.and_eq_true] at h
  obtain ⟨⟨⟨h1, h2⟩, h3⟩, h4⟩ := h
  refine ⟨fun j hj => by simpa using List.all_eq_true.1 h1 j hj, by simpa using h2, fun t ht htl => ?_, fun i o g want hi ho hg => ?_, fun i o hi ho hns t ht j hj => ?_⟩
  · have := List.all_eq_true.1 h3 t (List.mem_range.2 htl)
    simp only [Bool.or_eq_true, decide_eq_true_eq] at this
    rcases this with h | h
    · omega
    · exact h
  · have := List.all_eq_true.1 h4 i (List.mem_range.2 hi)
    simp only [ho, hg, Bool.and_eq_true, decide_eq_true_eq] at this
    exact ⟨by simpa using this.1.1, this.1.2⟩
  · have := List.all_eq_true.1 h4 i (List.mem_range.2 hi)
    simp only [ho, Bool.and_eq_true, Bool.or_eq_true] at this
    rcases this.2 with h | h
    · exact absurd (by simpa using h) hns
    · have h5 := Array.all_eq_true'.1 h _ ht
      simpa using List.all_eq_true.1 h5 j hj

theorem wanted_same {o : Oper} {a a' : Act} (h : ∀ g want, o.guard = some (g, want) → ∀ t, slotOf ops g = some t → a.tmps[t]? = a'.tmps[t]?) : Region.wanted o (yielded ops a.tmps) = Region.wanted o (yielded ops a'.tmps) := by
  unfold Region.wanted
  cases hg : o.guard with
  | none => rfl
  | some gw =>
    obtain ⟨g, want⟩ := gw
    have hy : yielded ops a.tmps g = yielded ops a'.tmps g := by
      unfold yielded
      cases ht : (ops[g]?).bind (·.dst) with
      | none => rfl
      | some t =>
        have e := h g want hg t ht
        simp only [Option.bind_some, e]
    simp only [hy]

/-- What is asked of an operation that is guarded. -/
def gwp (P : Program) (ops : Array Oper) (full : Act) (o : Oper) (a : Act) (w : World) (R : Value → World → Prop) : Prop :=
  if Region.wanted o (yielded ops full.tmps) then o.wp P a w (fun a' w' => ∃ x, a' = a.put o.dst x ∧ R x w') (fun _ _ _ => False) else R undef w

end Go.Proofs.Ythkhaemlcmkkjar
