/- The specification's drawn rows of requests, as slices of good blocks. -/
import Derived.Test.YtecipjdbfmldlabGrowB
namespace Go.Proofs.Ytecipjdbfmldlab
set_option linter.unusedVariables false
set_option linter.unusedSimpArgs false
set_option maxRecDepth 10000
open Go.RowKit Go.Deep

theorem wp_append_run {P : Program} {o : Oper} {a : Act} {w : World} {K : Act → World → Prop} {Q : Exit → Act → World → Prop} (s x : Operand) (t : TypeId)
    (ho : o.op = .call { callee := .builtin .append, args := #[s, x], argTypes := #[t, t] }) (v u v' : Value) (w' : World) (hs : a.eval s = v) (hx : a.eval x = u)
    (hr : (Builtin.append_ #[t, t] o.type #[v, u]).run P w = .ok v' w') (h : K (a.put o.dst v') w') : o.wp P a w K Q := by
  unfold Oper.wp execOp
  simp only [ho, resolve, invoke, builtin, Sem.run_bind, Sem.run_pure, Result.andThen_ok, List.map_toArray, List.map_cons, List.map_nil, hs, hx, hr]
  exact h
theorem wpList_append_run {P : Program} {ops : Array Oper} {rest : List Oper} {o : Oper} {a : Act} {w : World} {Q : Exit → Act → World → Prop} (hgd : o.guard = none) (s x : Operand) (t : TypeId)
    (ho : o.op = .call { callee := .builtin .append, args := #[s, x], argTypes := #[t, t] }) (v u v' : Value) (w' : World) (hs : a.eval s = v) (hx : a.eval x = u)
    (hr : (Builtin.append_ #[t, t] o.type #[v, u]).run P w = .ok v' w') (h : wpList P ops Q rest (a.put o.dst v') w') : wpList P ops Q (o :: rest) a w :=
  wpList_plain hgd fun _ hK => wp_append_run s x t ho v u v' w' hs hx hr (hK _ _ h)

/-- Where all below s is as it was the reader is. -/
theorem Rd.low {B s : Nat} {w w' : World} {rb : Nat} {m : Int} (h : Rd B w rb m) (hs : rb < s) (hz : w.heap.size ≤ w'.heap.size) (hb : ∀ b, b < s → w'.heap[b]? = w.heap[b]?) : Rd B w' rb m :=
  h.on hz (fun b hb' => hb b (by have := h.past; omega)) (hb rb hs)
theorem Wrote.ev {B s N N' : Nat} {a w w' : World} (h : Wrote B isRd a w) (e : Ev B s N N' w w') (hs : a.heap.size ≤ s) : Wrote B isRd a w' :=
  ⟨e.os.trans h.os, e.tape.trans h.tape, e.output.trans h.output, Nat.le_trans h.size e.size,
   fun b hb hc => by
     have e1 := h.block b hb hc
     exact (e.old b (Nat.lt_of_lt_of_le hb h.size) (by omega) (hc.imp id fun hn hr => hn _ rfl (hr.of_block e1.symm))).trans e1,
   fun b t n hr => by
     have h1 := h.shape b t n hr
     by_cases ht : t = 73
     · subst ht; exact e.rd b n h1
     · exact h1.of_block (e.old b h1.lt (by have := hr.lt; omega) (Or.inr fun hc => ht (CellsOf.one h1.cells hc)))⟩

set_option maxHeartbeats 2000000 in
/-- Rows of drawn requests: a slice of good blocks from s on, for every s from the call's own memory down to one past the reader. -/
theorem l71Reqs_V (B rb s : Nat) (m : Int) (most : Int) (w : World) (h : Rd B w rb m) (hm : m ≤ 90000) (h0 : 0 ≤ most) (h2 : most ≤ 2) (hs : s ≤ w.heap.size) :
    Calls Try.prog 59 #[.pointer (some ⟨rb, 0, none⟩), .int .i64 most] w fun e w' => (∃ v : Value, e = .returned v ∧ V0 s w' 2 v) ∧ Rd B w' rb (m + 50) ∧ Wrote B isRd w w' := by
  have hrl := h.lt
  have h1 := h.alloc (.cells #[] 71 (0, 0))
  have W1 : Wrote B isRd w (w.alloc (.cells #[] 71 (0, 0))) := Wrote.of_below ((Below.refl _ _).alloc (Nat.le_refl _) _)
  have O1 : V0 w.heap.size (w.alloc (.cells #[] 71 (0, 0))) 0 (.slice (some ⟨w.heap.size, 0, none⟩) 0 0) :=
    Or.inr ⟨w.heap.size, 0, 0, rfl, Nat.le_refl _, Nat.le_refl _, Nat.zero_le _, Nat.le_refl _, #[], blk_alloc_new _ _, rfl, fun i v hv => by simp at hv⟩
  have hmo := wr64 (most + 1) (by omega)
  go_enter Try.func59, Try.ntmps59
  go_wp2_with fail
  refine (pick_any B rb _ (most + 1) _ h1 (by omega) (by omega) (by omega)).mono ?_
  rintro e w1 ⟨⟨r, rfl, hr0, hr1⟩, R1, V1⟩
  have O2 := V0.ev O1 (Ev.of_wrote (s := w.heap.size) (N := 0) V1)
  have W2 := W1.trans V1
  obtain ⟨r, rfl⟩ : ∃ n : Nat, r = n := ⟨r.toNat, by omega⟩
  clear O1 V1 W1 h1
  go_wp2_with fail
  go_loopw [5, 6] (fun v i wr => ∃ k j : Nat, i = .int .i64 k ∧ k + j ≤ 2 ∧ V0 w.heap.size wr j v ∧ Rd B wr rb (m + 1 + 20 * j) ∧ Wrote B isRd w wr) (fun _ i _ => (intOf i).toNat)
  case atStart => exact ⟨r, 0, rfl, by omega, O2, by simpa using R1, W2⟩
  case round =>
    rename World => wo
    obtain ⟨k, j, rfl, hk, hV, hR, hW⟩ := hrel
    by_cases hk0 : 0 < k
    · have hk1 : (0 : Int) < (k : Int) := by omega
      go_wp2_with fail
      refine (l71Req_any B rb _ _ hR (by omega)).mono ?_
      rintro e w2 ⟨⟨q, rfl, hq⟩, R2, V2⟩
      have HV2 := V0.ev hV (Ev.of_wrote (s := w.heap.size) (N := j) V2)
      have W3 := hW.trans V2
      have hz := W3.size
      have HA := hide (fun ty => append_V0 (B := B) (s := w.heap.size) (N := j) (w2.alloc (.cells #[.string q.name, .int .i64 q.low, .int .i64 q.high] 71 (0, 0))) ty _ (V0.ev HV2 (Ev.of_below (s := w.heap.size) (B := B) (N := j) ((Below.refl _ _).alloc (Nat.le_refl _) _))) (by simp; omega) (by omega) ⟨w2.heap.size, 0, none⟩ 1 q hq.len (fun i u hu => by
        match i, hu with
        | 0, hu => simp [reqVals] at hu; subst hu; simp [Addr.add]
        | 1, hu => simp [reqVals] at hu; subst hu; simp [Addr.add]
        | 2, hu => simp [reqVals] at hu; subst hu; simp [Addr.add]))
      obtain ⟨v', w3, hrun, hV3, hE3, hlow, _⟩ := unhide HA 31
      have HRun := hide hrun
      have HW := hide ((W3.trans (Wrote.of_below ((Below.refl _ _).alloc (Nat.le_refl _) _))).ev hE3 (Nat.le_refl _))
      have HR := hide ((R2.alloc _).low hrl hE3.size hlow)
      clear hrun HA hE3 hlow
      go_wp2_with (at_builtin; refine wpList_append_run rfl _ _ _ rfl _ _ _ _ rfl rfl (unhide HRun) ?_)
      go_roundw
      case rel => exact ⟨k - 1, j + 1, by go_num, by omega, hV3, (unhide HR).more (by simp; omega), unhide HW⟩
      case measure => simp [intOf]; omega
    · have hk1 : ¬ (0 : Int) < (k : Int) := by omega
      go_wp2_with fail
      go_ret
      exact ⟨⟨_, rfl, SlBy.mono hV (fun b n hg => ⟨by have := hg.1; omega, hg.2⟩) (by omega)⟩, hR.more (by omega), hW⟩
end Go.Proofs.Ytecipjdbfmldlab
