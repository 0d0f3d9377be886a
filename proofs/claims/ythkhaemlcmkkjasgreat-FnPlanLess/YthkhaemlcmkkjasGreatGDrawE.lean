/- The specification's drawn rows of requests, as slices of good blocks. Good blocks opened and written: one request, one row, one pack; the state of a drawing. -/
import Derived.Test.YthkhaemlcmkkjasGreatGGood
namespace Go.Proofs.YthkhaemlcmkkjasGreat
set_option linter.unusedVariables false
set_option linter.unusedSimpArgs false
set_option maxRecDepth 10000
open Go.RowKit Go.Deep

theorem wp_append_run {P : Program} {o : Oper} {a : Act} {w : World} {K : Act → World → Prop} {Q : Exit → Act → World → Prop} (s x : Operand) (t : TypeId)
    (ho : o.op = .call { callee := .builtin .append, args := #[s, x], argTypes := #[t, t] }) (v u v' : Value) (w' : World) (hs : a.eval s = v) (hx : a.eval x = u)
    (hr : (Builtin.append_ #[t, t] o.type #[v, u]).run P w = .ok v' w') (h : K (a.put o.dst v') w') : o.wp P a w K Q := by
  unfold Oper.wp execOp
  simp only [ho, resolve, invoke, builtin, Sem.run_bind, Sem.run_pure, Result.andThen_ok, List.map_toArray, List.map_cons, List.map_nil, hs, hx, hr]
  exact h
theorem wpList_append_run {P : Program} {ops : Array Oper} {rest : List Oper} {o : Oper} {a : Act} {w : World} {Q : Exit → Act → World → Prop} (hgd : o.guard = none) (s x : Operand) (t : TypeId)
    (ho : o.op = .call { callee := .builtin .append, args := #[s, x], argTypes := #[t, t] }) (v u v' : Value) (w' : World) (hs : a.eval s = v) (hx : a.eval x = u)
    (hr : (Builtin.append_ #[t, t] o.type #[v, u]).run P w = .ok v' w') (h : wpList P ops Q rest (a.put o.dst v') w') : wpList P ops Q (o :: rest) a w :=
  wpList_plain hgd fun _ hK => wp_append_run s x t ho v u v' w' hs hx hr (hK _ _ h)

/-- Where all below s is as it was the reader is. -/
theorem Rd.low {B s : Nat} {w w' : World} {rb : Nat} {m : Int} (h : Rd B w rb m) (hs : rb < s) (hz : w.heap.size ≤ w'.heap.size) (hb : ∀ b, b < s → w'.heap[b]? = w.heap[b]?) : Rd B w' rb m :=
  h.on hz (fun b hb' => hb b (by have := h.past; omega)) (hb rb hs)
theorem Wrote.ev {B s N N' : Nat} {a w w' : World} (h : Wrote B isRd a w) (e : Ev B s N N' w w') (hs : a.heap.size ≤ s) : Wrote B isRd a w' :=
  ⟨e.os.trans h.os, e.tape.trans h.tape, e.output.trans h.output, Nat.le_trans h.size e.size,
   fun b hb hc => by
     have e1 := h.block b hb hc
     exact (e.old b (Nat.lt_of_lt_of_le hb h.size) (by omega) (hc.imp id fun hn hr => hn _ rfl (hr.of_block e1.symm))).trans e1,
   fun b t n hr => by
     have h1 := h.shape b t n hr
     by_cases ht : t = 70
     · subst ht; exact e.rd b n h1
     · exact h1.of_block (e.old b h1.lt (by have := hr.lt; omega) (Or.inr fun hc => ht (CellsOf.one h1.cells hc)))⟩

set_option maxHeartbeats 2000000 in
/-- Rows of drawn requests: a slice of good blocks from s on, for every s from the call's own memory down to one past the reader. -/
theorem l71Reqs_V (B rb s : Nat) (m : Int) (most : Int) (w : World) (h : Rd B w rb m) (hm : m ≤ 90000) (h0 : 0 ≤ most) (h2 : most ≤ 2) (hs : s ≤ w.heap.size) :
    Calls Tryz.prog 47 #[.pointer (some ⟨rb, 0, none⟩), .int .i64 most] w fun e w' => (∃ v : Value, e = .returned v ∧ V0 s w' 2 v) ∧ Rd B w' rb (m + 50) ∧ Wrote B isRd w w' := by
  have hrl := h.lt
  have h1 := h.alloc (.cells #[] 97 (0, 0))
  have W1 : Wrote B isRd w (w.alloc (.cells #[] 97 (0, 0))) := Wrote.of_below ((Below.refl _ _).alloc (Nat.le_refl _) _)
  have O1 : V0 w.heap.size (w.alloc (.cells #[] 97 (0, 0))) 0 (.slice (some ⟨w.heap.size, 0, none⟩) 0 0) :=
    Or.inr ⟨w.heap.size, 0, 0, rfl, Nat.le_refl _, Nat.le_refl _, Nat.zero_le _, Nat.le_refl _, #[], blk_alloc_new _ _, rfl, fun i v hv => by simp at hv⟩
  have hmo := wr64 (most + 1) (by omega)
  go_enter Tryz.func47, Tryz.ntmps47
  go_wp2_with fail
  refine (pick_any B rb _ (most + 1) _ h1 (by omega) (by omega) (by omega)).mono ?_
  rintro e w1 ⟨⟨r, rfl, hr0, hr1⟩, R1, V1⟩
  have O2 := V0.ev O1 (Ev.of_wrote (s := w.heap.size) (N := 0) V1)
  have W2 := W1.trans V1
  obtain ⟨r, rfl⟩ : ∃ n : Nat, r = n := ⟨r.toNat, by omega⟩
  clear O1 V1 W1 h1
  go_wp2_with fail
  go_loopw [5, 6] (fun v i wr => ∃ k j : Nat, i = .int .i64 k ∧ k + j ≤ 2 ∧ V0 w.heap.size wr j v ∧ Rd B wr rb (m + 1 + 20 * j) ∧ Wrote B isRd w wr) (fun _ i _ => (intOf i).toNat)
  case atStart => exact ⟨r, 0, rfl, by omega, O2, by simpa using R1, W2⟩
  case round =>
    rename World => wo
    obtain ⟨k, j, rfl, hk, hV, hR, hW⟩ := hrel
    by_cases hk0 : 0 < k
    · have hk1 : (0 : Int) < (k : Int) := by omega
      go_wp2_with fail
      refine (l71Req_any B rb _ _ hR (by omega)).mono ?_
      rintro e w2 ⟨⟨q, rfl, hq⟩, R2, V2⟩
      have HV2 := V0.ev hV (Ev.of_wrote (s := w.heap.size) (N := j) V2)
      have W3 := hW.trans V2
      have hz := W3.size
      have HA := hide (fun ty => append_V0 (B := B) (s := w.heap.size) (N := j) (w2.alloc (.cells #[.string q.name, .int .i64 q.low, .int .i64 q.high] 97 (0, 0))) ty _ (V0.ev HV2 (Ev.of_below (s := w.heap.size) (B := B) (N := j) ((Below.refl _ _).alloc (Nat.le_refl _) _))) (by simp; omega) (by omega) ⟨w2.heap.size, 0, none⟩ 1 q hq.len (fun i u hu => by
        match i, hu with
        | 0, hu => simp [reqVals] at hu; subst hu; simp [Addr.add]
        | 1, hu => simp [reqVals] at hu; subst hu; simp [Addr.add]
        | 2, hu => simp [reqVals] at hu; subst hu; simp [Addr.add]))
      obtain ⟨v', w3, hrun, hV3, hE3, hlow, _⟩ := unhide HA 64
      have HRun := hide hrun
      have HW := hide ((W3.trans (Wrote.of_below ((Below.refl _ _).alloc (Nat.le_refl _) _))).ev hE3 (Nat.le_refl _))
      have HR := hide ((R2.alloc _).low hrl hE3.size hlow)
      clear hrun HA hE3 hlow
      go_wp2_with (at_builtin; refine wpList_append_run rfl _ _ _ rfl _ _ _ _ rfl rfl (unhide HRun) ?_)
      go_roundw
      case rel => exact ⟨k - 1, j + 1, by go_num, by omega, hV3, (unhide HR).more (by simp; omega), unhide HW⟩
      case measure => simp [intOf]; omega
    · have hk1 : ¬ (0 : Int) < (k : Int) := by omega
      go_wp2_with fail
      go_ret
      exact ⟨⟨_, rfl, SlBy.mono hV (fun b n hg => ⟨by have := hg.1; omega, hg.2⟩) (by omega)⟩, hR.more (by omega), hW⟩
end Go.Proofs.YthkhaemlcmkkjasGreat

namespace Go.Proofs.YthkhaemlcmkkjasGreat
set_option linter.unusedVariables false
set_option linter.unusedSimpArgs false
set_option maxRecDepth 10000
open Go.RowKit Go.Deep

theorem arr1 {C : Array Value} (h : C.size = 1) : ∃ a, C = #[a] := by
  obtain ⟨l⟩ := C
  match l, h with
  | [a], _ => exact ⟨a, rfl⟩
theorem arr3 {C : Array Value} (h : C.size = 3) : ∃ a b c, C = #[a, b, c] := by
  obtain ⟨l⟩ := C
  match l, h with
  | [a, b, c], _ => exact ⟨a, b, c, rfl⟩
theorem arr6 {C : Array Value} (h : C.size = 6) : ∃ a b c d e f, C = #[a, b, c, d, e, f] := by
  obtain ⟨l⟩ := C
  match l, h with
  | [a, b, c, d, e, f], _ => exact ⟨a, b, c, d, e, f, rfl⟩

theorem G0.one {s : Nat} {w : World} {g : Nat} (h : G0 s w g 3) : ∃ q : ReqD, w.heap[g]? = some (reqCells q) ∧ q.name.size ≤ maxLen := by
  obtain ⟨hs, C, hC, hn, hk⟩ := h
  obtain ⟨a, b, c, rfl⟩ := arr3 hn
  obtain ⟨x, rfl, hx⟩ := (hk 0 a rfl).1 rfl
  obtain ⟨y, rfl⟩ := (hk 1 b rfl).2 (by decide)
  obtain ⟨z, rfl⟩ := (hk 2 c rfl).2 (by decide)
  exact ⟨⟨x, y, z⟩, hC, hx⟩
theorem G0.of {s : Nat} {w : World} {g : Nat} {q : ReqD} (hs : s ≤ g) (h : w.heap[g]? = some (reqCells q)) (hq : q.name.size ≤ maxLen) : G0 s w g 3 := by
  refine ⟨hs, _, h, rfl, fun i v hv => ?_⟩
  match i, hv with
  | 0, hv => simp at hv; subst hv; exact ⟨fun _ => ⟨_, rfl, hq⟩, fun h => absurd (by omega) h⟩
  | 1, hv => simp at hv; subst hv; exact ⟨fun h => absurd h (by omega), fun _ => ⟨_, rfl⟩⟩
  | 2, hv => simp at hv; subst hv; exact ⟨fun h => absurd h (by omega), fun _ => ⟨_, rfl⟩⟩
theorem G1.one {s N : Nat} {w : World} {g : Nat} (h : G1 s w N g 1) : ∃ u, w.heap[g]? = some (.cells #[u] 64 (0, 0)) ∧ V0 s w N u := by
  obtain ⟨hs, C, hC, hn, hk⟩ := h
  obtain ⟨a, rfl⟩ := arr1 hn
  exact ⟨a, hC, hk 0 a rfl⟩
theorem G1.of {s N : Nat} {w : World} {g : Nat} {u : Value} (hs : s ≤ g) (h : w.heap[g]? = some (.cells #[u] 64 (0, 0))) (hu : V0 s w N u) : G1 s w N g 1 := by
  refine ⟨hs, _, h, rfl, fun i v hv => ?_⟩
  match i, hv with
  | 0, hv => simp at hv; subst hv; exact hu
theorem G2.six {s N : Nat} {w : World} {g : Nat} (h : G2 s w N g 6) :
    ∃ (x : ByteArray) (y z : Int) (v1 v2 v3 : Value), w.heap[g]? = some (.cells #[.string x, .int .i64 y, .int .i64 z, v1, v2, v3] 66 (0, 0)) ∧ PackV s w N x (.int .i64 y) (.int .i64 z) v1 v2 v3 := by
  obtain ⟨hs, C, hC, hn, hk⟩ := h
  obtain ⟨a, b, c, d, e, f, rfl⟩ := arr6 hn
  obtain ⟨x, rfl, hx⟩ := (hk 0 a rfl).name rfl
  obtain ⟨y, rfl⟩ := (hk 1 b rfl).nums (by simp)
  obtain ⟨z, rfl⟩ := (hk 2 c rfl).nums (by simp)
  exact ⟨x, y, z, d, e, f, hC, hx, ⟨y, rfl⟩, ⟨z, rfl⟩, (hk 3 d rfl).deps rfl, (hk 4 e rfl).reqs (by simp), (hk 5 f rfl).reqs (by simp)⟩
theorem PackV.at {s N : Nat} {w : World} {x : ByteArray} {a b v1 v2 v3 : Value} (h : PackV s w N x a b v1 v2 v3) : ∀ (j : Nat) u, #[.string x, a, b, v1, v2, v3][j]? = some u → OK2 s w N j u := by
  intro j u hu
  have := h.ok j u (by simpa using hu) 0
  simpa using this
theorem G2.of {s N : Nat} {w : World} {g : Nat} {x : ByteArray} {a b v1 v2 v3 : Value} (hs : s ≤ g) (h : w.heap[g]? = some (.cells #[.string x, a, b, v1, v2, v3] 66 (0, 0))) (hp : PackV s w N x a b v1 v2 v3) : G2 s w N g 6 :=
  ⟨hs, _, h, rfl, hp.at⟩
theorem SlBy.slice {G : Nat → Nat → Prop} {size N : Nat} {v : Value} (h : SlBy G size N v) : ∃ (a : Option Addr) (n c : Nat), v = .slice a n c ∧ n ≤ c ∧ n ≤ N ∧ c ≤ maxLen := by
  rcases h with rfl | ⟨g, n, cap, hv, h1, h2, h3, _⟩
  · exact ⟨none, 0, 0, rfl, Nat.le_refl _, Nat.zero_le _, Nat.zero_le _⟩
  · exact ⟨_, n, cap, hv, h1, h2, h3⟩
theorem SlBy.oneCell {G : Nat → Nat → Prop} {size N : Nat} {v : Value} (h : SlBy G size N v) : v.oneCell' = true := by
  obtain ⟨a, n, c, rfl, _⟩ := h.slice
  rfl

/-- One cell of a block of packs is written. -/
theorem Ev.packCell {B s N : Nat} {x : World} {g n j : Nat} {v : Value} (h : G2 s x N g n) (hv : OK2 s x N j v) : Ev B s N N x (x.setCell ⟨g, j, none⟩ v) := by
  obtain ⟨hs, C, hC, hn, hk⟩ := h
  refine Ev.of_row (by unfold Alien; decide) hs (Nat.le_refl _) hC (blk_set hC j v) (by simp) rfl rfl rfl (by simp) (fun b hb _ => blk_setCell_other _ _ _ _ hb) (fun h => absurd h (by decide)) (fun h => absurd h (by decide)) fun _ h0 h1 _ i u hu => ?_
  have up : ∀ u i, OK2 s x N i u → OK2 s (x.setCell ⟨g, j, none⟩ v) N i u := fun u i h => ⟨h.name, h.nums, fun e => SlBy.mono (h.deps e) h1 (Nat.le_refl _), fun e => SlBy.mono (h.reqs e) h0 (Nat.le_refl _)⟩
  rw [Array.getElem?_setIfInBounds] at hu
  split at hu
  · rename_i e
    split at hu
    · cases hu
      subst e
      exact up _ _ hv
    · cases hu
  · exact up _ _ (hk i u hu)
theorem Ev.pack {B s N : Nat} {x : World} {g : Nat} {t : ByteArray} {a b v1 v2 v3 : Value} (h : G2 s x N g 6) (hp : PackV s x N t a b v1 v2 v3) :
    Ev B s N N x ((((((x.setCell ⟨g, 0, none⟩ (.string t)).setCell ⟨g, 1, none⟩ a).setCell ⟨g, 2, none⟩ b).setCell ⟨g, 3, none⟩ v1).setCell ⟨g, 4, none⟩ v2).setCell ⟨g, 5, none⟩ v3) := by
  have e0 := Ev.packCell (B := B) h (j := 0) (v := .string t) (hp.at 0 _ rfl)
  have h1 := e0.g2 _ _ h
  have e1 := Ev.packCell (B := B) h1 (j := 1) (v := a) ((hp.at 1 _ rfl).ev e0)
  have h2 := e1.g2 _ _ h1
  have e2 := Ev.packCell (B := B) h2 (j := 2) (v := b) (((hp.at 2 _ rfl).ev e0).ev e1)
  have h3 := e2.g2 _ _ h2
  have E2 := (e0.trans e1).trans e2
  have e3 := Ev.packCell (B := B) h3 (j := 3) (v := v1) ((hp.at 3 _ rfl).ev E2)
  have h4 := e3.g2 _ _ h3
  have E3 := E2.trans e3
  have e4 := Ev.packCell (B := B) h4 (j := 4) (v := v2) ((hp.at 4 _ rfl).ev E3)
  have h5 := e4.g2 _ _ h4
  have E4 := E3.trans e4
  have e5 := Ev.packCell (B := B) h5 (j := 5) (v := v3) ((hp.at 5 _ rfl).ev E4)
  exact E4.trans e5

theorem V2.lower {s s' N : Nat} {x y : World} {v : Value} (h : V2 s x N v) (hs : s' ≤ s) (hb : ∀ b, s ≤ b → y.heap[b]? = x.heap[b]?) : V2 s' y N v := by
  have g0 : ∀ b n, G0 s x b n → G0 s' y b n := fun b n h => by
    obtain ⟨h1, C, hC, h2⟩ := h
    exact ⟨by omega, C, (hb b h1).trans hC, h2⟩
  have v0 : ∀ v, V0 s x N v → V0 s' y N v := fun v h => SlBy.mono h g0 (Nat.le_refl _)
  have g1 : ∀ b n, G1 s x N b n → G1 s' y N b n := fun b n h => by
    obtain ⟨h1, C, hC, h2, h3⟩ := h
    exact ⟨by omega, C, (hb b h1).trans hC, h2, fun i v hv => v0 _ (h3 i v hv)⟩
  have v1 : ∀ v, V1 s x N v → V1 s' y N v := fun v h => SlBy.mono h g1 (Nat.le_refl _)
  refine SlBy.mono h (fun b n h => ?_) (Nat.le_refl _)
  obtain ⟨h1, C, hC, h2, h3⟩ := h
  exact ⟨by omega, C, (hb b h1).trans hC, h2, fun i v hv => ⟨(h3 i v hv).name, (h3 i v hv).nums, fun e => v1 _ ((h3 i v hv).deps e), fun e => v0 _ ((h3 i v hv).reqs e)⟩⟩
theorem Wrote.own {B : Nat} {ts : TypeId → Prop} {a w w' : World} (h : Wrote B ts a w) (hb : Below a.heap.size w w') : Wrote B ts a w' :=
  ⟨hb.os.trans h.os, hb.tape.trans h.tape, hb.output.trans h.output, Nat.le_trans h.size hb.size, fun b hb' hc => (hb.block b hb').trans (h.block b hb' hc), fun b t n hr => (h.shape b t n hr).of_block (hb.block b hr.lt)⟩

theorem repoNotRd : (25 : TypeId) ≠ 70 := by decide
def repoCells (v : Value) (room : Int) : Obj := .cells #[v, .int .i64 room] 25 (0, 0)
/-- In the midst of a drawing of packs: the answer's variable at block ob, the result's at block rs. -/
structure St (B rb s ob rs : Nat) (w0 : World) (N : Nat) (m : Int) (x : World) : Prop where
  out : ∃ (a : Option Addr) (n c : Nat) (room : Int), x.heap[ob]? = some (repoCells (.slice a n c) room) ∧ V2 s x N (.slice a n c)
  res : x.heap[rs]? = some (repoCells (.slice none 0 0) 0)
  rd : Rd B x rb m
  wr : Wrote B isRd w0 x
  size : s ≤ x.heap.size
theorem St.step {B rb s ob rs N N' : Nat} {w0 x y : World} {m m' : Int} (h : St B rb s ob rs w0 N m x) (e : Ev B s N N' x y) (hr : Rd B y rb m') (h1 : ob < s) (h2 : rs < s) (h3 : w0.heap.size ≤ s) : St B rb s ob rs w0 N' m' y := by
  obtain ⟨⟨a, n, c, room, ho, hv⟩, hz, hR, hW, hs⟩ := h
  exact ⟨⟨a, n, c, room, (e.old ob (Array.getElem?_eq_some_iff.1 ho).1 h1 (Or.inr fun hc => repoNotRd (CellsOf.one ⟨_, ho⟩ hc))).trans ho, hv.ev e⟩,
    (e.old _ (Array.getElem?_eq_some_iff.1 hz).1 h2 (Or.inr fun hc => repoNotRd (CellsOf.one ⟨_, hz⟩ hc))).trans hz, hr, hW.ev e h3, Nat.le_trans hs e.size⟩
/-- The same, with what the variable holds. -/
structure SB (B rb s ob rs : Nat) (w0 : World) (v : Value) (room : Int) (N : Nat) (m : Int) (x : World) : Prop where
  box : x.heap[ob]? = some (repoCells v room)
  val : V2 s x N v
  res : x.heap[rs]? = some (repoCells (.slice none 0 0) 0)
  rd : Rd B x rb m
  wr : Wrote B isRd w0 x
  size : s ≤ x.heap.size
theorem SB.step {B rb s ob rs N N' : Nat} {w0 x y : World} {v : Value} {room m m' : Int} (h : SB B rb s ob rs w0 v room N m x) (e : Ev B s N N' x y) (hr : Rd B y rb m') (h1 : ob < s) (h2 : rs < s) (h3 : w0.heap.size ≤ s) : SB B rb s ob rs w0 v room N' m' y :=
  ⟨(e.old ob (Array.getElem?_eq_some_iff.1 h.box).1 h1 (Or.inr fun hc => repoNotRd (CellsOf.one ⟨_, h.box⟩ hc))).trans h.box, h.val.ev e,
    (e.old _ (Array.getElem?_eq_some_iff.1 h.res).1 h2 (Or.inr fun hc => repoNotRd (CellsOf.one ⟨_, h.res⟩ hc))).trans h.res, hr, h.wr.ev e h3, Nat.le_trans h.size e.size⟩
/-- The variable is written. -/
theorem SB.put {B rb s ob rs N : Nat} {w0 x : World} {v v' : Value} {room m : Int} (h : SB B rb s ob rs w0 v room N m x) (hv : V2 s x N v') (h1 : ob < s) (h2 : w0.heap.size ≤ ob) (h4 : rs ≠ ob) (hB : B ≤ rb) (hr : rb < w0.heap.size) : SB B rb s ob rs w0 v' room N m (x.setCell ⟨ob, 0, none⟩ v') := by
  have hob : ∀ b, b ≠ ob → (x.setCell ⟨ob, 0, none⟩ v').heap[b]? = x.heap[b]? := fun b hb => blk_setCell_other _ _ _ _ hb
  refine ⟨by rw [blk_set h.box 0 _]; rfl, hv.lower (Nat.le_refl _) fun b hb => hob b (by omega), (hob _ h4).trans h.res, h.rd.set (by omega) (by omega) _ _, h.wr.own ?_, by simpa using h.size⟩
  refine Below.setCell (Below.refl _ _) ?_ _
  exact h2
theorem SB.putRoom {B rb s ob rs N : Nat} {w0 x : World} {v : Value} {room m : Int} (h : SB B rb s ob rs w0 v room N m x) (room' : Int) (h1 : ob < s) (h2 : w0.heap.size ≤ ob) (h4 : rs ≠ ob) (hB : B ≤ rb) (hr : rb < w0.heap.size) : SB B rb s ob rs w0 v room' N m (x.setCell ⟨ob, 1, none⟩ (.int .i64 room')) := by
  have hob : ∀ b, b ≠ ob → (x.setCell ⟨ob, 1, none⟩ (.int .i64 room')).heap[b]? = x.heap[b]? := fun b hb => blk_setCell_other _ _ _ _ hb
  refine ⟨by rw [blk_set h.box 1 _]; rfl, h.val.lower (Nat.le_refl _) fun b hb => hob b (by omega), (hob _ h4).trans h.res, h.rd.set (by omega) (by omega) _ _, h.wr.own ?_, by simpa using h.size⟩
  refine Below.setCell (Below.refl _ _) ?_ _
  exact h2
/-- The result is written, and handed out. -/
theorem SB.fin {B rb s ob rs N : Nat} {w x : World} {v : Value} {room m : Int} (h : SB B rb s ob rs w v room N m x) (s' : Nat) (h1 : rs < s) (h2 : w.heap.size ≤ rs) (hs' : s' ≤ s) (hB : B ≤ rb) (hr : rb < w.heap.size) :
    let y := (x.setCell ⟨rs, 0, none⟩ v).setCell ⟨rs, 1, none⟩ (.int .i64 room)
    V2 s' y N v ∧ Rd B y rb m ∧ Wrote B isRd w y ∧ y.cell? ⟨rs, 0, none⟩ = some v ∧ y.cell? ⟨rs, 1, none⟩ = some (.int .i64 room) := by
  intro y
  have hy : y.heap[rs]? = some (repoCells v room) := by
    show ((x.setCell ⟨rs, 0, none⟩ v).setCell ⟨rs, 1, none⟩ (.int .i64 room)).heap[rs]? = _
    rw [blk_set (blk_set h.res 0 _) 1 _]; rfl
  obtain ⟨c0, c1, _⟩ := two hy
  refine ⟨h.val.lower hs' (fun b hb => (blk_setCell_other _ _ _ _ (by show b ≠ rs; omega)).trans (blk_setCell_other _ _ _ _ (by show b ≠ rs; omega))), ?_, ?_, c0, c1⟩
  · exact (h.rd.set (by omega) (by omega) _ _).set (by omega) (by omega) _ _
  · refine h.wr.own ?_
    show Below w.heap.size x ((x.setCell ⟨rs, 0, none⟩ v).setCell ⟨rs, 1, none⟩ (.int .i64 room))
    refine Below.setCell (Below.setCell (Below.refl _ _) ?_ _) ?_ _
    · exact h2
    · exact h2
end Go.Proofs.YthkhaemlcmkkjasGreat
