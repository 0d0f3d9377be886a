/- What operations of a drawn region leave, by kinds; the state of a spoiling; one of some words. -/
import Derived.Test.YtecipjdbfmldlabDrawF
import Derived.Test.YtecipjdbfmldlabDrawH
import Derived.Deep.CutBlock
namespace Go.Proofs.Ytecipjdbfmldlab
set_option linter.unusedVariables false
set_option linter.unusedSimpArgs false
set_option maxRecDepth 10000
open Go.RowKit Go.Deep

inductive Kd where
  | eq (x : Value)
  | str
  | int
  | pick (n : Nat)
  | cells (n : Nat) (C : Array Value) (t : TypeId)
  | cellp (n : Nat) (C : Array Value) (t : TypeId)
  | req
  | req1
  | v0
  | row1
  | v1
  | pack
  | pack1
  | v2
  | v2p
  | gp
  | any

def kd (s L : Nat) : Kd → Nat → Value → World → Prop
  | .eq x, _, v, _ => v = x
  | .str, _, v, _ => ∃ t : ByteArray, v = .string t ∧ t.size ≤ maxLen
  | .int, _, v, _ => ∃ z : Int, v = .int .i64 z
  | .pick n, _, v, _ => ∃ r : Nat, v = .int .i64 r ∧ r < n
  | .cells n C t, _, v, w => ∃ g, v = .slice (some ⟨g, 0, none⟩) n n ∧ w.heap[g]? = some (.cells C t (0, 0)) ∧ Alien t
  | .cellp n C t, _, v, w => ∃ g i, v = .pointer (some ⟨g, i, none⟩) ∧ i < n ∧ w.heap[g]? = some (.cells C t (0, 0)) ∧ Alien t
  | .req, _, v, _ => ∃ q : ReqD, v = .agg #[.string q.name, .int .i64 q.low, .int .i64 q.high] ∧ q.name.size ≤ maxLen
  | .req1, _, v, w => ∃ g, v = .slice (some ⟨g, 0, none⟩) 1 1 ∧ G0 s w g 3
  | .v0, k, v, w => V0 s w (L + k) v
  | .row1, k, v, w => ∃ g, v = .slice (some ⟨g, 0, none⟩) 1 1 ∧ G1 s w (L + k) g 1
  | .v1, k, v, w => V1 s w (L + k) v
  | .pack, k, v, w => ∃ (x : ByteArray) (y z : Int) (v1 v2 v3 : Value), v = .agg #[.string x, .int .i64 y, .int .i64 z, v1, v2, v3] ∧ PackV s w (L + k) x (.int .i64 y) (.int .i64 z) v1 v2 v3
  | .pack1, k, v, w => ∃ g, v = .slice (some ⟨g, 0, none⟩) 1 1 ∧ G2 s w (L + k) g 6
  | .v2, k, v, w => V2 s w (L + k) v
  | .v2p, k, v, w => V2 s w (L + k) v ∧ ∃ g n c, v = .slice (some ⟨g, 0, none⟩) (n + 1) c
  | .gp, k, v, w => ∃ g n c, v = .pointer (some ⟨g, 0, none⟩) ∧ V2 s w (L + k) (.slice (some ⟨g, 0, none⟩) (n + 1) c)
  | .any, _, _, _ => True

theorem kd.on {B s L k : Nat} {K : Kd} {v : Value} {x y : World} (h : kd s L K k v x) (e : Ev B s (L + k) (L + (k + 1)) x y) : kd s L K (k + 1) v y := by
  cases K with
  | eq => exact h
  | str => exact h
  | int => exact h
  | pick => exact h
  | cells => obtain ⟨g, h1, h2, h3⟩ := h; exact ⟨g, h1, (e.other _ _ ⟨_, h2⟩ h3).trans h2, h3⟩
  | cellp => obtain ⟨g, i, h1, h0, h2, h3⟩ := h; exact ⟨g, i, h1, h0, (e.other _ _ ⟨_, h2⟩ h3).trans h2, h3⟩
  | req => exact h
  | req1 => obtain ⟨g, h1, h2⟩ := h; exact ⟨g, h1, e.g0 _ _ h2⟩
  | v0 => exact V0.ev h e
  | row1 => obtain ⟨g, h1, h2⟩ := h; exact ⟨g, h1, e.g1 _ _ h2⟩
  | v1 => exact V1.ev h e
  | pack => obtain ⟨x, y, z, v1, v2, v3, h1, h2⟩ := h; exact ⟨x, y, z, v1, v2, v3, h1, h2.ev e⟩
  | pack1 => obtain ⟨g, h1, h2⟩ := h; exact ⟨g, h1, e.g2 _ _ h2⟩
  | v2 => exact V2.ev h e
  | v2p => exact ⟨V2.ev h.1 e, h.2⟩
  | gp => obtain ⟨g, n, c, h1, h2⟩ := h; exact ⟨g, n, c, h1, V2.ev h2 e⟩
  | any => trivial

def soft : Kd → Prop
  | .cells _ _ _ => False
  | .cellp _ _ _ => False
  | _ => True
theorem kd.apart {s L k b0 i : Nat} {K : Kd} {v u : Value} {x : World} (hK : soft K) (h : kd s L K k v x) (hb : CellsOf x b0 25) : kd s L K (k + 1) v (x.setCell ⟨b0, i, none⟩ u) := by
  have keep : ∀ {b : Nat} {t : TypeId}, CellsOf x b t → t ≠ 25 → (x.setCell ⟨b0, i, none⟩ u).heap[b]? = x.heap[b]? := fun {b t} hc ht => blk_setCell_other _ _ _ _ (show b ≠ b0 from fun e => ht (by subst e; exact hc.one hb))
  have le : L + k ≤ L + (k + 1) := by omega
  have g0 : ∀ b n, G0 s x b n → G0 s (x.setCell ⟨b0, i, none⟩ u) b n := fun b n h => GoodBy.mono h (keep (GoodBy.cells h) (by decide)) fun _ _ h => h
  have g1 : ∀ b n, G1 s x (L + k) b n → G1 s (x.setCell ⟨b0, i, none⟩ u) (L + (k + 1)) b n := fun b n h => GoodBy.mono h (keep (GoodBy.cells h) (by decide)) fun _ _ h => SlBy.mono h g0 le
  have g2 : ∀ b n, G2 s x (L + k) b n → G2 s (x.setCell ⟨b0, i, none⟩ u) (L + (k + 1)) b n := fun b n h => GoodBy.mono h (keep (GoodBy.cells h) (by decide)) fun _ _ h => ⟨h.name, h.nums, fun e => SlBy.mono (h.deps e) g1 le, fun e => SlBy.mono (h.reqs e) g0 le⟩
  cases K with
  | eq => exact h
  | str => exact h
  | int => exact h
  | pick => exact h
  | cells => exact hK.elim
  | cellp => exact hK.elim
  | req => exact h
  | req1 => obtain ⟨g, h1, h2⟩ := h; exact ⟨g, h1, g0 _ _ h2⟩
  | v0 => exact SlBy.mono h g0 le
  | row1 => obtain ⟨g, h1, h2⟩ := h; exact ⟨g, h1, g1 _ _ h2⟩
  | v1 => exact SlBy.mono h g1 le
  | pack => obtain ⟨x, y, z, v1, v2, v3, h1, h2⟩ := h; exact ⟨x, y, z, v1, v2, v3, h1, h2.len, h2.ver, h2.size, SlBy.mono h2.deps g1 le, SlBy.mono h2.pres g0 le, SlBy.mono h2.bans g0 le⟩
  | pack1 => obtain ⟨g, h1, h2⟩ := h; exact ⟨g, h1, g2 _ _ h2⟩
  | v2 => exact SlBy.mono h g2 le
  | v2p => exact ⟨SlBy.mono h.1 g2 le, h.2⟩
  | gp => obtain ⟨g, n, c, h1, h2⟩ := h; exact ⟨g, n, c, h1, SlBy.mono h2 g2 le⟩
  | any => trivial

/-- In the midst of a spoiling: the packs' variable at block ob, the result's at block rs. -/
structure SE (B rb s ob rs : Nat) (w0 : World) (N0 : Nat) (v : Value) (room : Int) (N : Nat) (m : Int) (x : World) : Prop where
  box : x.heap[ob]? = some (repoCells v room)
  val : V2 s x N v
  res : x.heap[rs]? = some (repoCells (.slice none 0 0) 0)
  rd : Rd B x rb m
  ev : Ev B s N0 N w0 x
theorem SE.step {B rb s ob rs N0 N N' : Nat} {w0 x y : World} {v : Value} {room m m' : Int} (h : SE B rb s ob rs w0 N0 v room N m x) (e : Ev B s N N' x y) (hr : Rd B y rb m') : SE B rb s ob rs w0 N0 v room N' m' y :=
  ⟨(e.other _ _ ⟨_, h.box⟩ alienRepo).trans h.box, h.val.ev e, (e.other _ _ ⟨_, h.res⟩ alienRepo).trans h.res, hr, h.ev.trans e⟩
/-- A block of its own of another kind is written. -/
theorem Ev.own {B s N0 N b0 i : Nat} {w0 x : World} {u : Value} (h : Ev B s N0 N w0 x) (hb : CellsOf x b0 25) (h0 : w0.heap.size ≤ b0) : Ev B s N0 N w0 (x.setCell ⟨b0, i, none⟩ u) := by
  have keep : ∀ {b : Nat} {t : TypeId}, CellsOf x b t → t ≠ 25 → (x.setCell ⟨b0, i, none⟩ u).heap[b]? = x.heap[b]? := fun {b t} hc ht => blk_setCell_other _ _ _ _ (show b ≠ b0 from fun e => ht (by subst e; exact hc.one hb))
  have old : ∀ b, b < w0.heap.size → (x.setCell ⟨b0, i, none⟩ u).heap[b]? = x.heap[b]? := fun b hb' => blk_setCell_other _ _ _ _ (show b ≠ b0 by omega)
  have g0 : ∀ b n, G0 s x b n → G0 s (x.setCell ⟨b0, i, none⟩ u) b n := fun b n h => GoodBy.mono h (keep (GoodBy.cells h) (by decide)) fun _ _ h => h
  have g1 : ∀ b n, G1 s x N b n → G1 s (x.setCell ⟨b0, i, none⟩ u) N b n := fun b n h => GoodBy.mono h (keep (GoodBy.cells h) (by decide)) fun _ _ h => SlBy.mono h g0 (Nat.le_refl _)
  have g2 : ∀ b n, G2 s x N b n → G2 s (x.setCell ⟨b0, i, none⟩ u) N b n := fun b n h => GoodBy.mono h (keep (GoodBy.cells h) (by decide)) fun _ _ h => ⟨h.name, h.nums, fun e => SlBy.mono (h.deps e) g1 (Nat.le_refl _), fun e => SlBy.mono (h.reqs e) g0 (Nat.le_refl _)⟩
  exact ⟨h.os, h.tape, h.output, by simpa using h.size, fun b hb' hs hc => (old b hb').trans (h.old b hb' hs hc), fun b n hr => (h.rd b n hr).of_block (old b hr.lt), fun b t hc ht => (old b hc.lt).trans (h.other b t hc ht), h.le, fun b n hg => g0 _ _ (h.g0 b n hg), fun b n hg => g1 _ _ (h.g1 b n hg), fun b n hg => g2 _ _ (h.g2 b n hg)⟩
theorem SE.put {B rb s ob rs N0 N : Nat} {w0 x : World} {v v' : Value} {room m : Int} (h : SE B rb s ob rs w0 N0 v room N m x) (hv : V2 s x N v') (h2 : w0.heap.size ≤ ob) (h4 : rs ≠ ob) (hB : B ≤ rb) (hr : rb < w0.heap.size) : SE B rb s ob rs w0 N0 v' room N m (x.setCell ⟨ob, 0, none⟩ v') :=
  ⟨by rw [blk_set h.box 0 _]; rfl, hv.apart ⟨_, h.box⟩, (blk_setCell_other _ _ _ _ h4).trans h.res, h.rd.set (by omega) (by omega) _ _, h.ev.own ⟨_, h.box⟩ h2⟩
theorem SE.putRoom {B rb s ob rs N0 N : Nat} {w0 x : World} {v : Value} {room m : Int} (h : SE B rb s ob rs w0 N0 v room N m x) (room' : Int) (h2 : w0.heap.size ≤ ob) (h4 : rs ≠ ob) (hB : B ≤ rb) (hr : rb < w0.heap.size) : SE B rb s ob rs w0 N0 v room' N m (x.setCell ⟨ob, 1, none⟩ (.int .i64 room')) :=
  ⟨by rw [blk_set h.box 1 _]; rfl, h.val.apart ⟨_, h.box⟩, (blk_setCell_other _ _ _ _ h4).trans h.res, h.rd.set (by omega) (by omega) _ _, h.ev.own ⟨_, h.box⟩ h2⟩
theorem SE.fin {B rb s ob rs N0 N : Nat} {w x : World} {v : Value} {room m : Int} (h : SE B rb s ob rs w N0 v room N m x) (h2 : w.heap.size ≤ rs) (hB : B ≤ rb) (hr : rb < w.heap.size) :
    let y := (x.setCell ⟨rs, 0, none⟩ v).setCell ⟨rs, 1, none⟩ (.int .i64 room)
    V2 s y N v ∧ Rd B y rb m ∧ Ev B s N0 N w y ∧ y.cell? ⟨rs, 0, none⟩ = some v ∧ y.cell? ⟨rs, 1, none⟩ = some (.int .i64 room) := by
  intro y
  have h1 := blk_set h.res 0 v
  have hy : y.heap[rs]? = some (repoCells v room) := by
    show ((x.setCell ⟨rs, 0, none⟩ v).setCell ⟨rs, 1, none⟩ (.int .i64 room)).heap[rs]? = _
    rw [blk_set h1 1 _]; rfl
  obtain ⟨c0, c1, _⟩ := two hy
  exact ⟨(h.val.apart ⟨_, h.res⟩).apart ⟨_, h1⟩, (h.rd.set (by omega) (by omega) _ _).set (by omega) (by omega) _ _, (h.ev.own ⟨_, h.res⟩ h2).own ⟨_, h1⟩ h2, c0, c1⟩

set_option maxHeartbeats 1000000 in
theorem of_any (B rb : Nat) (m : Int) (w : World) (h : Rd B w rb m) (hm : m ≤ 1000000) (g n : Nat) (hn : 0 < n) (hn2 : n ≤ 1000) (C : Array Value) (hC : w.heap[g]? = some (.cells C 9 (0, 0))) (hC2 : C.size = n) (hk : ∀ (i : Nat) v, C[i]? = some v → OKs v) :
    Calls Try.prog 62 #[.pointer (some ⟨rb, 0, none⟩), .slice (some ⟨g, 0, none⟩) n n] w fun e w' => (∃ t : ByteArray, e = .returned (.string t) ∧ t.size ≤ maxLen) ∧ Rd B w' rb (m + 1) ∧ Wrote B isRd w w' := by
  go_enter Try.func62, Try.ntmps62
  go_wp2_with fail
  refine (pick_any B rb _ n _ h hm (by omega) (by omega)).mono ?_
  rintro e w1 ⟨⟨r, rfl, hr0, hr1⟩, R1, W1⟩
  have hC' := W1.blk hC strNotRd
  obtain ⟨r, rfl⟩ : ∃ k : Nat, r = k := ⟨r.toNat, by omega⟩
  have hlt : r < C.size := by omega
  obtain ⟨t, ht, htl⟩ := hk r C[r] (by simp [hlt])
  have hc : w1.cell? ⟨g, r, none⟩ = some (.string t) := by rw [cell_of_row w1 g r C _ _ hC', ← ht]; simp [hlt]
  clear hC hC' hk ht
  go_wp2_with fail
  go_ret
  exact ⟨⟨_, rfl, htl⟩, R1, W1⟩
end Go.Proofs.Ytecipjdbfmldlab
