/- A slice copied by append onto an empty one; the specification's copies of drawn packs. The specification's copies of drawn packs. What operations of a drawn region leave, by kinds; the state of a spoiling; one of some words. -/
import Derived.Test.YthkhaemlcmkkjasGreatGDrawE
import Derived.Laws.OwnMore
import Derived.Test.YthkhaemlcmkkjasGreatGDrawF
import Derived.Deep.CutBlock
namespace Go.Proofs.YthkhaemlcmkkjasGreat
set_option linter.unusedVariables false
set_option linter.unusedSimpArgs false
set_option maxRecDepth 10000
open Go.RowKit Go.Deep

theorem copied_at {OK : Nat → Value → Prop} {size n : Nat} {z : Array Value} {news : List Value} {k : Nat} (hsz : 0 < size) (hz : z.size = size) (hl : news.length = n * size)
    (h1 : ∀ (j : Nat) u, news[j]? = some u → OK j u) (h2 : ∀ (j : Nat) u, z[j]? = some u → ∀ k, OK (k * size + j) u) :
    ∀ (i : Nat) (u : Value), (news.toArray ++ Builtin.zeroCells z k)[i]? = some u → OK i u := by
  intro i u hu
  rw [Array.getElem?_append] at hu
  split at hu
  · exact h1 i u (by simpa using hu)
  · rename_i h3
    simp at h3 hu
    have hzz := zero_at hu (by omega)
    rw [hz] at hzz
    have := h2 _ u hzz (n + (i - news.length) / size)
    have e := Nat.div_add_mod (i - news.length) size
    rw [Nat.add_mul, Nat.mul_comm ((i - news.length) / size) size] at this
    rwa [show n * size + size * ((i - news.length) / size) + (i - news.length) % size = i by omega] at this

theorem append_copy_good {P : Program} (w : World) (t ty e : TypeId) (i : TypeInfo) (z : Value) (size bytes : Nat) (ht : P.underlying t = some (.slice e)) (hi : P.info? e = some i) (hz : i.zero = some z)
    (hsize : i.size = size) (hby : i.bytes = bytes) (hzs : z.cells.size = size) (hsz : 0 < size) (OK : Nat → Value → Prop) (h2 : ∀ (j : Nat) u, z.cells[j]? = some u → ∀ k, OK (k * size + j) u)
    (g : Nat) (hg : w.heap[g]? = some (.cells #[] e (0, 0))) (src : Value) (n : Nat)
    (hv : (src = .slice none 0 0 ∧ n = 0) ∨ ∃ (g cap : Nat) (C : Array Value), src = .slice (some ⟨g, 0, none⟩) n cap ∧ w.heap[g]? = some (.cells C e (0, 0)) ∧ n ≤ cap ∧ cap ≤ maxLen ∧ C.size = cap * size ∧ ∀ (i : Nat) u, C[i]? = some u → OK i u)
    (h63 : n ≤ maxLen) (hbytes : n * bytes ≤ 140737488355328) :
    ∃ (g' cap' : Nat) (C' : Array Value) (w' : World), (Builtin.append_ #[t, t] ty #[.slice (some ⟨g, 0, none⟩) 0 0, src]).run P w = .ok (.slice (some ⟨g', 0, none⟩) n cap') w' ∧ w'.heap[g']? = some (.cells C' e (0, 0)) ∧ n ≤ cap' ∧ cap' ≤ maxLen ∧ C'.size = cap' * size ∧
      (∀ (i : Nat) u, C'[i]? = some u → OK i u) ∧ (g' = g ∨ g' = w.heap.size) ∧ Below w.heap.size w w' := by
  subst hsize
  subst hby
  rcases hv with ⟨rfl, rfl⟩ | ⟨g1, cap, C, rfl, hg1, hnc, hcm, hcs, hk⟩
  · have hown : w.ownsRow 0 e i.size (.slice (some ⟨g, 0, none⟩) 0 0) 0 [] := ⟨by simp, Or.inr ⟨g, 0, #[], rfl, Nat.zero_le _, hg, by simp, by simp, by simp⟩⟩
    exact ⟨g, 0, #[], w, run_append_owned_none (P := P) w 0 t ty e i i.size ht hi _ 0 [] hown, hg, Nat.le_refl _, Nat.zero_le _, by simp, by simp, Or.inl rfl, Below.refl _ _⟩
  · by_cases h0 : n = 0
    · subst h0
      have hr := run_append_room (P := P) w t ty e i ht hi g 0 0 #[] hg ⟨g1, 0, none⟩ 0 cap [] (by simp) (by simp) (by simp) (by simp) (by simp)
      have hb := setRow_heap w g #[] #[] e (0, 0) hg
      refine ⟨g, 0, #[], _, by simpa using hr, hb, Nat.le_refl _, Nat.zero_le _, by simp, by simp, Or.inl rfl, ⟨rfl, rfl, rfl, by simp, fun b hb' => ?_⟩⟩
      by_cases e1 : b = g
      · subst e1; exact hb.trans hg.symm
      · exact setRow_other w g b _ e1
    · have hlo : (C.toList.take (n * i.size)).length = n * i.size := by
        have := Nat.mul_le_mul_right i.size hnc
        simp
        omega
      have hkk : ∀ j u, (C.toList.take (n * i.size))[j]? = some u → C[j]? = some u := fun j u hu => by
        rw [List.getElem?_take] at hu
        split at hu
        · simpa using hu
        · cases hu
      have hr := run_append_grow (P := P) w t ty e i z ht hi hz ⟨g, 0, none⟩ 0 0 [] (by simp) (by simp) ⟨g1, 0, none⟩ n cap (C.toList.take (n * i.size)) hlo (fun j u hu => by rw [show (⟨g1, 0, none⟩ : Addr).add j = ⟨g1, j, none⟩ by unfold Addr.add; split <;> simp_all, cell_of_row w g1 j C e (0, 0) hg1]; exact hkk j u hu) (by omega) (by simp only [maxLen] at h63; omega) (growslice_fits (by omega) (by simpa using hbytes))
      have hge := grownCap_ge w (0 + n) 0 e
      have hcap := grownCap_le_maxLen w (0 + n) 0 e (by simpa using h63)
      refine ⟨_, _, _, _, by simpa using hr, heap_alloc_new w.drew _, by simpa using hge, by simpa using hcap, ?_, ?_, Or.inr rfl, (Below.refl _ _).drew.alloc (Nat.le_refl _) _⟩
      · simp only [Array.size_append, List.size_toArray, size_zeroCells, hzs, hlo]
        simp only [Nat.zero_add] at hge
        have h5 := Nat.sub_mul (grownCap w n 0 e) n i.size
        have h6 := Nat.mul_le_mul_right i.size hge
        omega
      · have := copied_at (OK := OK) (k := grownCap w n 0 e - n) hsz hzs hlo (fun j u hu => hk j u (hkk j u hu)) h2
        simpa using this

theorem append_copy_V0 {s s' N : Nat} (w : World) (ty : TypeId) (v : Value) (hv : V0 s w N v) (hN : N ≤ 1000000) (g : Nat) (hg : w.heap[g]? = some (.cells #[] 97 (0, 0))) (hs : s' ≤ g) (hs2 : s' ≤ w.heap.size) :
    ∃ v' w', (Builtin.append_ #[64, 64] ty #[.slice (some ⟨g, 0, none⟩) 0 0, v]).run Tryz.prog w = .ok v' w' ∧ V0 s' w' N v' ∧ Below w.heap.size w w' := by
  obtain ⟨i0, hi, hz0, hz1, hz2⟩ := info_parts Tryz.infoReq
  obtain ⟨n, hn, ho⟩ := SlBy.open hv
  obtain ⟨g', cap', C', w', hr, hC', hc1, hc2, hc3, hk, hgg, hb⟩ := append_copy_good (P := Tryz.prog) w 64 ty 97 i0 _ 3 32 Tryz.underlying64 hi hz0 hz1 hz2 rfl (by decide) OK0 okzero3 g hg v n ho (by unfold maxLen; omega) (by omega)
  exact ⟨_, w', hr, Or.inr ⟨g', n, cap', rfl, hc1, hn, hc2, by rcases hgg with h | h <;> omega, C', hC', hc3, hk⟩, hb⟩
end Go.Proofs.YthkhaemlcmkkjasGreat

namespace Go.Proofs.YthkhaemlcmkkjasGreat
set_option linter.unusedVariables false
set_option linter.unusedSimpArgs false
open Go.RowKit Go.Deep

theorem SlBy.addr {OK : Nat → Value → Prop} {t : TypeId} {s size N n c : Nat} {w : World} {a : Option Addr} (h : SlBy (GoodBy OK t s w) size N (.slice a n c)) (hn : 0 < n) :
    ∃ g C, a = some ⟨g, 0, none⟩ ∧ s ≤ g ∧ w.heap[g]? = some (.cells C t (0, 0)) ∧ C.size = c * size ∧ n ≤ c ∧ n ≤ N ∧ ∀ (i : Nat) u, C[i]? = some u → OK i u := by
  rcases h with h | ⟨g, n', cap, hv, h1, h2, h3, hs, C, hC, hk, ho⟩
  · simp at h; omega
  · simp at hv
    obtain ⟨rfl, rfl, rfl⟩ := hv
    exact ⟨g, C, rfl, hs, hC, hk, h1, h2, ho⟩
theorem V1.row {s N n c i : Nat} {w : World} {g : Nat} (h : V1 s w N (.slice (some ⟨g, 0, none⟩) n c)) (hi : i < n) : ∃ u, w.cell? ⟨g, i, none⟩ = some u ∧ V0 s w N u := by
  obtain ⟨g', C, ha, hs, hC, hk, h1, h2, ho⟩ := SlBy.addr h (by omega)
  simp at ha
  subst ha
  have hlt : i < C.size := by omega
  exact ⟨C[i], by rw [cell_of_row w g i C _ _ hC]; simp [hlt], ho i _ (by simp [hlt])⟩
/-- Pack i of a slice of good blocks. -/
theorem V2.pack {s N n c i : Nat} {w : World} {g : Nat} (h : V2 s w N (.slice (some ⟨g, 0, none⟩) n c)) (hi : i < n) :
    ∃ (x : ByteArray) (y z : Int) (v1 v2 v3 : Value), w.cell? ⟨g, i * 6, none⟩ = some (.string x) ∧ w.cell? ⟨g, i * 6 + 1, none⟩ = some (.int .i64 y) ∧ w.cell? ⟨g, i * 6 + 2, none⟩ = some (.int .i64 z) ∧ w.cell? ⟨g, i * 6 + 3, none⟩ = some v1 ∧ w.cell? ⟨g, i * 6 + 4, none⟩ = some v2 ∧ w.cell? ⟨g, i * 6 + 5, none⟩ = some v3 ∧ PackV s w N x (.int .i64 y) (.int .i64 z) v1 v2 v3 := by
  obtain ⟨g', C, ha, hs, hC, hk, h1, h2, ho⟩ := SlBy.addr h (by omega)
  simp at ha
  subst ha
  have e : ∀ j, j < 6 → ∃ u, w.cell? ⟨g, i * 6 + j, none⟩ = some u ∧ OK2 s w N (i * 6 + j) u := fun j hj => by
    have hlt : i * 6 + j < C.size := by omega
    exact ⟨C[i * 6 + j], by rw [cell_of_row w g _ C _ _ hC]; simp [hlt], ho _ _ (by simp [hlt])⟩
  obtain ⟨u0, c0, o0⟩ := e 0 (by omega)
  obtain ⟨u1, c1, o1⟩ := e 1 (by omega)
  obtain ⟨u2, c2, o2⟩ := e 2 (by omega)
  obtain ⟨u3, c3, o3⟩ := e 3 (by omega)
  obtain ⟨u4, c4, o4⟩ := e 4 (by omega)
  obtain ⟨u5, c5, o5⟩ := e 5 (by omega)
  obtain ⟨x, rfl, hx⟩ := o0.name (by omega)
  obtain ⟨y, rfl⟩ := o1.nums (by omega)
  obtain ⟨z, rfl⟩ := o2.nums (by omega)
  exact ⟨x, y, z, u3, u4, u5, c0, c1, c2, c3, c4, c5, hx, ⟨y, rfl⟩, ⟨z, rfl⟩, o3.deps (by omega), o4.reqs (by omega), o5.reqs (by omega)⟩
theorem PackV.ev {B s N N' : Nat} {w w' : World} {x : ByteArray} {a b v1 v2 v3 : Value} (h : PackV s w N x a b v1 v2 v3) (e : Ev B s N N' w w') : PackV s w' N' x a b v1 v2 v3 :=
  ⟨h.len, h.ver, h.size, h.deps.ev e, h.pres.ev e, h.bans.ev e⟩
theorem alienRepo : Alien 25 := by unfold Alien; decide

structure SC (s : Nat) (w0 : World) (v : Value) (room : Int) (N : Nat) (x : World) : Prop where
  box : x.heap[w0.heap.size]? = some (repoCells v room)
  res : x.heap[w0.heap.size + 1]? = some (repoCells (.slice none 0 0) 0)
  out : ∃ (a : Option Addr) (n c : Nat), x.heap[w0.heap.size + 1 + 1]? = some (repoCells (.slice a n c) room) ∧ V2 s x N (.slice a n c) ∧ Fresh w0.heap.size (.slice a n c)
  bel : Below w0.heap.size w0 x
  size : w0.heap.size + 3 ≤ x.heap.size
theorem SC.step {s N N' : Nat} {w0 x y : World} {v : Value} {room : Int} (h : SC s w0 v room N x) (e : Ev s s N N' x y) (hb : ∀ b, b < w0.heap.size → y.heap[b]? = x.heap[b]?) : SC s w0 v room N' y := by
  obtain ⟨h1, h2, ⟨a, n, c, h3, h4, h5⟩, h6, h7⟩ := h
  exact ⟨(e.other _ _ ⟨_, h1⟩ alienRepo).trans h1, (e.other _ _ ⟨_, h2⟩ alienRepo).trans h2, ⟨a, n, c, (e.other _ _ ⟨_, h3⟩ alienRepo).trans h3, h4.ev e, h5⟩,
    ⟨e.os.trans h6.os, e.tape.trans h6.tape, e.output.trans h6.output, Nat.le_trans h6.size e.size, fun b hb' => (hb b hb').trans (h6.block b hb')⟩, Nat.le_trans h7 e.size⟩
theorem SC.below {s N : Nat} {w0 x y : World} {v : Value} {room : Int} (h : SC s w0 v room N x) (e : Below x.heap.size x y) : SC s w0 v room N y :=
  h.step (Ev.of_below e) fun b hb => e.block b (by have := h.size; omega)
/-- Where only a block of another kind is written. -/
theorem V2.apart {s N b0 : Nat} {x : World} {v u : Value} {i : Nat} (h : V2 s x N v) (hb : CellsOf x b0 25) : V2 s (x.setCell ⟨b0, i, none⟩ u) N v := by
  have keep : ∀ {b : Nat} {t : TypeId}, CellsOf x b t → t ≠ 25 → (x.setCell ⟨b0, i, none⟩ u).heap[b]? = x.heap[b]? := fun {b t} hc ht => blk_setCell_other _ _ _ _ (show b ≠ b0 from fun e => ht (by subst e; exact hc.one hb))
  have g0 : ∀ b n, G0 s x b n → G0 s (x.setCell ⟨b0, i, none⟩ u) b n := fun b n h => GoodBy.mono h (keep (GoodBy.cells h) (by decide)) fun _ _ h => h
  have g1 : ∀ b n, G1 s x N b n → G1 s (x.setCell ⟨b0, i, none⟩ u) N b n := fun b n h => GoodBy.mono h (keep (GoodBy.cells h) (by decide)) fun _ _ h => SlBy.mono h g0 (Nat.le_refl _)
  exact SlBy.mono h (fun b n h => GoodBy.mono h (keep (GoodBy.cells h) (by decide)) fun _ _ h => ⟨h.name, h.nums, fun e => SlBy.mono (h.deps e) g1 (Nat.le_refl _), fun e => SlBy.mono (h.reqs e) g0 (Nat.le_refl _)⟩) (Nat.le_refl _)
theorem SC.put {s N : Nat} {w0 x : World} {v : Value} {room : Int} (h : SC s w0 v room N x) {a : Option Addr} {n c : Nat} (hv : V2 s x N (.slice a n c)) (hf : Fresh w0.heap.size (.slice a n c)) : SC s w0 v room N (x.setCell ⟨w0.heap.size + 1 + 1, 0, none⟩ (.slice a n c)) := by
  obtain ⟨h1, h2, ⟨a1, n1, c1, h3, h4, h5⟩, h6, h7⟩ := h
  have hob : ∀ b, b ≠ w0.heap.size + 1 + 1 → (x.setCell ⟨w0.heap.size + 1 + 1, 0, none⟩ (.slice a n c)).heap[b]? = x.heap[b]? := fun b hb => blk_setCell_other _ _ _ _ hb
  refine ⟨(hob _ (by omega)).trans h1, (hob _ (by omega)).trans h2, ⟨a, n, c, by rw [blk_set h3 0 _]; rfl, hv.apart ⟨_, h3⟩, hf⟩, ?_, by simpa using h7⟩
  refine Below.setCell h6 ?_ _
  show w0.heap.size ≤ w0.heap.size + 1 + 1
  omega
theorem SC.fin {s N : Nat} {w0 x : World} {v : Value} {room : Int} (h : SC s w0 v room N x) {a : Option Addr} {n c : Nat} (hv : V2 s x N (.slice a n c)) (hN : N ≤ 50000) :
    let y := (x.setCell ⟨w0.heap.size + 1, 0, none⟩ (.slice a n c)).setCell ⟨w0.heap.size + 1, 1, none⟩ (.int .i64 room)
    V2 s y 50000 (.slice a n c) ∧ Below w0.heap.size w0 y ∧ y.cell? ⟨w0.heap.size + 1, 0, none⟩ = some (.slice a n c) ∧ y.cell? ⟨w0.heap.size + 1, 1, none⟩ = some (.int .i64 room) := by
  intro y
  have h1 := blk_set h.res 0 (.slice a n c)
  have hy : y.heap[w0.heap.size + 1]? = some (repoCells (.slice a n c) room) := by
    show ((x.setCell ⟨w0.heap.size + 1, 0, none⟩ (.slice a n c)).setCell ⟨w0.heap.size + 1, 1, none⟩ (.int .i64 room)).heap[w0.heap.size + 1]? = _
    rw [blk_set h1 1 _]; rfl
  obtain ⟨c0, c1, _⟩ := two hy
  refine ⟨((V2.wider hv hN).apart ⟨_, h.res⟩).apart ⟨_, h1⟩, ?_, c0, c1⟩
  refine Below.setCell (Below.setCell h.bel ?_ _) ?_ _
  · exact Nat.le_succ _
  · exact Nat.le_succ _
/-- A row of requests is copied. -/
theorem SC.copy {s N L : Nat} {w0 x : World} {v : Value} {room : Int} (h : SC s w0 v room L x) {u : Value} (hu : V0 s x N u) (hN : N ≤ L) (hL : L ≤ 1000000) (hs : s ≤ w0.heap.size) :
    ∃ (a : Option Addr) (n c : Nat) (y : World), (Builtin.append_ #[64, 64] 64 #[.slice (some ⟨x.heap.size, 0, none⟩) 0 0, u]).run Tryz.prog (x.alloc (.cells #[] 97)) = .ok (.slice a n c) y ∧ V0 s y L (.slice a n c) ∧ Below x.heap.size x y ∧ SC s w0 v room L y := by
  have hz := h.size
  have bA := (Below.refl x.heap.size x).alloc (Nat.le_refl _) (.cells #[] 97)
  obtain ⟨v1', y, run1, hv1, bB⟩ := append_copy_V0 (s' := s) (x.alloc (.cells #[] 97)) 64 _ (V0.ev hu (Ev.of_below (B := s) bA)) (by omega) x.heap.size (blk_alloc_new _ _) (by omega) (by simp; omega)
  obtain ⟨aq, nq, cq, rfl, _⟩ := SlBy.slice hv1
  have hz2 := bB.size
  simp at hz2
  have b : Below x.heap.size x y := ⟨bB.os.trans bA.os, bB.tape.trans bA.tape, bB.output.trans bA.output, Nat.le_trans bA.size bB.size, fun b hb => (bB.block b (by simp; omega)).trans (bA.block b hb)⟩
  exact ⟨aq, nq, cq, y, run1, V0.wider hv1 hN, b, h.below b⟩
/-- A cell of the pack is written. -/
theorem SC.cell {s L pb j : Nat} {w0 x : World} {v : Value} {room : Int} (h : SC s w0 v room L x) (hg : G2 s x L pb 6) (hp : w0.heap.size ≤ pb) {u : Value} (hu : OK2 s x L j u) : SC s w0 v room L (x.setCell ⟨pb, j, none⟩ u) ∧ Ev s s L L x (x.setCell ⟨pb, j, none⟩ u) :=
  have e := Ev.packCell hg hu
  ⟨h.step e fun b hb => blk_setCell_other _ _ _ _ (show b ≠ pb by omega), e⟩
/-- In the midst of one pack's copy. -/
structure SI (s pb : Nat) (w0 : World) (v : Value) (room : Int) (N : Nat) (nm : ByteArray) (y z : Int) (u1 u2 u3 d : Value) (x : World) : Prop where
  sc : SC s w0 v room N x
  pk : x.heap[pb]? = some (.cells #[.string nm, .int .i64 y, .int .i64 z, u1, u2, u3] 66 (0, 0))
  row : V1 s x N d
  fr : Fresh w0.heap.size d

set_option maxRecDepth 10000 in
set_option maxHeartbeats 8000000 in
theorem l1Copy_V (s N : Nat) (a : Option Addr) (n c : Nat) (room : Int) (w : World) (hV : V2 s w N (.slice a n c)) (hs : s ≤ w.heap.size) (hN : N ≤ 200) :
    Calls Tryz.prog 49 #[.agg #[.slice a n c, .int .i64 room]] w fun e w' => (∃ v' : Value, e = .returned (.agg #[v', .int .i64 room]) ∧ V2 s w' 50000 v') ∧ Below w.heap.size w w' := by
  obtain ⟨_, n', c', hsl, hnc, hnN, hcm⟩ := SlBy.slice hV
  simp at hsl
  obtain ⟨rfl, rfl, rfl⟩ := hsl
  have hmx := hcm
  unfold maxLen at hmx
  go_enter Tryz.func49, Tryz.ntmps49
  go_wp2_with fail
  go_loopw [4] (fun i wr => ∃ k : Nat, i = .int .i64 k ∧ k ≤ n ∧ Hid (SC s w (.slice a n c) room (N + k * (N + 2)) wr)) (fun i _ => n - (intOf i).toNat)
  case atStart =>
    obtain ⟨f0, f1, f2⟩ := three_alloc w (.cells #[.slice a n c, .int .i64 room] 25) (.cells #[.slice none 0 0, .int .i64 0] 25) (.cells #[.slice none 0 0, .int .i64 room] 25)
    exact ⟨0, rfl, Nat.zero_le _, ⟨f0, f1, ⟨none, 0, 0, f2, Or.inl rfl, Fresh.nil _⟩, (((Below.refl _ _).alloc (Nat.le_refl _) _).alloc (by simp) _).alloc (by simp; omega) _, by simp⟩⟩
  case round =>
    rename World => wr
    obtain ⟨k, rfl, hk, HS⟩ := hrel
    obtain ⟨b0, b1, bf⟩ := two (unhide HS).box
    have hzr := (unhide HS).size
    have hmul : k * (N + 2) ≤ 200 * (N + 2) := Nat.mul_le_mul_right _ (by omega)
    by_cases hkn : k < n
    · have hkn' : (k : Int) < (n : Int) := by omega
      obtain ⟨g, C, rfl, _⟩ := SlBy.addr hV (by omega)
      rename_i hrest
      have kb := (unhide HS).bel.block g (Array.getElem?_eq_some_iff.1 hrest.2.1).1
      clear hrest
      obtain ⟨nm, y, z, u1, u2, u3, k0, k1, k2, k3, k4, k5, hP⟩ := V2.pack hV hkn
      rw [← World.cell?_of_block (w := w) (a := ⟨g, _, none⟩) kb] at k0 k1 k2 k3 k4 k5
      have hP0 := hide hP
      obtain ⟨a1, n1, c1, rfl, hnc1, hn1, hc1⟩ := SlBy.slice hP.deps
      obtain ⟨a2, n2, c2, rfl, hnc2, hn2, hc2⟩ := SlBy.slice hP.pres
      obtain ⟨a3, n3, c3, rfl, hnc3, hn3, hc3⟩ := SlBy.slice hP.bans
      have hm1 := hc1
      unfold maxLen at hm1
      clear hP kb
      have belA := (((Below.refl wr.heap.size wr).alloc (Nat.le_refl _) (.cells #[.string nm, .int .i64 y, .int .i64 z, .slice a1 n1 c1, .slice a2 n2 c2, .slice a3 n3 c3] 66)).alloc (by simp) (.cells #[] 64))
      have S1 := (unhide HS).below belA
      have SI0 : SI s wr.heap.size w (.slice (some ⟨g, 0, none⟩) n c) room (N + k * (N + 2)) nm y z (.slice a1 n1 c1) (.slice a2 n2 c2) (.slice a3 n3 c3) (.slice (some ⟨wr.heap.size + 1, 0, none⟩) 0 0) ((wr.alloc (.cells #[.string nm, .int .i64 y, .int .i64 z, .slice a1 n1 c1, .slice a2 n2 c2, .slice a3 n3 c3] 66)).alloc (.cells #[] 64)) :=
        ⟨S1, (blk_alloc_lt _ _ _ (by simp)).trans (blk_alloc_new _ _), Or.inr ⟨wr.heap.size + 1, 0, 0, rfl, Nat.le_refl _, Nat.zero_le _, Nat.zero_le _, by omega, #[], by have := blk_alloc_new (wr.alloc (.cells #[.string nm, .int .i64 y, .int .i64 z, .slice a1 n1 c1, .slice a2 n2 c2, .slice a3 n3 c3] 66)) (.cells #[] 64); simpa using this, rfl, by simp⟩, Fresh.of (by omega)⟩
      have HSI := hide SI0
      clear SI0 S1 belA
      go_wp2_with fail
      go_loopw [6, 7] (fun d kk wi => ∃ j : Nat, kk = .int .i64 j ∧ j ≤ n1 ∧ Hid (SI s wr.heap.size w (.slice (some ⟨g, 0, none⟩) n c) room (N + k * (N + 2) + j) nm y z (.slice a1 n1 c1) (.slice a2 n2 c2) (.slice a3 n3 c3) d wi)) (fun _ kk _ => n1 - (intOf kk).toNat)
      case atStart => exact ⟨0, rfl, Nat.zero_le _, HSI⟩
      case round =>
        rename World => wi
        obtain ⟨j, rfl, hj, HJ⟩ := hrel
        obtain ⟨p0, p1, p2, p3, p4, p5, pf⟩ := six (unhide HJ).pk
        have hzi := (unhide HJ).sc.size
        have hpb : wr.heap.size < wi.heap.size := (Array.getElem?_eq_some_iff.1 (unhide HJ).pk).1
        have hPi := (unhide hP0).ev (Ev.of_below (B := s) (unhide HJ).sc.bel)
        by_cases hjn : j < n1
        · have hjn' : (j : Int) < (n1 : Int) := by omega
          obtain ⟨g1, C1, rfl, hgC⟩ := SlBy.addr hPi.deps (by omega)
          have hg1 : g1 < wi.heap.size := (Array.getElem?_eq_some_iff.1 hgC.2.1).1
          clear hgC
          obtain ⟨u, hu, hVu⟩ := V1.row hPi.deps hjn
          obtain ⟨ar, nr, cr, rfl, hr1, hr2, hr3⟩ := SlBy.slice hVu
          clear hPi
          have bA := (Below.refl wi.heap.size wi).alloc (Nat.le_refl _) (.cells #[] 97)
          obtain ⟨v1', x2, run1, hv1, bB⟩ := append_copy_V0 (s' := s) (wi.alloc (.cells #[] 97)) 64 _ (V0.ev hVu (Ev.of_below (B := s) bA)) (by omega) wi.heap.size (blk_alloc_new _ _) (by omega) (by simp; omega)
          have hz2 := bB.size
          simp at hz2
          obtain ⟨aq, nq, cq, rfl, _⟩ := SlBy.slice hv1
          have bC := (Below.refl x2.heap.size x2).alloc (Nat.le_refl _) (.cells #[.slice aq nq cq] 64)
          have bAC : Below wi.heap.size wi (x2.alloc (.cells #[.slice aq nq cq] 64)) := ⟨bC.os.trans (bB.os.trans bA.os), bC.tape.trans (bB.tape.trans bA.tape), bC.output.trans (bB.output.trans bA.output), Nat.le_trans bA.size (Nat.le_trans bB.size bC.size), fun b hb => (bC.block b (by omega)).trans ((bB.block b (by simp; omega)).trans (bA.block b hb))⟩
          have E3 : Ev s s (N + k * (N + 2) + j) (N + k * (N + 2) + j) wi (x2.alloc (.cells #[.slice aq nq cq] 64)) := Ev.of_below bAC
          obtain ⟨v', x4, run2, hv4, hE4, hlow, hoth, hfr, _⟩ := append_V1 (B := s) (s := s) (N := N + k * (N + 2) + j) (x2.alloc (.cells #[.slice aq nq cq] 64)) 63 _ (V1.ev (unhide HJ).row E3) (by simp; omega) (by omega) ⟨x2.heap.size, 0, none⟩ 1 (.slice aq nq cq) (V0.wider (V0.ev hv1 (Ev.of_below (B := s) bC)) (by omega)) rfl (by simp) rfl
          obtain ⟨hf1, hf2⟩ := hfr w.heap.size (by simp; omega) (unhide HJ).fr
          have HN := hide (show SI s wr.heap.size w (.slice (some ⟨g, 0, none⟩) n c) room (N + k * (N + 2) + (j + 1)) nm y z (.slice (some ⟨g1, 0, none⟩) n1 c1) (.slice a2 n2 c2) (.slice a3 n3 c3) v' x4 from
            ⟨((unhide HJ).sc.below bAC).step hE4 hf2, (hoth _ 66 ⟨_, (bAC.block _ hpb).trans (unhide HJ).pk⟩ (by decide)).trans ((bAC.block _ hpb).trans (unhide HJ).pk), hv4, hf1⟩)
          have HR1 := hide run1
          have HR2 := hide run2
          clear run1 run2 hv4 hE4 hlow hoth hfr hf1 hf2 E3 bAC bC bB bA hv1 hVu
          go_wp2_with (at_builtin; first
            | refine wpList_append_run rfl _ _ 64 rfl _ _ _ _ rfl rfl (unhide HR1) ?_
            | refine wpList_append_run rfl _ _ 63 rfl _ _ _ _ rfl rfl (unhide HR2) ?_)
          go_roundw
          case rel => exact ⟨j + 1, by go_num, by omega, HN⟩
          case measure => simp [intOf]; omega
        · have hjn' : ¬ (j : Int) < (n1 : Int) := by omega
          have hjN : j ≤ N := by omega
          have HP := hide (hPi.ev ((Ev.refl s s N wi).more (show N ≤ N + k * (N + 2) + j by omega)))
          have hG := G2.of (s := s) (by omega) (unhide HJ).pk (unhide HP)
          have hd := (unhide HJ).row
          have hfd := (unhide HJ).fr
          obtain ⟨ad, nd, cd, rfl, _⟩ := SlBy.slice hd
          have pk0 := (unhide HJ).pk
          obtain ⟨S1, E1⟩ := (unhide HJ).sc.cell (j := 3) hG (by omega) (u := .slice ad nd cd) ⟨fun e => absurd e (by decide), fun e => absurd e (by decide), fun _ => hd, fun e => absurd e (by decide)⟩
          have pk1 := blk_set pk0 3 (.slice ad nd cd)
          have P1 : PackV s _ _ nm (.int .i64 y) (.int .i64 z) (.slice ad nd cd) (.slice a2 n2 c2) (.slice a3 n3 c3) := ⟨hPi.len, ⟨_, rfl⟩, ⟨_, rfl⟩, hd.ev E1, (unhide HP).pres.ev E1, (unhide HP).bans.ev E1⟩
          obtain ⟨aq, nq, cq, x2, run1, hv2, b2, S2⟩ := S1.copy ((unhide hP0).pres.ev (Ev.of_below (B := s) S1.bel)) (by omega) (by omega) hs
          have E2 : Ev s s (N + k * (N + 2) + j) (N + k * (N + 2) + j) _ x2 := Ev.of_below b2
          have pk2 := (b2.block _ (Array.getElem?_eq_some_iff.1 pk1).1).trans pk1
          have P2 := P1.ev E2
          obtain ⟨S3, E3⟩ := S2.cell (j := 4) (G2.of (s := s) (by omega) pk2 P2) (by omega) (u := .slice aq nq cq) ⟨fun e => absurd e (by decide), fun e => absurd e (by decide), fun e => absurd e (by decide), fun _ => hv2⟩
          have pk3 := blk_set pk2 4 (.slice aq nq cq)
          have P3 : PackV s _ _ nm (.int .i64 y) (.int .i64 z) (.slice ad nd cd) (.slice aq nq cq) (.slice a3 n3 c3) := ⟨hPi.len, ⟨_, rfl⟩, ⟨_, rfl⟩, P2.deps.ev E3, V0.ev hv2 E3, P2.bans.ev E3⟩
          obtain ⟨ar, nr, cr, x4, run2, hv4, b4, S4⟩ := S3.copy ((unhide hP0).bans.ev (Ev.of_below (B := s) S3.bel)) (by omega) (by omega) hs
          have E4 : Ev s s (N + k * (N + 2) + j) (N + k * (N + 2) + j) _ x4 := Ev.of_below b4
          have pk4 := (b4.block _ (Array.getElem?_eq_some_iff.1 pk3).1).trans pk3
          have P4 := P3.ev E4
          obtain ⟨S5, E5⟩ := S4.cell (j := 5) (G2.of (s := s) (by omega) pk4 P4) (by omega) (u := .slice ar nr cr) ⟨fun e => absurd e (by decide), fun e => absurd e (by decide), fun e => absurd e (by decide), fun _ => hv4⟩
          have pk5 := blk_set pk4 5 (.slice ar nr cr)
          have P5 : PackV s _ _ nm (.int .i64 y) (.int .i64 z) (.slice ad nd cd) (.slice aq nq cq) (.slice ar nr cr) := ⟨hPi.len, ⟨_, rfl⟩, ⟨_, rfl⟩, P4.deps.ev E5, P4.pres.ev E5, V0.ev hv4 E5⟩
          obtain ⟨a', n', c', ho', hV', hF'⟩ := S5.out
          have b6 := (Below.refl (x4.setCell ⟨wr.heap.size, 5, none⟩ (.slice ar nr cr)).heap.size (x4.setCell ⟨wr.heap.size, 5, none⟩ (.slice ar nr cr))).alloc (Nat.le_refl _) (.cells #[.string nm, .int .i64 y, .int .i64 z, .slice ad nd cd, .slice aq nq cq, .slice ar nr cr] 66)
          have E6 : Ev s s (N + k * (N + 2) + j) (N + k * (N + 2) + j) _ _ := Ev.of_below b6
          have hz5 := S5.size
          simp at hz5
          have hnew : ((x4.setCell ⟨wr.heap.size, 5, none⟩ (.slice ar nr cr)).alloc (.cells #[.string nm, .int .i64 y, .int .i64 z, .slice ad nd cd, .slice aq nq cq, .slice ar nr cr] 66)).heap[x4.heap.size]? = some (.cells #[.string nm, .int .i64 y, .int .i64 z, .slice ad nd cd, .slice aq nq cq, .slice ar nr cr] 66 (0, 0)) := by
            have := blk_alloc_new (x4.setCell ⟨wr.heap.size, 5, none⟩ (.slice ar nr cr)) (.cells #[.string nm, .int .i64 y, .int .i64 z, .slice ad nd cd, .slice aq nq cq, .slice ar nr cr] 66)
            rwa [nblk_setCell] at this
          obtain ⟨w0', w1', w2', w3', w4', w5', _⟩ := six hnew
          obtain ⟨v', x7, run3, hv7, hE7, hlow, hoth, hfr, _⟩ := append_V2 (B := s) (s := s) (N := N + k * (N + 2) + j) _ 23 _ (V2.ev hV' E6) (by simp; omega) (by omega) ⟨x4.heap.size, 0, none⟩ 1 nm (.int .i64 y) (.int .i64 z) (.slice ad nd cd) (.slice aq nq cq) (.slice ar nr cr) (P5.ev E6)
            (by intro u hu; simp at hu; rcases hu with rfl | rfl | rfl | rfl | rfl | rfl <;> rfl)
            (fun i u hu => by
              match i, hu with
              | 0, hu => simp at hu; subst hu; simpa [Addr.add] using w0'
              | 1, hu => simp at hu; subst hu; simpa [Addr.add] using w1'
              | 2, hu => simp at hu; subst hu; simpa [Addr.add] using w2'
              | 3, hu => simp at hu; subst hu; simpa [Addr.add] using w3'
              | 4, hu => simp at hu; subst hu; simpa [Addr.add] using w4'
              | 5, hu => simp at hu; subst hu; simpa [Addr.add] using w5')
          obtain ⟨hf1, hf2⟩ := hfr w.heap.size (by simp; omega) hF'
          obtain ⟨av, nv, cv, rfl, _⟩ := SlBy.slice hv7
          have S7 := (S5.below b6).step hE7 hf2
          have HS8 := hide (S7.put hv7 hf1)
          obtain ⟨a9, n9, c9, ho9, _⟩ := S7.out
          have HQ := hide (two ho9)
          have HO := hide (two ho')
          have H2 := hide (six pk2)
          have H4 := hide (six pk4)
          have H5 := hide (six pk5)
          have hpx2 : wr.heap.size < x2.heap.size := (Array.getElem?_eq_some_iff.1 pk2).1
          have hpx4 : wr.heap.size < x4.heap.size := (Array.getElem?_eq_some_iff.1 pk4).1
          simp only [nblk_setCell] at run1 run2
          have HR1 := hide run1
          have HR2 := hide run2
          have HR3 := hide run3
          clear w0' w1' w2' w3' w4' w5' run1 run2 run3 hV' hv7 hE7 hlow hoth hfr hf1 hf2 S7 S5 S4 S3 S2 S1 P1 P2 P3 P4 P5 pk0 pk1 pk2 pk3 pk4 pk5 E1 E2 E3 E4 E5 E6 b2 b4 b6 ho' ho9 hd hG hv2 hv4 hPi hnew
          have pf3 := pf 3
          obtain ⟨_, _, _, _, d4, d5, df⟩ := unhide H2
          have df4 := df 4
          clear k0 k1 k2 k3 k4 k5 p0 p1 p2 pf df b0 b1 bf
          go_upto_region 13 with (at_builtin; refine wpList_append_run rfl _ _ 64 rfl _ _ _ _ rfl rfl (unhide HR1) ?_)
          clear d4 p3 p4 p5 pf3 df4
          obtain ⟨t0, t1, t2, t3, t4, t5, tf⟩ := unhide H4
          have tf5 := tf 5
          clear tf t0 t1 t2 t3 t4
          go_upto_region 14 with (at_builtin; refine wpList_append_run rfl _ _ 64 rfl _ _ _ _ rfl rfl (unhide HR2) ?_)
          clear d5 t5 tf5
          obtain ⟨q0, q1, qf⟩ := unhide HQ
          obtain ⟨o0, o1, of⟩ := unhide HO
          obtain ⟨m0, m1, m2, m3, m4, m5, mf⟩ := unhide H5
          have qf0 := qf 0
          clear qf of mf o1 q1
          go_wp2_with (at_builtin; refine wpList_append_run rfl _ _ 23 rfl _ _ _ _ rfl rfl (unhide HR3) ?_)
          go_roundw
          case rel =>
            refine ⟨k + 1, by go_num, by omega, (unhide HS8).step ((Ev.refl _ _ _ _).more ?_) (fun _ _ => rfl)⟩
            rw [Nat.add_mul]; omega
          case measure => simp [intOf]; omega
    · have hkn' : ¬ (k : Int) < (n : Int) := by omega
      obtain ⟨a', n', c', ho, hVo, _⟩ := (unhide HS).out
      obtain ⟨o0, o1, of⟩ := two ho
      obtain ⟨e0, e1, ef⟩ := two (unhide HS).res
      have HF := hide ((unhide HS).fin hVo (by omega))
      clear ho hVo
      go_wp2_with fail
      obtain ⟨f1, f2, R0, R1⟩ := unhide HF
      exact bodyPost_ret (v := .agg #[.slice a' n' c', .int .i64 room]) (by simp [results, Tryz.results49, go_sem, R0, R1]) rfl ⟨⟨_, rfl, f1⟩, f2⟩
end Go.Proofs.YthkhaemlcmkkjasGreat

namespace Go.Proofs.YthkhaemlcmkkjasGreat
set_option linter.unusedVariables false
set_option linter.unusedSimpArgs false
set_option maxRecDepth 10000
open Go.RowKit Go.Deep

inductive Kd where
  | eq (x : Value)
  | str
  | int
  | pick (n : Nat)
  | cells (n : Nat) (C : Array Value) (t : TypeId)
  | cellp (n : Nat) (C : Array Value) (t : TypeId)
  | req
  | req1
  | v0
  | row1
  | v1
  | pack
  | pack1
  | v2
  | v2p
  | gp
  | any

def kd (s L : Nat) : Kd → Nat → Value → World → Prop
  | .eq x, _, v, _ => v = x
  | .str, _, v, _ => ∃ t : ByteArray, v = .string t ∧ t.size ≤ maxLen
  | .int, _, v, _ => ∃ z : Int, v = .int .i64 z
  | .pick n, _, v, _ => ∃ r : Nat, v = .int .i64 r ∧ r < n
  | .cells n C t, _, v, w => ∃ g, v = .slice (some ⟨g, 0, none⟩) n n ∧ w.heap[g]? = some (.cells C t (0, 0)) ∧ Alien t
  | .cellp n C t, _, v, w => ∃ g i, v = .pointer (some ⟨g, i, none⟩) ∧ i < n ∧ w.heap[g]? = some (.cells C t (0, 0)) ∧ Alien t
  | .req, _, v, _ => ∃ q : ReqD, v = .agg #[.string q.name, .int .i64 q.low, .int .i64 q.high] ∧ q.name.size ≤ maxLen
  | .req1, _, v, w => ∃ g, v = .slice (some ⟨g, 0, none⟩) 1 1 ∧ G0 s w g 3
  | .v0, k, v, w => V0 s w (L + k) v
  | .row1, k, v, w => ∃ g, v = .slice (some ⟨g, 0, none⟩) 1 1 ∧ G1 s w (L + k) g 1
  | .v1, k, v, w => V1 s w (L + k) v
  | .pack, k, v, w => ∃ (x : ByteArray) (y z : Int) (v1 v2 v3 : Value), v = .agg #[.string x, .int .i64 y, .int .i64 z, v1, v2, v3] ∧ PackV s w (L + k) x (.int .i64 y) (.int .i64 z) v1 v2 v3
  | .pack1, k, v, w => ∃ g, v = .slice (some ⟨g, 0, none⟩) 1 1 ∧ G2 s w (L + k) g 6
  | .v2, k, v, w => V2 s w (L + k) v
  | .v2p, k, v, w => V2 s w (L + k) v ∧ ∃ g n c, v = .slice (some ⟨g, 0, none⟩) (n + 1) c
  | .gp, k, v, w => ∃ g n c, v = .pointer (some ⟨g, 0, none⟩) ∧ V2 s w (L + k) (.slice (some ⟨g, 0, none⟩) (n + 1) c)
  | .any, _, _, _ => True

theorem kd.on {B s L k : Nat} {K : Kd} {v : Value} {x y : World} (h : kd s L K k v x) (e : Ev B s (L + k) (L + (k + 1)) x y) : kd s L K (k + 1) v y := by
  cases K with
  | eq => exact h
  | str => exact h
  | int => exact h
  | pick => exact h
  | cells => obtain ⟨g, h1, h2, h3⟩ := h; exact ⟨g, h1, (e.other _ _ ⟨_, h2⟩ h3).trans h2, h3⟩
  | cellp => obtain ⟨g, i, h1, h0, h2, h3⟩ := h; exact ⟨g, i, h1, h0, (e.other _ _ ⟨_, h2⟩ h3).trans h2, h3⟩
  | req => exact h
  | req1 => obtain ⟨g, h1, h2⟩ := h; exact ⟨g, h1, e.g0 _ _ h2⟩
  | v0 => exact V0.ev h e
  | row1 => obtain ⟨g, h1, h2⟩ := h; exact ⟨g, h1, e.g1 _ _ h2⟩
  | v1 => exact V1.ev h e
  | pack => obtain ⟨x, y, z, v1, v2, v3, h1, h2⟩ := h; exact ⟨x, y, z, v1, v2, v3, h1, h2.ev e⟩
  | pack1 => obtain ⟨g, h1, h2⟩ := h; exact ⟨g, h1, e.g2 _ _ h2⟩
  | v2 => exact V2.ev h e
  | v2p => exact ⟨V2.ev h.1 e, h.2⟩
  | gp => obtain ⟨g, n, c, h1, h2⟩ := h; exact ⟨g, n, c, h1, V2.ev h2 e⟩
  | any => trivial

def soft : Kd → Prop
  | .cells _ _ _ => False
  | .cellp _ _ _ => False
  | _ => True
theorem kd.apart {s L k b0 i : Nat} {K : Kd} {v u : Value} {x : World} (hK : soft K) (h : kd s L K k v x) (hb : CellsOf x b0 25) : kd s L K (k + 1) v (x.setCell ⟨b0, i, none⟩ u) := by
  have keep : ∀ {b : Nat} {t : TypeId}, CellsOf x b t → t ≠ 25 → (x.setCell ⟨b0, i, none⟩ u).heap[b]? = x.heap[b]? := fun {b t} hc ht => blk_setCell_other _ _ _ _ (show b ≠ b0 from fun e => ht (by subst e; exact hc.one hb))
  have le : L + k ≤ L + (k + 1) := by omega
  have g0 : ∀ b n, G0 s x b n → G0 s (x.setCell ⟨b0, i, none⟩ u) b n := fun b n h => GoodBy.mono h (keep (GoodBy.cells h) (by decide)) fun _ _ h => h
  have g1 : ∀ b n, G1 s x (L + k) b n → G1 s (x.setCell ⟨b0, i, none⟩ u) (L + (k + 1)) b n := fun b n h => GoodBy.mono h (keep (GoodBy.cells h) (by decide)) fun _ _ h => SlBy.mono h g0 le
  have g2 : ∀ b n, G2 s x (L + k) b n → G2 s (x.setCell ⟨b0, i, none⟩ u) (L + (k + 1)) b n := fun b n h => GoodBy.mono h (keep (GoodBy.cells h) (by decide)) fun _ _ h => ⟨h.name, h.nums, fun e => SlBy.mono (h.deps e) g1 le, fun e => SlBy.mono (h.reqs e) g0 le⟩
  cases K with
  | eq => exact h
  | str => exact h
  | int => exact h
  | pick => exact h
  | cells => exact hK.elim
  | cellp => exact hK.elim
  | req => exact h
  | req1 => obtain ⟨g, h1, h2⟩ := h; exact ⟨g, h1, g0 _ _ h2⟩
  | v0 => exact SlBy.mono h g0 le
  | row1 => obtain ⟨g, h1, h2⟩ := h; exact ⟨g, h1, g1 _ _ h2⟩
  | v1 => exact SlBy.mono h g1 le
  | pack => obtain ⟨x, y, z, v1, v2, v3, h1, h2⟩ := h; exact ⟨x, y, z, v1, v2, v3, h1, h2.len, h2.ver, h2.size, SlBy.mono h2.deps g1 le, SlBy.mono h2.pres g0 le, SlBy.mono h2.bans g0 le⟩
  | pack1 => obtain ⟨g, h1, h2⟩ := h; exact ⟨g, h1, g2 _ _ h2⟩
  | v2 => exact SlBy.mono h g2 le
  | v2p => exact ⟨SlBy.mono h.1 g2 le, h.2⟩
  | gp => obtain ⟨g, n, c, h1, h2⟩ := h; exact ⟨g, n, c, h1, SlBy.mono h2 g2 le⟩
  | any => trivial

/-- In the midst of a spoiling: the packs' variable at block ob, the result's at block rs. -/
structure SE (B rb s ob rs : Nat) (w0 : World) (N0 : Nat) (v : Value) (room : Int) (N : Nat) (m : Int) (x : World) : Prop where
  box : x.heap[ob]? = some (repoCells v room)
  val : V2 s x N v
  res : x.heap[rs]? = some (repoCells (.slice none 0 0) 0)
  rd : Rd B x rb m
  ev : Ev B s N0 N w0 x
theorem SE.step {B rb s ob rs N0 N N' : Nat} {w0 x y : World} {v : Value} {room m m' : Int} (h : SE B rb s ob rs w0 N0 v room N m x) (e : Ev B s N N' x y) (hr : Rd B y rb m') : SE B rb s ob rs w0 N0 v room N' m' y :=
  ⟨(e.other _ _ ⟨_, h.box⟩ alienRepo).trans h.box, h.val.ev e, (e.other _ _ ⟨_, h.res⟩ alienRepo).trans h.res, hr, h.ev.trans e⟩
/-- A block of its own of another kind is written. -/
theorem Ev.own {B s N0 N b0 i : Nat} {w0 x : World} {u : Value} (h : Ev B s N0 N w0 x) (hb : CellsOf x b0 25) (h0 : w0.heap.size ≤ b0) : Ev B s N0 N w0 (x.setCell ⟨b0, i, none⟩ u) := by
  have keep : ∀ {b : Nat} {t : TypeId}, CellsOf x b t → t ≠ 25 → (x.setCell ⟨b0, i, none⟩ u).heap[b]? = x.heap[b]? := fun {b t} hc ht => blk_setCell_other _ _ _ _ (show b ≠ b0 from fun e => ht (by subst e; exact hc.one hb))
  have old : ∀ b, b < w0.heap.size → (x.setCell ⟨b0, i, none⟩ u).heap[b]? = x.heap[b]? := fun b hb' => blk_setCell_other _ _ _ _ (show b ≠ b0 by omega)
  have g0 : ∀ b n, G0 s x b n → G0 s (x.setCell ⟨b0, i, none⟩ u) b n := fun b n h => GoodBy.mono h (keep (GoodBy.cells h) (by decide)) fun _ _ h => h
  have g1 : ∀ b n, G1 s x N b n → G1 s (x.setCell ⟨b0, i, none⟩ u) N b n := fun b n h => GoodBy.mono h (keep (GoodBy.cells h) (by decide)) fun _ _ h => SlBy.mono h g0 (Nat.le_refl _)
  have g2 : ∀ b n, G2 s x N b n → G2 s (x.setCell ⟨b0, i, none⟩ u) N b n := fun b n h => GoodBy.mono h (keep (GoodBy.cells h) (by decide)) fun _ _ h => ⟨h.name, h.nums, fun e => SlBy.mono (h.deps e) g1 (Nat.le_refl _), fun e => SlBy.mono (h.reqs e) g0 (Nat.le_refl _)⟩
  exact ⟨h.os, h.tape, h.output, by simpa using h.size, fun b hb' hs hc => (old b hb').trans (h.old b hb' hs hc), fun b n hr => (h.rd b n hr).of_block (old b hr.lt), fun b t hc ht => (old b hc.lt).trans (h.other b t hc ht), h.le, fun b n hg => g0 _ _ (h.g0 b n hg), fun b n hg => g1 _ _ (h.g1 b n hg), fun b n hg => g2 _ _ (h.g2 b n hg)⟩
theorem SE.put {B rb s ob rs N0 N : Nat} {w0 x : World} {v v' : Value} {room m : Int} (h : SE B rb s ob rs w0 N0 v room N m x) (hv : V2 s x N v') (h2 : w0.heap.size ≤ ob) (h4 : rs ≠ ob) (hB : B ≤ rb) (hr : rb < w0.heap.size) : SE B rb s ob rs w0 N0 v' room N m (x.setCell ⟨ob, 0, none⟩ v') :=
  ⟨by rw [blk_set h.box 0 _]; rfl, hv.apart ⟨_, h.box⟩, (blk_setCell_other _ _ _ _ h4).trans h.res, h.rd.set (by omega) (by omega) _ _, h.ev.own ⟨_, h.box⟩ h2⟩
theorem SE.putRoom {B rb s ob rs N0 N : Nat} {w0 x : World} {v : Value} {room m : Int} (h : SE B rb s ob rs w0 N0 v room N m x) (room' : Int) (h2 : w0.heap.size ≤ ob) (h4 : rs ≠ ob) (hB : B ≤ rb) (hr : rb < w0.heap.size) : SE B rb s ob rs w0 N0 v room' N m (x.setCell ⟨ob, 1, none⟩ (.int .i64 room')) :=
  ⟨by rw [blk_set h.box 1 _]; rfl, h.val.apart ⟨_, h.box⟩, (blk_setCell_other _ _ _ _ h4).trans h.res, h.rd.set (by omega) (by omega) _ _, h.ev.own ⟨_, h.box⟩ h2⟩
theorem SE.fin {B rb s ob rs N0 N : Nat} {w x : World} {v : Value} {room m : Int} (h : SE B rb s ob rs w N0 v room N m x) (h2 : w.heap.size ≤ rs) (hB : B ≤ rb) (hr : rb < w.heap.size) :
    let y := (x.setCell ⟨rs, 0, none⟩ v).setCell ⟨rs, 1, none⟩ (.int .i64 room)
    V2 s y N v ∧ Rd B y rb m ∧ Ev B s N0 N w y ∧ y.cell? ⟨rs, 0, none⟩ = some v ∧ y.cell? ⟨rs, 1, none⟩ = some (.int .i64 room) := by
  intro y
  have h1 := blk_set h.res 0 v
  have hy : y.heap[rs]? = some (repoCells v room) := by
    show ((x.setCell ⟨rs, 0, none⟩ v).setCell ⟨rs, 1, none⟩ (.int .i64 room)).heap[rs]? = _
    rw [blk_set h1 1 _]; rfl
  obtain ⟨c0, c1, _⟩ := two hy
  exact ⟨(h.val.apart ⟨_, h.res⟩).apart ⟨_, h1⟩, (h.rd.set (by omega) (by omega) _ _).set (by omega) (by omega) _ _, (h.ev.own ⟨_, h.res⟩ h2).own ⟨_, h1⟩ h2, c0, c1⟩

set_option maxHeartbeats 1000000 in
theorem of_any (B rb : Nat) (m : Int) (w : World) (h : Rd B w rb m) (hm : m ≤ 1000000) (g n : Nat) (hn : 0 < n) (hn2 : n ≤ 1000) (C : Array Value) (hC : w.heap[g]? = some (.cells C 9 (0, 0))) (hC2 : C.size = n) (hk : ∀ (i : Nat) v, C[i]? = some v → OKs v) :
    Calls Tryz.prog 50 #[.pointer (some ⟨rb, 0, none⟩), .slice (some ⟨g, 0, none⟩) n n] w fun e w' => (∃ t : ByteArray, e = .returned (.string t) ∧ t.size ≤ maxLen) ∧ Rd B w' rb (m + 1) ∧ Wrote B isRd w w' := by
  go_enter Tryz.func50, Tryz.ntmps50
  go_wp2_with fail
  refine (pick_any B rb _ n _ h hm (by omega) (by omega)).mono ?_
  rintro e w1 ⟨⟨r, rfl, hr0, hr1⟩, R1, W1⟩
  have hC' := W1.blk hC strNotRd
  obtain ⟨r, rfl⟩ : ∃ k : Nat, r = k := ⟨r.toNat, by omega⟩
  have hlt : r < C.size := by omega
  obtain ⟨t, ht, htl⟩ := hk r C[r] (by simp [hlt])
  have hc : w1.cell? ⟨g, r, none⟩ = some (.string t) := by rw [cell_of_row w1 g r C _ _ hC', ← ht]; simp [hlt]
  clear hC hC' hk ht
  go_wp2_with fail
  go_ret
  exact ⟨⟨_, rfl, htl⟩, R1, W1⟩
end Go.Proofs.YthkhaemlcmkkjasGreat
