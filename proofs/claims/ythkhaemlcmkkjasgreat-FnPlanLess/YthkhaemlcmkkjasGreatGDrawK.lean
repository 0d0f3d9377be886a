/- The specification's reader is opened. Slices of good blocks are plain data, laid in what is there. What the draws leave: smaller facts. The specification's drawn packs, one in some spoilt. A code that came in, opened. -/
import Derived.Test.YthkhaemlcmkkjasGreatGDrawB
import Derived.Test.YthkhaemlcmkkjasGreatGDrawH
import Derived.Test.YthkhaemlcmkkjasGreatDrawJ
import Derived.ProofKit
import Derived.OpenShut
import Derived.ChangeOld
import Derived.Deep.Slices
namespace Go.Proofs.YthkhaemlcmkkjasGreat
set_option linter.unusedVariables false
set_option linter.unusedSimpArgs false
open Go.RowKit Go.Deep

theorem CodeAt.less {B : Nat} {w : World} {a : Option Addr} {n n' : Nat} (h : CodeAt B w a n) (hn : n' ≤ n) : CodeAt B w a n' := by
  rcases h with h | ⟨b, o, ha, h0, h1, h⟩
  · exact Or.inl (by omega)
  · exact Or.inr ⟨b, o, ha, h0, h1, fun i hi => h i (by omega)⟩
theorem Rd.made {w : World} {a : Option Addr} {n c : Nat} (h : CodeAt w.heap.size w a n) (hn : n ≤ 2000) : Rd w.heap.size (w.alloc (.cells #[.slice a n c, .int .i64 0] 70 (0, 0))) w.heap.size 0 :=
  ⟨Nat.le_refl _, a, n, c, 0, blk_alloc_new _ _, by omega, by omega, hn, h.on (by simp) (fun b hb => blk_alloc_lt _ _ _ hb)⟩

set_option maxHeartbeats 1000000 in
theorem l6Open_any (a : Option Addr) (n c : Nat) (w : World) (h : CodeAt w.heap.size w a n) (hn : n ≤ 1048576) (hc : n ≤ c) (hc2 : c ≤ maxLen) :
    Calls Tryz.prog 10 #[.slice a n c] w fun e w' => e = .returned (.pointer (some ⟨w.heap.size, 0, none⟩)) ∧ Rd w.heap.size w' w.heap.size 0 ∧ Below w.heap.size w w' := by
  unfold maxLen at hc2
  by_cases hb : 2000 < n
  · have hb' : (2000 : Int) < (n : Int) := by omega
    obtain ⟨b, o, rfl, hr⟩ := h.resolve_left (by omega)
    have HC := hide (show CodeAt w.heap.size w (some ⟨b, o, none⟩) 2000 from (CodeAt.less (Or.inr ⟨b, o, rfl, hr⟩) (by omega)))
    clear hr
    go_enter Tryz.func10, Tryz.ntmps10
    go_wp2_with fail
    go_ret
    exact ⟨rfl, Rd.made (unhide HC) (by omega), (Below.refl _ _).alloc (Nat.le_refl _) _⟩
  · have hb' : ¬ (2000 : Int) < (n : Int) := by omega
    go_enter Tryz.func10, Tryz.ntmps10
    go_wp2_with fail
    go_ret
    exact ⟨rfl, Rd.made h (by omega), (Below.refl _ _).alloc (Nat.le_refl _) _⟩
end Go.Proofs.YthkhaemlcmkkjasGreat

namespace Go.Proofs.YthkhaemlcmkkjasGreat
set_option linter.unusedVariables false
set_option linter.unusedSimpArgs false
set_option maxRecDepth 10000
open Go.RowKit Go.Deep

theorem list_by {α : Type} {n : Nat} {p : Nat → α → Prop} (d : α) (h : ∀ i, i < n → ∃ x, p i x) : ∃ l : List α, l.length = n ∧ ∀ i, i < n → p i (l.getD i d) := by
  classical
  let f : Nat → α := fun i => if hi : i < n then Classical.choose (h i hi) else d
  refine ⟨(List.range n).map f, by simp, fun i hi => ?_⟩
  have e : ((List.range n).map f).getD i d = f i := by simp [List.getD, hi]
  rw [e]
  show p i (if hi : i < n then Classical.choose (h i hi) else d)
  rw [dif_pos hi]
  exact Classical.choose_spec (h i hi)

theorem V0.reqs {s N n c : Nat} {w : World} {a : Option Addr} (h : V0 s w N (.slice a n c)) : ∃ l : List ReqD, l.length = n ∧ ReqsAt (Old w) w a l := by
  by_cases hn : n = 0
  · subst hn
    exact ⟨[], rfl, Nat.zero_le _, Or.inl rfl⟩
  · have hm : n ≤ maxLen := by
      obtain ⟨_, _, _, he, h1, _, h3⟩ := SlBy.slice h
      simp at he
      omega
    obtain ⟨g, C, rfl, hs, hC, hk, h1, h2, ho⟩ := SlBy.addr h (by omega)
    have e : ∀ j, j < C.size → ∃ u, w.cell? ⟨g, j, none⟩ = some u ∧ OK0 j u := fun j hj => ⟨C[j], by rw [cell_of_row w g _ C _ _ hC]; simp [hj], ho _ _ (by simp [hj])⟩
    obtain ⟨l, hl, hq⟩ := list_by (p := fun i q => ReqAt w g (0 + i * 3) q) dReq (fun i (hi : i < n) => by
      obtain ⟨u0, c0, o0⟩ := e (0 + i * 3) (by omega)
      obtain ⟨u1, c1, o1⟩ := e (0 + i * 3 + 1) (by omega)
      obtain ⟨u2, c2, o2⟩ := e (0 + i * 3 + 2) (by omega)
      obtain ⟨x, rfl, hx⟩ := o0.1 (by omega)
      obtain ⟨y, rfl⟩ := o1.2 (by omega)
      obtain ⟨z, rfl⟩ := o2.2 (by omega)
      exact ⟨⟨x, y, z⟩, c0, c1, c2, hx⟩)
    subst hl
    exact ⟨l, rfl, hm, Or.inr ⟨g, 0, rfl, (Array.getElem?_eq_some_iff.1 hC).1, hq⟩⟩
theorem V1.rows {s N n c : Nat} {w : World} {a : Option Addr} (h : V1 s w N (.slice a n c)) : ∃ l : List (List ReqD), l.length = n ∧ RowsAt (Old w) w a l := by
  by_cases hn : n = 0
  · subst hn
    exact ⟨[], rfl, Nat.zero_le _, Or.inl rfl⟩
  · have hm : n ≤ maxLen := by
      obtain ⟨_, _, _, he, h1, _, h3⟩ := SlBy.slice h
      simp at he
      omega
    obtain ⟨g, C, rfl, hs, hC, hk, h1, h2, ho⟩ := SlBy.addr h (by omega)
    obtain ⟨l, hl, hq⟩ := list_by (p := fun i r => ∃ a' c, w.cell? ⟨g, 0 + i, none⟩ = some (.slice a' r.length c) ∧ ReqsAt (Old w) w a' r) [] (fun i (hi : i < n) => by
      have hj : i < C.size := by omega
      have hv := ho i C[i] (by simp [hj])
      obtain ⟨a', n', c', he, _⟩ := SlBy.slice hv
      rw [he] at hv
      obtain ⟨r, hr, hR⟩ := V0.reqs hv
      refine ⟨r, a', c', ?_, hR⟩
      rw [hr, Nat.zero_add, cell_of_row w g _ C _ _ hC, ← he]
      simp [hj])
    subst hl
    exact ⟨l, rfl, hm, Or.inr ⟨g, 0, rfl, (Array.getElem?_eq_some_iff.1 hC).1, hq⟩⟩
theorem V2.packs {s N n c : Nat} {w : World} {a : Option Addr} (h : V2 s w N (.slice a n c)) : ∃ l : List PackD, l.length = n ∧ PacksAt (Old w) w a l := by
  by_cases hn : n = 0
  · subst hn
    exact ⟨[], rfl, Nat.zero_le _, Or.inl rfl⟩
  · have hm : n ≤ maxLen := by
      obtain ⟨_, _, _, he, h1, _, h3⟩ := SlBy.slice h
      simp at he
      omega
    obtain ⟨g, C, rfl, hs, hC, hk, h1, h2, ho⟩ := SlBy.addr h (by omega)
    obtain ⟨l, hl, hq⟩ := list_by (p := fun i p => PackAt (Old w) w g (0 + i * 6) p) dPack (fun i (hi : i < n) => by
      obtain ⟨x, y, z, v1, v2, v3, k0, k1, k2, k3, k4, k5, hP⟩ := V2.pack h hi
      obtain ⟨a1, n1, c1, rfl, _⟩ := SlBy.slice hP.deps
      obtain ⟨a2, n2, c2, rfl, _⟩ := SlBy.slice hP.pres
      obtain ⟨a3, n3, c3, rfl, _⟩ := SlBy.slice hP.bans
      obtain ⟨l1, e1, r1⟩ := V1.rows hP.deps
      obtain ⟨l2, e2, r2⟩ := V0.reqs hP.pres
      obtain ⟨l3, e3, r3⟩ := V0.reqs hP.bans
      subst e1 e2 e3
      rw [Nat.zero_add]
      exact ⟨⟨x, y, z, l1, l2, l3⟩, a1, c1, a2, c2, a3, c3, ⟨k0, k1, k2, k3, k4, k5⟩, hP.len, r1, r2, r3⟩)
    subst hl
    exact ⟨l, rfl, hm, Or.inr ⟨g, 0, rfl, (Array.getElem?_eq_some_iff.1 hC).1, hq⟩⟩
end Go.Proofs.YthkhaemlcmkkjasGreat

namespace Go.Proofs.YthkhaemlcmkkjasGreat
set_option linter.unusedVariables false
set_option linter.unusedSimpArgs false
set_option maxRecDepth 10000
open Go.RowKit Go.Deep

theorem V2.down {s s' N : Nat} {x : World} {v : Value} (h : V2 s x N v) (hs : s' ≤ s) : V2 s' x N v := h.lower hs fun _ _ => rfl
theorem CodeAt.up {B B' : Nat} {w : World} {a : Option Addr} {n : Nat} (h : CodeAt B w a n) (hB : B ≤ B') : CodeAt B' w a n := by
  rcases h with h | ⟨b, o, ha, h0, h1, h⟩
  · exact Or.inl h
  · exact Or.inr ⟨b, o, ha, by omega, h1, h⟩
theorem CodeAt.below {B : Nat} {w w' : World} {a : Option Addr} {n : Nat} (h : CodeAt B w a n) (hb : Below w.heap.size w w') (hB : B ≤ w.heap.size) : CodeAt w'.heap.size w' a n :=
  (h.on hb.size fun b hb' => hb.block b (by omega)).up (Nat.le_trans hB hb.size)
theorem Wrote.bel {B B' : Nat} {ts : TypeId → Prop} {w w' : World} (h : Wrote B ts w w') (hB : B' ≤ B) (hw : B' ≤ w.heap.size) : Below B' w w' :=
  ⟨h.os, h.tape, h.output, h.size, fun b hb => h.block b (by omega) (Or.inl (by omega))⟩
theorem Ev.bel {B B' s N N' : Nat} {w w' : World} (h : Ev B s N N' w w') (hB : B' ≤ B) (hs : B' ≤ s) (hw : B' ≤ w.heap.size) : Below B' w w' :=
  ⟨h.os, h.tape, h.output, h.size, fun b hb => h.old b (by omega) (by omega) (Or.inl (by omega))⟩

theorem fin_own {s rs N : Nat} {w x : World} {v u0 u1 : Value} {room : Int} (hres : x.heap[rs]? = some (.cells #[u0, u1] 25 (0, 0))) (hv : V2 s x N v) (hW : Below w.heap.size w x) (h2 : w.heap.size ≤ rs) :
    let y := (x.setCell ⟨rs, 0, none⟩ v).setCell ⟨rs, 1, none⟩ (.int .i64 room)
    V2 s y N v ∧ Below w.heap.size w y ∧ y.cell? ⟨rs, 0, none⟩ = some v ∧ y.cell? ⟨rs, 1, none⟩ = some (.int .i64 room) := by
  intro y
  have h1 := blk_set hres 0 v
  have hy : y.heap[rs]? = some (repoCells v room) := by
    show ((x.setCell ⟨rs, 0, none⟩ v).setCell ⟨rs, 1, none⟩ (.int .i64 room)).heap[rs]? = _
    rw [blk_set h1 1 _]; rfl
  obtain ⟨c0, c1, _⟩ := two hy
  refine ⟨(hv.apart ⟨_, hres⟩).apart ⟨_, h1⟩, ?_, c0, c1⟩
  refine Below.setCell (Below.setCell hW ?_ _) ?_ _
  · exact h2
  · exact h2
end Go.Proofs.YthkhaemlcmkkjasGreat

namespace Go.Proofs.YthkhaemlcmkkjasGreat
set_option linter.unusedVariables false
set_option linter.unusedSimpArgs false
set_option maxRecDepth 10000
open Go.RowKit Go.Deep

/-- The result's two cells are written. -/
theorem fin_res {B rb s rs N : Nat} {w x : World} {v u0 u1 : Value} {m room : Int} (hres : x.heap[rs]? = some (.cells #[u0, u1] 25 (0, 0))) (hv : V2 s x N v) (hR : Rd B x rb m) (hW : Wrote B isRd w x) (h2 : w.heap.size ≤ rs) (hB : B ≤ rb) (hr : rb < w.heap.size) :
    let y := (x.setCell ⟨rs, 0, none⟩ v).setCell ⟨rs, 1, none⟩ (.int .i64 room)
    V2 s y N v ∧ Rd B y rb m ∧ Wrote B isRd w y ∧ y.cell? ⟨rs, 0, none⟩ = some v ∧ y.cell? ⟨rs, 1, none⟩ = some (.int .i64 room) := by
  intro y
  have h1 := blk_set hres 0 v
  have hy : y.heap[rs]? = some (repoCells v room) := by
    show ((x.setCell ⟨rs, 0, none⟩ v).setCell ⟨rs, 1, none⟩ (.int .i64 room)).heap[rs]? = _
    rw [blk_set h1 1 _]; rfl
  obtain ⟨c0, c1, _⟩ := two hy
  refine ⟨(hv.apart ⟨_, hres⟩).apart ⟨_, h1⟩, (hR.set (by omega) (by omega) _ _).set (by omega) (by omega) _ _, hW.own ?_, c0, c1⟩
  refine Below.setCell (Below.setCell (Below.refl _ _) ?_ _) ?_ _
  · exact h2
  · exact h2

set_option maxHeartbeats 4000000 in
theorem l71Any_V (B rb : Nat) (m most : Int) (w : World) (h : Rd B w rb m) (hm : m ≤ 10000) (hmo : 0 ≤ most ∧ most ≤ 100) :
    Calls Tryz.prog 11 #[.pointer (some ⟨rb, 0, none⟩), .int .i64 most] w fun e w' => (∃ (v : Value) (room : Int), e = .returned (.agg #[v, .int .i64 room]) ∧ V2 w.heap.size w' 60000 v) ∧ Rd B w' rb (m + 20000) ∧ Wrote B isRd w w' := by
  have hrl := h.lt
  have hpB := h.past
  go_enter Tryz.func11, Tryz.ntmps11
  go_wp2_with fail
  refine (l71Repo_V B rb _ most _ (h.alloc _) hm hmo).mono ?_
  rintro e w1 ⟨⟨v, room, rfl, hV⟩, R1, W1⟩
  simp at hV
  obtain ⟨va, vn, vc, rfl, _⟩ := SlBy.slice hV
  have hz1 := W1.size
  simp at hz1
  have res1 := W1.blk (blk_alloc_new w (.cells #[.slice none 0 0, .int .i64 0] 25)) repoNotRd
  have W1' := (Wrote.of_below (B := B) (ts := isRd) ((Below.refl w.heap.size w).alloc (Nat.le_refl _) (.cells #[.slice none 0 0, .int .i64 0] 25))).trans W1
  have bA := (Below.refl w1.heap.size w1).alloc (Nat.le_refl _) (.cells #[.slice va vn vc, .int .i64 room] 25)
  have HR1 := hide (R1.below bA)
  go_wp2_with fail
  refine (pick_any B rb _ 10 _ (unhide HR1) (by omega) (by omega) (by omega)).mono ?_
  rintro e w2 ⟨⟨r, rfl, hr0, hr1⟩, R2, W2⟩
  have e12 : Ev B (w.heap.size + 1) 200 200 w1 w2 := (Ev.of_below bA).trans (Ev.of_wrote W2)
  have hV2 := V2.ev hV e12
  have res2 := (e12.other _ _ ⟨_, res1⟩ alienRepo).trans res1
  have WW := W1'.ev e12 (by omega)
  have box2 := W2.blk (blk_alloc_new w1 (.cells #[.slice va vn vc, .int .i64 room] 25)) repoNotRd
  have hz2 : w.heap.size + 1 ≤ w2.heap.size := Nat.le_trans hz1 e12.size
  obtain ⟨b0, b1, _⟩ := two box2
  clear e12 hV res1 W1 W1' bA HR1 W2 box2 R1
  by_cases hr : r = 0
  · subst hr
    go_wp2_with fail
    refine (l71Spoil_V B rb (w.heap.size + 1) 200 _ va vn vc room _ R2 (by omega) hV2 hz2 (by omega) (by omega)).mono ?_
    rintro e w3 ⟨⟨v3, room3, rfl, hV3⟩, R3, E3⟩
    obtain ⟨a3, n3, c3, rfl, _⟩ := SlBy.slice hV3
    have res3 := (E3.other _ _ ⟨_, res2⟩ alienRepo).trans res2
    obtain ⟨e0, e1, ef⟩ := two res3
    have ef0 := ef 0
    have ef1 := ef 1
    have HF := hide (fin_res (room := room3) res3 hV3 R3 (WW.ev E3 (by omega)) (Nat.le_refl _) hpB hrl)
    clear hV2 R2 res2 res3 WW E3 hV3 R3 ef b0 b1
    go_wp2_with fail
    obtain ⟨f1, f2, f3, R0, R1⟩ := unhide HF
    exact bodyPost_ret (v := .agg #[.slice a3 n3 c3, .int .i64 room3]) (by simp [results, Tryz.results11, go_sem, R0, R1]) rfl (by
      first
        | exact ⟨⟨_, _, rfl, f1.down (Nat.le_succ _)⟩, f2.more (by omega), f3⟩
        | exact ⟨⟨_, ⟨_, rfl⟩, f1.down (Nat.le_succ _)⟩, f2.more (by omega), f3⟩)
  · have hrb : (r == 0) = false := by simp [hr]
    obtain ⟨e0, e1, ef⟩ := two res2
    have ef0 := ef 0
    have ef1 := ef 1
    have HF := hide (fin_res (room := room) res2 hV2 R2 WW (Nat.le_refl _) hpB hrl)
    clear hV2 R2 res2 WW ef
    go_wp2_with fail
    obtain ⟨f1, f2, f3, R0, R1⟩ := unhide HF
    exact bodyPost_ret (v := .agg #[.slice va vn vc, .int .i64 room]) (by simp [results, Tryz.results11, go_sem, R0, R1]) rfl (by
      first
        | exact ⟨⟨_, _, rfl, (V2.wider f1 (by omega)).down (Nat.le_succ _)⟩, f2.more (by omega), f3⟩
        | exact ⟨⟨_, ⟨_, rfl⟩, (V2.wider f1 (by omega)).down (Nat.le_succ _)⟩, f2.more (by omega), f3⟩)
end Go.Proofs.YthkhaemlcmkkjasGreat

namespace Go.Proofs.YthkhaemlcmkkjasGreat
set_option linter.unusedVariables false
set_option linter.unusedSimpArgs false
open Go.RowKit Go.Deep Go.ChangeShapes Go.WideShapes

theorem Tryz.cellsByte : Tryz.prog.cellsOf 5 = 1 := by kernel_rfl
section
variable {H : Type} {enc : TypeId × Value → H} {W : World} {base : Nat} {spare : Nat → Bool} {held : Bool}
theorem byte_wf {z : Int} (h : (Lit.int .u8 z).wf = true) : 0 ≤ z ∧ z ≤ 255 := by
  have e0 : IntKind.u8.min = 0 := by first | rfl | decide
  have e1 : IntKind.u8.max = 255 := by first | rfl | decide
  simp [Lit.wf] at h
  omega
theorem open_code {n : Nat} {v : Value} {x : DataW H × List MemPlace} (h : DataW.trod enc Tryz.prog W base spare held n 22 [v] = some x) : ∃ (a : Option Addr) (len cap : Nat), v = .slice a len cap ∧ len ≤ cap ∧ cap ≤ maxLen ∧ CodeAt W.heap.size W a len := by
  rcases open_slice Tryz.underlying22 h with ⟨hcs, _⟩ | ⟨a, len, cap, m, n', D, Pl, hcs, _, hl, hm, hmm, _, hel⟩
  · simp at hcs
    exact ⟨none, 0, 0, hcs, Nat.le_refl _, Nat.zero_le _, Or.inl rfl⟩
  · simp at hcs
    rw [Tryz.cellsByte] at hel
    refine ⟨some a, len, cap, hcs, hl, hm, ?_⟩
    by_cases h0 : len = 0
    · exact Or.inl h0
    · have hlm : len ≤ m := by rw [hmm]; split <;> omega
      obtain ⟨cs0, hc0, _⟩ := hel 0 (by omega)
      obtain ⟨_, hl0, hcell0⟩ := World.cells?_some hc0
      have h00 := hcell0 0 (by omega)
      rw [List.getElem?_eq_getElem (by omega)] at h00
      obtain ⟨b, o, sp⟩ := a
      have hs : sp = none := by simpa [Addr.add] using World.cell?_spot h00
      subst hs
      have hb := block_lt_of_cell h00
      simp [Addr.add] at hb
      refine Or.inr ⟨b, o, rfl, hb, hb, fun i hi => ?_⟩
      obtain ⟨cs, hc, ht⟩ := hel i (by omega)
      obtain ⟨z, he, _, hwf⟩ := DataW.trod_int Tryz.underlying5 ht
      subst he
      obtain ⟨_, _, hcell⟩ := World.cells?_some hc
      have := hcell 0 (by omega)
      rw [add_add, add_plain] at this
      exact ⟨z, by simpa using this, byte_wf hwf⟩
end
end Go.Proofs.YthkhaemlcmkkjasGreat
