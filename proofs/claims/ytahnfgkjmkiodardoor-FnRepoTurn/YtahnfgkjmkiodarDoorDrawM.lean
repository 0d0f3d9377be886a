/- The specification's draws of packs. -/
import Derived.Test.YtahnfgkjmkiodarDoorDrawJ
import Derived.Test.YtahnfgkjmkiodarDoorDrawO
import Derived.Test.YtahnfgkjmkiodarDoorPick
namespace Go.Proofs.YtahnfgkjmkiodarDoor
set_option linter.unusedVariables false
set_option linter.unusedSimpArgs false
open Go.RowKit Go.Deep

theorem V2.down {s s' N : Nat} {x : World} {v : Value} (h : V2 s x N v) (hs : s' ≤ s) : V2 s' x N v := h.lower hs fun _ _ => rfl
theorem CodeAt.up {B B' : Nat} {w : World} {a : Option Addr} {n : Nat} (h : CodeAt B w a n) (hB : B ≤ B') : CodeAt B' w a n := by
  rcases h with h | ⟨b, o, ha, h0, h1, h⟩
  · exact Or.inl h
  · exact Or.inr ⟨b, o, ha, by omega, h1, h⟩
theorem CodeAt.below {B : Nat} {w w' : World} {a : Option Addr} {n : Nat} (h : CodeAt B w a n) (hb : Below w.heap.size w w') (hB : B ≤ w.heap.size) : CodeAt w'.heap.size w' a n :=
  (h.on hb.size fun b hb' => hb.block b (by omega)).up (Nat.le_trans hB hb.size)
theorem Wrote.bel {B B' : Nat} {ts : TypeId → Prop} {w w' : World} (h : Wrote B ts w w') (hB : B' ≤ B) (hw : B' ≤ w.heap.size) : Below B' w w' :=
  ⟨h.os, h.tape, h.output, h.size, fun b hb => h.block b (by omega) (Or.inl (by omega))⟩
theorem Ev.bel {B B' s N N' : Nat} {w w' : World} (h : Ev B s N N' w w') (hB : B' ≤ B) (hs : B' ≤ s) (hw : B' ≤ w.heap.size) : Below B' w w' :=
  ⟨h.os, h.tape, h.output, h.size, fun b hb => h.old b (by omega) (by omega) (Or.inl (by omega))⟩

theorem fin_own {s rs N : Nat} {w x : World} {v u0 u1 : Value} {room : Int} (hres : x.heap[rs]? = some (.cells #[u0, u1] 25 (0, 0))) (hv : V2 s x N v) (hW : Below w.heap.size w x) (h2 : w.heap.size ≤ rs) :
    let y := (x.setCell ⟨rs, 0, none⟩ v).setCell ⟨rs, 1, none⟩ (.int .i64 room)
    V2 s y N v ∧ Below w.heap.size w y ∧ y.cell? ⟨rs, 0, none⟩ = some v ∧ y.cell? ⟨rs, 1, none⟩ = some (.int .i64 room) := by
  intro y
  have h1 := blk_set hres 0 v
  have hy : y.heap[rs]? = some (repoCells v room) := by
    show ((x.setCell ⟨rs, 0, none⟩ v).setCell ⟨rs, 1, none⟩ (.int .i64 room)).heap[rs]? = _
    rw [blk_set h1 1 _]; rfl
  obtain ⟨c0, c1, _⟩ := two hy
  refine ⟨(hv.apart ⟨_, hres⟩).apart ⟨_, h1⟩, ?_, c0, c1⟩
  refine Below.setCell (Below.setCell hW ?_ _) ?_ _
  · exact h2
  · exact h2

set_option maxHeartbeats 4000000 in
theorem DrawRepoOk_V (a : Option Addr) (n c : Nat) (w : World) (h : CodeAt w.heap.size w a n) (hn : n ≤ 1048576) (hc : n ≤ c) (hc2 : c ≤ maxLen) :
    Calls Tryd.prog 4 #[.slice a n c] w fun e w' => (∃ (v : Value) (room : Int), e = .returned (.agg #[v, .int .i64 room]) ∧ V2 w.heap.size w' 60000 v) ∧ Below w.heap.size w w' := by
  have b0 := (Below.refl w.heap.size w).alloc (Nat.le_refl _) (.cells #[.slice none 0 0, .int .i64 0] 25)
  have hcode := h.below b0 (Nat.le_refl _)
  go_enter Tryd.func4, Tryd.ntmps4
  go_wp2_with fail
  refine (l6Open_any a n c _ hcode hn hc hc2).mono ?_
  rintro e w1 ⟨rfl, R1, b1⟩
  simp only [nblk_alloc] at R1 b1
  have hz1 := b1.size
  simp at hz1
  have res1 := (b1.block w.heap.size (Nat.lt_succ_self _)).trans (blk_alloc_new w (.cells #[.slice none 0 0, .int .i64 0] 25))
  have B1 : Below w.heap.size w w1 := b0.trans (b1.mono (Nat.le_succ _))
  have hrl := R1.lt
  clear b0 b1 hcode
  go_wp2_with fail
  refine (l71Repo_V (w.heap.size + 1) (w.heap.size + 1) 0 6 _ R1 (by omega) (by omega)).mono ?_
  rintro e w2 ⟨⟨v, room, rfl, hV⟩, R2, W2⟩
  obtain ⟨va, vn, vc, rfl, _⟩ := SlBy.slice hV
  have hz2 := W2.size
  have res2 := W2.blk res1 repoNotRd
  have B2 := B1.trans (W2.bel (Nat.le_succ _) (by omega))
  have bA := (Below.refl w2.heap.size w2).alloc (Nat.le_refl _) (.cells #[.slice va vn vc, .int .i64 room] 25)
  have HR2 := hide (R2.below bA)
  clear R1 W2
  go_wp2_with fail
  refine (pick_any _ _ _ 2 _ (unhide HR2) (by omega) (by omega) (by omega)).mono ?_
  rintro e w3 ⟨⟨r, rfl, hr0, hr1⟩, R3, W3⟩
  have e23 : Ev (w.heap.size + 1) w1.heap.size 200 200 w2 w3 := (Ev.of_below bA).trans (Ev.of_wrote W3)
  have hV3 := V2.ev hV e23
  have res3 := (e23.other _ _ ⟨_, res2⟩ alienRepo).trans res2
  have B3 := B2.trans (e23.bel (B' := w.heap.size) (by omega) (by omega) (by omega))
  have box3 := W3.blk (blk_alloc_new w2 (.cells #[.slice va vn vc, .int .i64 room] 25)) repoNotRd
  have hz3 : w1.heap.size ≤ w3.heap.size := Nat.le_trans hz2 e23.size
  obtain ⟨x0, x1, _⟩ := two box3
  clear e23 hV res1 res2 bA HR2 W3 box3 R2 B1 B2
  by_cases hr : r = 0
  · subst hr
    go_wp2_with fail
    refine (l71Spoil_V (w.heap.size + 1) (w.heap.size + 1) w1.heap.size 200 _ va vn vc room _ R3 (by omega) hV3 hz3 hrl (by omega)).mono ?_
    rintro e w4 ⟨⟨v4, room4, rfl, hV4⟩, R4, E4⟩
    obtain ⟨a4, n4, c4, rfl, _⟩ := SlBy.slice hV4
    have res4 := (E4.other _ _ ⟨_, res3⟩ alienRepo).trans res3
    obtain ⟨e0, e1, ef⟩ := two res4
    have ef0 := ef 0
    have ef1 := ef 1
    have HF := hide (fin_own (room := room4) res4 hV4 (B3.trans (E4.bel (B' := w.heap.size) (by omega) (by omega) (by omega))) (Nat.le_refl _))
    clear hV3 R3 res3 res4 B3 E4 hV4 R4 ef x0 x1
    go_wp2_with fail
    obtain ⟨f1, f3, R0, R1⟩ := unhide HF
    exact bodyPost_ret (v := .agg #[.slice a4 n4 c4, .int .i64 room4]) (by simp [results, Tryd.results4, go_sem, R0, R1]) rfl (by
      first
        | exact ⟨⟨_, _, rfl, f1.down (by omega)⟩, f3⟩
        | exact ⟨⟨_, ⟨_, rfl⟩, f1.down (by omega)⟩, f3⟩)
  · have hrb : (r == 0) = false := by simp [hr]
    obtain ⟨e0, e1, ef⟩ := two res3
    have ef0 := ef 0
    have ef1 := ef 1
    have HF := hide (fin_own (room := room) res3 hV3 B3 (Nat.le_refl _))
    clear hV3 R3 res3 B3 ef
    go_wp2_with fail
    obtain ⟨f1, f3, R0, R1⟩ := unhide HF
    exact bodyPost_ret (v := .agg #[.slice va vn vc, .int .i64 room]) (by simp [results, Tryd.results4, go_sem, R0, R1]) rfl (by
      first
        | exact ⟨⟨_, _, rfl, (V2.wider f1 (by omega)).down (by omega)⟩, f3⟩
        | exact ⟨⟨_, ⟨_, rfl⟩, (V2.wider f1 (by omega)).down (by omega)⟩, f3⟩)

end Go.Proofs.YtahnfgkjmkiodarDoor
