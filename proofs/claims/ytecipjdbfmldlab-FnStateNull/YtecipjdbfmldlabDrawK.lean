/- The specification's drawn packs, one in some spoilt. -/
import Derived.Test.YtecipjdbfmldlabDrawN
namespace Go.Proofs.Ytecipjdbfmldlab
set_option linter.unusedVariables false
set_option linter.unusedSimpArgs false
set_option maxRecDepth 10000
open Go.RowKit Go.Deep

/-- The result's two cells are written. -/
theorem fin_res {B rb s rs N : Nat} {w x : World} {v u0 u1 : Value} {m room : Int} (hres : x.heap[rs]? = some (.cells #[u0, u1] 25 (0, 0))) (hv : V2 s x N v) (hR : Rd B x rb m) (hW : Wrote B isRd w x) (h2 : w.heap.size ≤ rs) (hB : B ≤ rb) (hr : rb < w.heap.size) :
    let y := (x.setCell ⟨rs, 0, none⟩ v).setCell ⟨rs, 1, none⟩ (.int .i64 room)
    V2 s y N v ∧ Rd B y rb m ∧ Wrote B isRd w y ∧ y.cell? ⟨rs, 0, none⟩ = some v ∧ y.cell? ⟨rs, 1, none⟩ = some (.int .i64 room) := by
  intro y
  have h1 := blk_set hres 0 v
  have hy : y.heap[rs]? = some (repoCells v room) := by
    show ((x.setCell ⟨rs, 0, none⟩ v).setCell ⟨rs, 1, none⟩ (.int .i64 room)).heap[rs]? = _
    rw [blk_set h1 1 _]; rfl
  obtain ⟨c0, c1, _⟩ := two hy
  refine ⟨(hv.apart ⟨_, hres⟩).apart ⟨_, h1⟩, (hR.set (by omega) (by omega) _ _).set (by omega) (by omega) _ _, hW.own ?_, c0, c1⟩
  refine Below.setCell (Below.setCell (Below.refl _ _) ?_ _) ?_ _
  · exact h2
  · exact h2

set_option maxHeartbeats 4000000 in
theorem l71Any_V (B rb : Nat) (m most : Int) (w : World) (h : Rd B w rb m) (hm : m ≤ 10000) (hmo : 0 ≤ most ∧ most ≤ 100) :
    Calls Try.prog 23 #[.pointer (some ⟨rb, 0, none⟩), .int .i64 most] w fun e w' => (∃ (v : Value) (room : Int), e = .returned (.agg #[v, .int .i64 room]) ∧ V2 w.heap.size w' 60000 v) ∧ Rd B w' rb (m + 20000) ∧ Wrote B isRd w w' := by
  have hrl := h.lt
  have hpB := h.past
  go_enter Try.func23, Try.ntmps23
  go_wp2_with fail
  refine (l71Repo_V B rb _ most _ (h.alloc _) hm hmo).mono ?_
  rintro e w1 ⟨⟨v, room, rfl, hV⟩, R1, W1⟩
  simp at hV
  obtain ⟨va, vn, vc, rfl, _⟩ := SlBy.slice hV
  have hz1 := W1.size
  simp at hz1
  have res1 := W1.blk (blk_alloc_new w (.cells #[.slice none 0 0, .int .i64 0] 25)) repoNotRd
  have W1' := (Wrote.of_below (B := B) (ts := isRd) ((Below.refl w.heap.size w).alloc (Nat.le_refl _) (.cells #[.slice none 0 0, .int .i64 0] 25))).trans W1
  have bA := (Below.refl w1.heap.size w1).alloc (Nat.le_refl _) (.cells #[.slice va vn vc, .int .i64 room] 25)
  have HR1 := hide (R1.below bA)
  go_wp2_with fail
  refine (pick_any B rb _ 10 _ (unhide HR1) (by omega) (by omega) (by omega)).mono ?_
  rintro e w2 ⟨⟨r, rfl, hr0, hr1⟩, R2, W2⟩
  have e12 : Ev B (w.heap.size + 1) 200 200 w1 w2 := (Ev.of_below bA).trans (Ev.of_wrote W2)
  have hV2 := V2.ev hV e12
  have res2 := (e12.other _ _ ⟨_, res1⟩ alienRepo).trans res1
  have WW := W1'.ev e12 (by omega)
  have box2 := W2.blk (blk_alloc_new w1 (.cells #[.slice va vn vc, .int .i64 room] 25)) repoNotRd
  have hz2 : w.heap.size + 1 ≤ w2.heap.size := Nat.le_trans hz1 e12.size
  obtain ⟨b0, b1, _⟩ := two box2
  clear e12 hV res1 W1 W1' bA HR1 W2 box2 R1
  by_cases hr : r = 0
  · subst hr
    go_wp2_with fail
    refine (l71Spoil_V B rb (w.heap.size + 1) 200 _ va vn vc room _ R2 (by omega) hV2 hz2 (by omega) (by omega)).mono ?_
    rintro e w3 ⟨⟨v3, room3, rfl, hV3⟩, R3, E3⟩
    obtain ⟨a3, n3, c3, rfl, _⟩ := SlBy.slice hV3
    have res3 := (E3.other _ _ ⟨_, res2⟩ alienRepo).trans res2
    obtain ⟨e0, e1, ef⟩ := two res3
    have ef0 := ef 0
    have ef1 := ef 1
    have HF := hide (fin_res (room := room3) res3 hV3 R3 (WW.ev E3 (by omega)) (Nat.le_refl _) hpB hrl)
    clear hV2 R2 res2 res3 WW E3 hV3 R3 ef b0 b1
    go_wp2_with fail
    obtain ⟨f1, f2, f3, R0, R1⟩ := unhide HF
    exact bodyPost_ret (v := .agg #[.slice a3 n3 c3, .int .i64 room3]) (by simp [results, Try.results23, go_sem, R0, R1]) rfl (by
      first
        | exact ⟨⟨_, _, rfl, f1.down (Nat.le_succ _)⟩, f2.more (by omega), f3⟩
        | exact ⟨⟨_, ⟨_, rfl⟩, f1.down (Nat.le_succ _)⟩, f2.more (by omega), f3⟩)
  · have hrb : (r == 0) = false := by simp [hr]
    obtain ⟨e0, e1, ef⟩ := two res2
    have ef0 := ef 0
    have ef1 := ef 1
    have HF := hide (fin_res (room := room) res2 hV2 R2 WW (Nat.le_refl _) hpB hrl)
    clear hV2 R2 res2 WW ef
    go_wp2_with fail
    obtain ⟨f1, f2, f3, R0, R1⟩ := unhide HF
    exact bodyPost_ret (v := .agg #[.slice va vn vc, .int .i64 room]) (by simp [results, Try.results23, go_sem, R0, R1]) rfl (by
      first
        | exact ⟨⟨_, _, rfl, (V2.wider f1 (by omega)).down (Nat.le_succ _)⟩, f2.more (by omega), f3⟩
        | exact ⟨⟨_, ⟨_, rfl⟩, (V2.wider f1 (by omega)).down (Nat.le_succ _)⟩, f2.more (by omega), f3⟩)
end Go.Proofs.Ytecipjdbfmldlab
