/- States with one more and one less: by places and by bits. The specification's StepAll. What comes of a step: the program's way and the specification's. Steps in memory. All steps that there might be are told once. What a step that is allowed does: pure facts. What the laws of steps ask: pure facts. What the laws of steps ask: pure facts, by looks at numbers. -/
import Derived.Test.YthkhaemlcmkkjayGStL
import Derived.Test.YthkhaemlcmkkjayGMw
import Derived.Test.YthkhaemlcmkkjayGBase
import Derived.Test.YthkhaemlcmkkjayGSpecP
import Derived.Test.YthkhaemlcmkkjayGMv
import Derived.Test.YthkhaemlcmkkjayGSpec
import Derived.Test.YthkhaemlcmkkjayGGrow
import Derived.Deep.QuietTactic
namespace Go.Proofs.Ythkhaemlcmkkjay
set_option linter.unusedVariables false
set_option linter.unusedSimpArgs false
open Go.RowKit Go.Deep

/-! ### What is in form, by its members -/
end Go.Proofs.Ythkhaemlcmkkjay

namespace Go.Proofs.Ythkhaemlcmkkjay
set_option linter.unusedVariables false
set_option linter.unusedSimpArgs false
open Go.RowKit Go.Deep

def stepVs (ss : List StepD) : List Value := ss.flatMap fun s => [.int .i64 s.kind, .int .i64 s.inn, .int .i64 s.out]
theorem stepVs_len : ∀ ss : List StepD, (stepVs ss).length = ss.length * 3
  | [] => rfl
  | s :: ss => by
    have := stepVs_len ss
    unfold stepVs at this ⊢
    simp only [List.flatMap_cons, List.length_append, this, List.length_cons, List.length_nil]
    omega
theorem steps_snoc (ms : List MvD) (m : MvD) : stepVs ((ms ++ [m]).map MvD.step) = stepVs (ms.map MvD.step) ++ stepVs [m.step] := by simp [stepVs]
theorem Try.infoStep : (Try.prog.info? 44).map (fun i => (i.zero, i.size, i.bytes)) = some (some (.agg #[.int .i64 0, .int .i64 0, .int .i64 0]), 3, 24) := by kernel_rfl
/-- Another one of the same name. -/
def twB (l : List PackD) (i j : Nat) : Bool := decide (i ≠ j) && ((l.getD i dPack).name.toList == (l.getD j dPack).name.toList)
def swTo (l : List PackD) (i k : Nat) : List MvD := ((List.range k).filter (twB l i)).map fun j => MvD.swap j i
def swS (l : List PackD) (i : Nat) : List MvD := swTo l i l.length
theorem swTo_succ (l : List PackD) (i k : Nat) : swTo l i (k + 1) = swTo l i k ++ (if twB l i k then [MvD.swap k i] else []) := by
  unfold swTo
  rw [List.range_succ, List.filter_append, List.map_append]
  congr 1
  by_cases h : twB l i k = true
  · simp [h]
  · simp at h; simp [h]
theorem swTo_le (l : List PackD) (i k : Nat) : (swTo l i k).length ≤ k := by
  unfold swTo
  rw [List.length_map]
  have := List.length_filter_le (twB l i) (List.range k)
  simpa using this
theorem swS_le (l : List PackD) : ∀ k, ((List.range k).flatMap (swS l)).length ≤ l.length * k
  | 0 => by simp
  | k + 1 => by
    have := swS_le l k
    have := swTo_le l k l.length
    rw [range_flat_succ, List.length_append, Nat.mul_succ]
    unfold swS at *
    omega
theorem range_filter_le {n m : Nat} (h : n ≤ m) (f : Nat → Bool) : (List.range m).filter (fun j => decide (j < n) && f j) = (List.range n).filter f := by
  induction m with
  | zero => rw [show n = 0 by omega]; rfl
  | succ m ih =>
    by_cases hn : n ≤ m
    · rw [List.range_succ, List.filter_append, ih hn]
      simp [show ¬ m < n by omega]
    · have hnm : n = m + 1 := by omega
      subst hnm
      apply List.filter_congr
      intro j hj
      have := List.mem_range.1 hj
      rw [decide_eq_true this, Bool.true_and]
/-- The program's twins are the specification's. -/
theorem swaps_same {l : List PackD} (hok : OkL l) (hl : l.length ≤ 8) {i : Nat} (hi : i < l.length) : swapsAt l i = swS l i := by
  unfold swapsAt swS swTo
  congr 1
  unfold placesTo twN
  rw [← range_filter_le hl]
  apply List.filter_congr
  intro j hj
  rw [has_test, test_bitsTo]
  by_cases hjl : j < l.length
  · have hv := hok.ver j hjl
    simp only [decide_eq_true hjl, Bool.true_and]
    unfold fitsB twB
    show ((((l.getD j dPack).name.toList == (l.getD i dPack).name.toList) && inB (l.getD j dPack).ver 0 99) && decide (j ≠ i)) = _
    rw [hv, Bool.and_true, Bool.and_comm]
    congr 1
    · exact decide_eq_decide.2 ⟨Ne.symm, Ne.symm⟩
    · rw [Bool.eq_iff_iff, beq_iff_eq, beq_iff_eq]
      exact ⟨Eq.symm, Eq.symm⟩
  · simp [hjl]
theorem moves_same {l : List PackD} (hok : OkL l) (hl : l.length ≤ 8) : movesL l = (List.range l.length).map MvD.put ++ ((List.range l.length).map MvD.take ++ (List.range l.length).flatMap (swS l)) := by
  unfold movesL
  congr 2
  have : ∀ k, k ≤ l.length → (List.range k).flatMap (swapsAt l) = (List.range k).flatMap (swS l) := fun k => by
    induction k with
    | zero => intro _; rfl
    | succ k ih => intro hk; rw [range_flat_succ, range_flat_succ, ih (by omega), swaps_same hok hl (by omega)]
  exact this _ (Nat.le_refl _)
def stepsL (l : List PackD) (room : Int) : List StepD := if repoB ⟨l, room⟩ then (movesL l).map MvD.step else []

theorem box_kept {w3 : World} {v v' : Value} {B : Nat} {o : Obj} {u : Value} {wo : World} (h : wo.cell? ⟨B, 0, none⟩ = some u ∧ B < wo.heap.size ∧ ∀ g, v.ownBlock = some g → B < g) (hg : (wo.alloc o).grownBy w3 v.ownBlock) (hf : v'.ownBlock = v.ownBlock ∨ v'.ownBlock = some (wo.heap.size + 1)) : w3.cell? ⟨B, 0, none⟩ = some u ∧ B < w3.heap.size ∧ ∀ g, v'.ownBlock = some g → B < g := by
  obtain ⟨h1, h2, h3⟩ := h
  have hz := hg.size
  simp at hz
  refine ⟨?_, by omega, fun g hv => ?_⟩
  · rw [World.cell?_of_block (w := wo) (a := ⟨B, 0, none⟩)]
    · exact h1
    · rw [hg.block B (by simp; omega) (fun e => by have := h3 B e.symm; omega)]
      exact blk_alloc_lt _ _ _ h2
  · rcases hf with hf | hf
    · exact h3 g (hf.symm.trans hv)
    · rw [hf] at hv
      simp at hv
      omega
theorem row_drew {w : World} {B : Nat} {e : TypeId} {s : Nat} {v : Value} {n : Nat} {xs : List Value} (h : w.ownsRow B e s v n xs) (k : Nat) : (w.drewN k).ownsRow B e s v n xs := ownsRow_on h (((Drawn.refl w).more k).below _)
theorem below_drewN' {B : Nat} {a w : World} (h : Below B a w) (n : Nat) : Below B a (w.drewN n) := h.trans (((Drawn.refl w).more n).below B)
theorem box_drew {w : World} {B : Nat} {u v : Value} (h : w.cell? ⟨B, 0, none⟩ = some u ∧ B < w.heap.size ∧ ∀ g, v.ownBlock = some g → B < g) (n : Nat) : (w.drewN n).cell? ⟨B, 0, none⟩ = some u ∧ B < (w.drewN n).heap.size ∧ ∀ g, v.ownBlock = some g → B < g := by
  have b := ((Drawn.refl w).more n).below w.heap.size
  exact ⟨(b.cell (p := ⟨B, 0, none⟩) h.2.1).trans h.1, Nat.lt_of_lt_of_le h.2.1 b.size, h.2.2⟩

set_option maxRecDepth 100000 in
set_option maxHeartbeats 8000000 in
theorem specStepAll_any (a : Option Addr) (l : List PackD) (cap : Nat) (room : Int) (w : World) (h : PacksAt (Old w) w a l) :
    Calls Try.prog 57 #[.agg #[.slice a l.length cap, .int .i64 room]] w fun e w' => (∃ v, e = .returned v ∧ w'.ownsRow w.heap.size 44 3 v (stepsL l room).length (stepVs (stepsL l room))) ∧ Below w.heap.size w w' := by
  obtain ⟨i0, hi, hz0, hz1, hz2⟩ := info_parts Try.infoStep
  have b1 := ((Below.refl w.heap.size w).alloc (Nat.le_refl _) (.cells #[.slice a l.length cap, .int .i64 room] 31)).alloc (by simp) (.cells #[] 44)
  have HP := hide (h.on b1)
  have HPw := hide h
  clear h
  go_enter Try.func57, Try.ntmps57
  go_wp2_with fail
  refine (specRepoOk_any a l cap room _ (unhide HP)).mono ?_
  rintro e w0 ⟨rfl, hb0⟩
  have hz := hb0.size
  simp at hz
  have HB0 := hide (b1.trans (hb0.mono (by simp; omega)))
  have x0 := hb0.cell (p := ⟨w.heap.size, 0, none⟩) (by simp; omega)
  simp at x0
  have own0 : w0.ownsRow w.heap.size 44 3 (.slice (some ⟨w.heap.size + 1, 0, none⟩) 0 0) 0 [] := by
    refine ⟨rfl, Or.inr ⟨w.heap.size + 1, 0, #[], rfl, by omega, ?_, Nat.zero_le _, Nat.zero_le _, rfl, rfl⟩⟩
    rw [hb0.block (w.heap.size + 1) (by simp)]
    have := blk_alloc_new (w.alloc (.cells #[.slice a l.length cap, .int .i64 room] 31)) (.cells #[] 44)
    simpa using this
  have HO0 := hide own0
  clear HP hb0 b1 own0
  cases hrb : repoB ⟨l, room⟩ with
  | false =>
    have HE := hide (show stepsL l room = [] by unfold stepsL; rw [hrb]; rfl)
    clear hrb
    go_wp2_with fail
    go_ret
    exact ⟨⟨_, rfl, by rw [unhide HE]; exact unhide HO0⟩, unhide HB0⟩
  | true =>
    have hl8 : l.length ≤ 8 := by
      simp only [repoB, Bool.and_eq_true, decide_eq_true_eq] at hrb
      exact hrb.1.1.1
    have HE := hide (show stepsL l room = ((List.range l.length).map MvD.put ++ ((List.range l.length).map MvD.take ++ (List.range l.length).flatMap (swS l))).map MvD.step by unfold stepsL; rw [hrb, if_pos rfl, moves_same (OkL.of hrb) hl8])
    clear hrb
    have hlt0 : w.heap.size < w0.heap.size := by omega
    go_wp2_with fail
    go_loopw [3, 5] (fun v i wr => ∃ k : Nat, k ≤ l.length ∧ i = .int .i64 k ∧ Hid (wr.ownsRow w.heap.size 44 3 v ((List.range k).map MvD.put).length (stepVs (((List.range k).map MvD.put).map MvD.step))) ∧ Hid (wr.cell? ⟨w.heap.size, 0, none⟩ = some (.slice a l.length cap) ∧ w.heap.size < wr.heap.size ∧ ∀ g, v.ownBlock = some g → w.heap.size < g) ∧ Hid (Below w.heap.size w wr)) (fun _ i _ => l.length - (intOf i).toNat)
    case atStart => exact ⟨0, Nat.zero_le _, rfl, unhide HO0, ⟨x0, hlt0, fun g hg => by simp [Value.ownBlock] at hg; omega⟩, unhide HB0⟩
    case round =>
      rename World => wo
      obtain ⟨k, hk, rfl, HO, HX, HB⟩ := hrel
      have hzb := (unhide HB).size
      by_cases hlt : k < l.length
      · have j1 : (k : Int) < (l.length : Int) := by omega
        have hsucc := range_map_succ MvD.put k
        have hlen : ((List.range k).map MvD.put).length ≤ 1000 := by simp; omega
        have hown := unhide HO
        generalize hM : (List.range k).map MvD.put = M at hown hlen
        have HE2 := hide (show (List.range (k + 1)).map MvD.put = M ++ [MvD.put k] by rw [hsucc, ← hM])
        clear HO hsucc hM
        go_wp2_with (first
          | (at_builtin; refine wpList_append_two rfl _ _ 50 rfl w.heap.size 44 i0 (.agg #[.int .i64 0, .int .i64 0, .int .i64 0]) 3 24 Try.underlying50 hi hz0 hz1 hz2 rfl (by decide) _ _ _ rfl (hown.alloc _) ⟨wo.heap.size, 0, none⟩ 1 (stepVs [(MvD.put k).step]) rfl rfl ?ca1 ?ca2 ?ca3 ?ca4 ?ca5 ?_))
        case ca1 =>
          intro j u hj
          match j, hj with
          | 0, hj => simp [stepVs, MvD.step] at hj; subst hj; simp [Addr.add]
          | 1, hj => simp [stepVs, MvD.step] at hj; subst hj; simp [Addr.add]
          | 2, hj => simp [stepVs, MvD.step] at hj; subst hj; simp [Addr.add]
        case ca2 => intro u hu; simp [stepVs, MvD.step] at hu; rcases hu with rfl | rfl | rfl <;> rfl
        case ca3 => unfold maxLen; omega
        case ca4 => omega
        case ca5 => simp; omega
        intro v' w3 hown' hgrow hfr
        have hb1 := ((unhide HB).alloc (by omega) (.cells #[.int .i64 (MvD.put k).step.kind, .int .i64 (MvD.put k).step.inn, .int .i64 (MvD.put k).step.out] 44)).grown hgrow (by simp; omega) (fun j hj => (World.ownsRow.lt hown j hj).1)
        have HX3 := hide (box_kept (unhide HX) hgrow (by simpa using hfr))
        have HO3 : Hid (w3.ownsRow w.heap.size 44 3 v' ((List.range (k + 1)).map MvD.put).length (stepVs (((List.range (k + 1)).map MvD.put).map MvD.step))) := by
          show World.ownsRow _ _ _ _ _ _ _
          rw [unhide HE2, steps_snoc]
          simpa using hown'
        have HB3 := hide hb1
        clear hown hown' hgrow hb1 HX hfr
        go_wp2_with fail
        go_roundw
        case rel => exact ⟨k + 1, by omega, by go_num, HO3, HX3, HB3⟩
        case measure => simp [intOf]; omega
      · have j1 : ¬ (k : Int) < (l.length : Int) := by omega
        have hke : k = l.length := by omega
        subst hke
        have HOo := HO
        have HXo := HX
        have HBo := HB
        clear HO HX HB j1
        go_wp2_with fail
        go_loopw [3, 6] (fun v i wr => ∃ k : Nat, k ≤ l.length ∧ i = .int .i64 k ∧ Hid (wr.ownsRow w.heap.size 44 3 v ((List.range l.length).map MvD.put ++ (List.range k).map MvD.take).length (stepVs (((List.range l.length).map MvD.put ++ (List.range k).map MvD.take).map MvD.step))) ∧ Hid (wr.cell? ⟨w.heap.size, 0, none⟩ = some (.slice a l.length cap) ∧ w.heap.size < wr.heap.size ∧ ∀ g, v.ownBlock = some g → w.heap.size < g) ∧ Hid (Below w.heap.size w wr)) (fun _ i _ => l.length - (intOf i).toNat)
        case atStart => exact ⟨0, Nat.zero_le _, rfl, by simpa using HOo, HXo, HBo⟩
        case round =>
          rename World => wp
          obtain ⟨k, hk, rfl, HO, HX, HB⟩ := hrel
          have hzb := (unhide HB).size
          by_cases hlt : k < l.length
          · have j1 : (k : Int) < (l.length : Int) := by omega
            have hsucc := range_map_succ MvD.take k
            have hlen : ((List.range l.length).map MvD.put ++ (List.range k).map MvD.take).length ≤ 1000 := by simp; omega
            have hown := unhide HO
            generalize hM : (List.range l.length).map MvD.put ++ (List.range k).map MvD.take = M at hown hlen
            have HE2 := hide (show (List.range l.length).map MvD.put ++ (List.range (k + 1)).map MvD.take = M ++ [MvD.take k] by rw [hsucc, ← hM]; simp)
            clear HO hsucc hM
            go_wp2_with (first
              | (at_builtin; refine wpList_append_two rfl _ _ 50 rfl w.heap.size 44 i0 (.agg #[.int .i64 0, .int .i64 0, .int .i64 0]) 3 24 Try.underlying50 hi hz0 hz1 hz2 rfl (by decide) _ _ _ rfl (hown.alloc _) ⟨wp.heap.size, 0, none⟩ 1 (stepVs [(MvD.take k).step]) rfl rfl ?cb1 ?cb2 ?cb3 ?cb4 ?cb5 ?_))
            case cb1 =>
              intro j u hj
              match j, hj with
              | 0, hj => simp [stepVs, MvD.step] at hj; subst hj; simp [Addr.add]
              | 1, hj => simp [stepVs, MvD.step] at hj; subst hj; simp [Addr.add]
              | 2, hj => simp [stepVs, MvD.step] at hj; subst hj; simp [Addr.add]
            case cb2 => intro u hu; simp [stepVs, MvD.step] at hu; rcases hu with rfl | rfl | rfl <;> rfl
            case cb3 => unfold maxLen; omega
            case cb4 => omega
            case cb5 => simp; omega
            intro v' w3 hown' hgrow hfr
            have hb1 := ((unhide HB).alloc (by omega) (.cells #[.int .i64 (MvD.take k).step.kind, .int .i64 (MvD.take k).step.inn, .int .i64 (MvD.take k).step.out] 44)).grown hgrow (by simp; omega) (fun j hj => (World.ownsRow.lt hown j hj).1)
            have HX3 := hide (box_kept (unhide HX) hgrow (by simpa using hfr))
            have HO3 : Hid (w3.ownsRow w.heap.size 44 3 v' ((List.range l.length).map MvD.put ++ (List.range (k + 1)).map MvD.take).length (stepVs (((List.range l.length).map MvD.put ++ (List.range (k + 1)).map MvD.take).map MvD.step))) := by
              show World.ownsRow _ _ _ _ _ _ _
              rw [unhide HE2, steps_snoc]
              simpa using hown'
            have HB3 := hide hb1
            clear hown hown' hgrow hb1 HX hfr
            go_wp2_with fail
            go_roundw
            case rel => exact ⟨k + 1, by omega, by go_num, HO3, HX3, HB3⟩
            case measure => simp [intOf]; omega
          · have j1 : ¬ (k : Int) < (l.length : Int) := by omega
            have hke : k = l.length := by omega
            subst hke
            have HOp := HO
            have HXp := HX
            have HBp := HB
            clear HO HX HB j1
            go_wp2_with fail
            go_loopw [3, 7] (fun v i wr => ∃ k : Nat, k ≤ l.length ∧ i = .int .i64 k ∧ Hid (wr.ownsRow w.heap.size 44 3 v ((List.range l.length).map MvD.put ++ ((List.range l.length).map MvD.take ++ (List.range k).flatMap (swS l))).length (stepVs (((List.range l.length).map MvD.put ++ ((List.range l.length).map MvD.take ++ (List.range k).flatMap (swS l))).map MvD.step))) ∧ Hid (wr.cell? ⟨w.heap.size, 0, none⟩ = some (.slice a l.length cap) ∧ w.heap.size < wr.heap.size ∧ ∀ g, v.ownBlock = some g → w.heap.size < g) ∧ Hid (Below w.heap.size w wr)) (fun _ i _ => l.length - (intOf i).toNat)
            case atStart => exact ⟨0, Nat.zero_le _, rfl, by simpa using HOp, HXp, HBp⟩
            case round =>
              rename World => wq
              obtain ⟨k, hk, rfl, HO, HX, HB⟩ := hrel
              by_cases hlt : k < l.length
              · have j1 : (k : Int) < (l.length : Int) := by omega
                have j0 : (0 : Int) ≤ (k : Int) := by omega
                have hprev : ((List.range l.length).map MvD.put ++ ((List.range l.length).map MvD.take ++ (List.range k).flatMap (swS l))).length ≤ 200 := by
                  have := swS_le l k
                  have : l.length * k ≤ 8 * 8 := Nat.mul_le_mul hl8 (by omega)
                  simp only [List.length_append, List.length_map, List.length_range]
                  omega
                have HSU := hide (range_flat_succ (swS l) k)
                generalize hM : (List.range l.length).map MvD.put ++ ((List.range l.length).map MvD.take ++ (List.range k).flatMap (swS l)) = M at HO hprev
                have HM := hide hM
                have HOq := HO
                have HXq := HX
                have HBq := HB
                clear hM HO HX HB
                go_wp2_with fail
                go_loopw [3, 8] (fun v i ws => ∃ j : Nat, j ≤ l.length ∧ i = .int .i64 j ∧ Hid (ws.ownsRow w.heap.size 44 3 v (M ++ swTo l k j).length (stepVs ((M ++ swTo l k j).map MvD.step))) ∧ Hid (ws.cell? ⟨w.heap.size, 0, none⟩ = some (.slice a l.length cap) ∧ w.heap.size < ws.heap.size ∧ ∀ g, v.ownBlock = some g → w.heap.size < g) ∧ Hid (Below w.heap.size w ws)) (fun _ i _ => l.length - (intOf i).toNat)
                case atStart => exact ⟨0, Nat.zero_le _, rfl, by simpa [swTo] using HOq, HXq, HBq⟩
                case round =>
                  rename World => ws
                  obtain ⟨j, hj, rfl, HO, HX, HB⟩ := hrel
                  have hzb := (unhide HB).size
                  by_cases hjl : j < l.length
                  · have j2 : (j : Int) < (l.length : Int) := by omega
                    have jj0 : (0 : Int) ≤ (j : Int) := by omega
                    have hsucc := swTo_succ l k j
                    have hsl := swTo_le l k j
                    have hlen : (M ++ swTo l k j).length ≤ 1000 := by simp; omega
                    have hown := unhide HO
                    have y0 := (unhide HX).1
                    have hPs := (unhide HPw).on (unhide HB)
                    rcases hPs.2 with hnil | ⟨pb, po, rfl, hpS, hpk⟩
                    · rw [hnil] at hlt; simp at hlt
                    obtain ⟨_, _, _, _, _, _, hce1, _⟩ := hpk k hlt
                    obtain ⟨_, _, _, _, _, _, hce2, _⟩ := hpk j hjl
                    have n1 := hce1.name
                    have n2 := hce2.name
                    unfold twB at hsucc
                    generalize l.getD k dPack = P1 at n1 hsucc
                    generalize l.getD j dPack = P2 at n2 hsucc
                    clear hPs hpk hce1 hce2
                    by_cases hkj : k = j
                    · have HE2 := hide (show M ++ swTo l k (j + 1) = M ++ swTo l k j by rw [hsucc]; simp [hkj])
                      have hnb : ((k : Int) != (j : Int)) = false := by simp; omega
                      clear hsucc hown hkj
                      go_wp2_with fail
                      go_quiet (fail)
                      go_wp2_with fail
                      go_roundw
                      case rel => exact ⟨j + 1, by omega, by go_num, by rw [unhide HE2]; exact row_drew (unhide HO) _, box_drew (unhide HX) _, below_drewN' (unhide HB) _⟩
                      case measure => simp [intOf]; omega
                    · have hnb : ((k : Int) != (j : Int)) = true := by simp; omega
                      cases hq : (P1.name.toList == P2.name.toList) with
                      | false =>
                        have HE2 := hide (show M ++ swTo l k (j + 1) = M ++ swTo l k j by rw [hsucc, hq]; simp)
                        clear hsucc hown hkj
                        go_wp2_with fail
                        go_quiet (fail)
                        go_wp2_with fail
                        go_roundw
                        case rel => exact ⟨j + 1, by omega, by go_num, by rw [unhide HE2]; exact row_drew (unhide HO) _, box_drew (unhide HX) _, below_drewN' (unhide HB) _⟩
                        case measure => simp [intOf]; omega
                      | true =>
                        have HE2 := hide (show M ++ swTo l k (j + 1) = (M ++ swTo l k j) ++ [MvD.swap j k] by rw [hsucc, hq]; simp [hkj])
                        clear hsucc hkj hown
                        generalize hN : M ++ swTo l k j = N at HO HE2 hlen
                        clear hN
                        go_wp2_with fail
                        go_quiet (fail)
                        have hown2 := row_drew (unhide HO) nq
                        have HX4 := hide (box_drew (unhide HX) nq)
                        have HB4 := hide (below_drewN' (unhide HB) nq)
                        generalize ws.drewN nq = wd at hown2 HX4 HB4 ⊢
                        have hzd : w.heap.size ≤ wd.heap.size := (unhide HB4).size
                        have hown := hown2
                        clear n1 n2 y0 HO HX HB hzb hown2
                        go_wp2_with (first
                          | (at_builtin; refine wpList_append_two rfl _ _ 50 rfl w.heap.size 44 i0 (.agg #[.int .i64 0, .int .i64 0, .int .i64 0]) 3 24 Try.underlying50 hi hz0 hz1 hz2 rfl (by decide) _ _ _ rfl (hown.alloc _) ⟨wd.heap.size, 0, none⟩ 1 (stepVs [(MvD.swap j k).step]) rfl rfl ?cc1 ?cc2 ?cc3 ?cc4 ?cc5 ?_))
                        case cc1 =>
                          intro j u hj
                          match j, hj with
                          | 0, hj => simp [stepVs, MvD.step] at hj; subst hj; simp [Addr.add]
                          | 1, hj => simp [stepVs, MvD.step] at hj; subst hj; simp [Addr.add]
                          | 2, hj => simp [stepVs, MvD.step] at hj; subst hj; simp [Addr.add]
                        case cc2 => intro u hu; simp [stepVs, MvD.step] at hu; rcases hu with rfl | rfl | rfl <;> rfl
                        case cc3 => unfold maxLen; omega
                        case cc4 => omega
                        case cc5 => simp; omega
                        intro v' w3 hown' hgrow hfr
                        have hb1 := ((unhide HB4).alloc (by omega) (.cells #[.int .i64 (MvD.swap j k).step.kind, .int .i64 (MvD.swap j k).step.inn, .int .i64 (MvD.swap j k).step.out] 44)).grown hgrow (by simp; omega) (fun j hj => (World.ownsRow.lt hown j hj).1)
                        have HX3 := hide (box_kept (unhide HX4) hgrow (by simpa using hfr))
                        have HO3 : Hid (w3.ownsRow w.heap.size 44 3 v' (M ++ swTo l k (j + 1)).length (stepVs ((M ++ swTo l k (j + 1)).map MvD.step))) := by
                          show World.ownsRow _ _ _ _ _ _ _
                          rw [unhide HE2, steps_snoc]
                          simpa using hown'
                        have HB3 := hide hb1
                        clear hown hown' hgrow hb1 HX4 hfr
                        go_wp2_with fail
                        go_roundw
                        case rel => exact ⟨j + 1, by omega, by go_num, HO3, HX3, HB3⟩
                        case measure => simp [intOf]; omega
                  · have j2 : ¬ (j : Int) < (l.length : Int) := by omega
                    have hje : j = l.length := by omega
                    subst hje
                    have HEQ := hide (show ((List.range l.length).map MvD.put ++ ((List.range l.length).map MvD.take ++ (List.range (k + 1)).flatMap (swS l))) = M ++ swTo l k l.length by
                      rw [unhide HSU, ← List.append_assoc ((List.range l.length).map MvD.take), ← List.append_assoc, unhide HM]
                      rfl)
                    go_wp2_with fail
                    go_roundw
                    case rel => exact ⟨k + 1, by omega, by go_num, by rw [unhide HEQ]; exact HO, HX, HB⟩
                    case measure => simp [intOf]; omega
              · have j1 : ¬ (k : Int) < (l.length : Int) := by omega
                have hke : k = l.length := by omega
                subst hke
                go_wp2_with fail
                go_ret
                exact ⟨⟨_, rfl, by rw [unhide HE]; simpa using unhide HO⟩, unhide HB⟩
end Go.Proofs.Ythkhaemlcmkkjay

namespace Go.Proofs.Ythkhaemlcmkkjay
set_option linter.unusedVariables false
set_option linter.unusedSimpArgs false
open Go.RowKit Go.Deep

theorem moves_within {l : List PackD} (hl : l.length ≤ 8) {m : MvD} (h : m ∈ movesL l) : m.within l.length := by
  unfold movesL at h
  rcases List.mem_append.1 h with h | h
  · obtain ⟨i, hi, rfl⟩ := List.mem_map.1 h
    exact List.mem_range.1 hi
  · rcases List.mem_append.1 h with h | h
    · obtain ⟨i, hi, rfl⟩ := List.mem_map.1 h
      exact List.mem_range.1 hi
    · obtain ⟨i, hi, h⟩ := List.mem_flatMap.1 h
      unfold swapsAt at h
      obtain ⟨j, hj, rfl⟩ := List.mem_map.1 h
      refine ⟨?_, List.mem_range.1 hi⟩
      have := ((mem_places _ _ _).1 hj).2
      unfold twN at this
      rw [test_bitsTo, Bool.and_eq_true, decide_eq_true_eq] at this
      exact this.1
theorem places_pow {i : Nat} (h : i < 8) : placesTo (2 ^ i) 8 = [i] := by
  have h1 := places_bits [i] (by simp) (n := 8) (by simpa using h)
  unfold bitsOf at h1
  simpa using h1
end Go.Proofs.Ythkhaemlcmkkjay

namespace Go.Proofs.Ythkhaemlcmkkjay
set_option linter.unusedVariables false
set_option linter.unusedSimpArgs false
open Go.RowKit Go.Deep

def dStep : StepD := ⟨0, 0, 0⟩
/-- Steps that lie in memory. -/
def StepsAt (w : World) (a : Option Addr) (ss : List StepD) : Prop := ss.length ≤ 1048576 ∧ (ss = [] ∨ ∃ b o, a = some ⟨b, o, none⟩ ∧ b < w.heap.size ∧ ∀ i, i < ss.length → w.cell? ⟨b, o + i * 3, none⟩ = some (.int .i64 (ss.getD i dStep).kind) ∧ w.cell? ⟨b, o + i * 3 + 1, none⟩ = some (.int .i64 (ss.getD i dStep).inn) ∧ w.cell? ⟨b, o + i * 3 + 2, none⟩ = some (.int .i64 (ss.getD i dStep).out))
theorem StepsAt.on {w w' : World} {a : Option Addr} {ss : List StepD} (h : StepsAt w a ss) (hb : Below w.heap.size w w') : StepsAt w' a ss := by
  obtain ⟨h0, h⟩ := h
  refine ⟨h0, h.imp id ?_⟩
  rintro ⟨b, o, ha, hlt, hr⟩
  refine ⟨b, o, ha, Nat.lt_of_lt_of_le hlt hb.size, fun i hi => ?_⟩
  obtain ⟨h1, h2, h3⟩ := hr i hi
  exact ⟨(hb.cell (p := ⟨b, o + i * 3, none⟩) hlt).trans h1, (hb.cell (p := ⟨b, o + i * 3 + 1, none⟩) hlt).trans h2, (hb.cell (p := ⟨b, o + i * 3 + 2, none⟩) hlt).trans h3⟩
theorem stepVs_at : ∀ (ss : List StepD) (i j : Nat), i < ss.length → j < 3 → (stepVs ss)[i * 3 + j]? = [Value.int .i64 (ss.getD i dStep).kind, .int .i64 (ss.getD i dStep).inn, .int .i64 (ss.getD i dStep).out][j]?
  | [], i, j, h, _ => by simp at h
  | s :: ss, 0, j, _, hj => by
    unfold stepVs
    simp only [List.flatMap_cons, Nat.zero_mul, Nat.zero_add]
    rw [List.getElem?_append_left (by simpa using hj)]
    rfl
  | s :: ss, i + 1, j, h, hj => by
    have ih := stepVs_at ss i j (by simpa using h) hj
    unfold stepVs at ih ⊢
    simp only [List.flatMap_cons]
    rw [List.getElem?_append_right (by simp; omega)]
    rw [show (i + 1) * 3 + j - [Value.int .i64 s.kind, .int .i64 s.inn, .int .i64 s.out].length = i * 3 + j by simp; omega, ih]
    simp [List.getD]
theorem StepsAt.of_row {B : Nat} {w : World} {v : Value} {ss : List StepD} (h : w.ownsRow B 44 3 v ss.length (stepVs ss)) (hl : ss.length ≤ 1048576) : ∃ a cap, v = .slice a ss.length cap ∧ ss.length ≤ cap ∧ cap ≤ maxLen ∧ StepsAt w a ss := by
  rcases h.2 with ⟨hv, h0⟩ | ⟨g, cap, cur, hv, hB, hc, hcap, hcm, hsz, hx⟩
  · exact ⟨none, 0, by rw [hv, h0], by omega, Nat.zero_le _, hl, Or.inl (List.length_eq_zero_iff.1 h0)⟩
  · refine ⟨_, cap, hv, hcap, hcm, hl, Or.inr ⟨g, 0, rfl, (Array.getElem?_eq_some_iff.1 hc).1, fun i hi => ?_⟩⟩
    have key : ∀ j, j < 3 → w.cell? ⟨g, 0 + i * 3 + j, none⟩ = [Value.int .i64 (ss.getD i dStep).kind, .int .i64 (ss.getD i dStep).inn, .int .i64 (ss.getD i dStep).out][j]? := fun j hj => by
      rw [cell_of_row w g _ cur _ _ hc, Nat.zero_add, ← stepVs_at ss i j hi hj, ← hx, List.getElem?_take, if_pos (by omega)]
      simp
    exact ⟨key 0 (by omega), key 1 (by omega), key 2 (by omega)⟩
theorem stepsL_few (l : List PackD) (room : Int) : (stepsL l room).length ≤ 100 := by
  unfold stepsL
  cases h : repoB ⟨l, room⟩ with
  | false => simp
  | true =>
    have h8 : l.length ≤ 8 := by
      simp only [repoB, Bool.and_eq_true, decide_eq_true_eq] at h
      exact h.1.1.1
    have := moves_le l
    rw [if_pos rfl, List.length_map]
    omega
end Go.Proofs.Ythkhaemlcmkkjay

namespace Go.Proofs.Ythkhaemlcmkkjay
set_option linter.unusedVariables false
set_option linter.unusedSimpArgs false
open Go.RowKit Go.Deep

theorem repo_l8 {l : List PackD} {room : Int} (h : repoB ⟨l, room⟩ = true) : l.length ≤ 8 := by
  simp only [repoB, Bool.and_eq_true, decide_eq_true_eq] at h
  exact h.1.1.1
end Go.Proofs.Ythkhaemlcmkkjay

namespace Go.Proofs.Ythkhaemlcmkkjay
set_option linter.unusedVariables false
set_option linter.unusedSimpArgs false
open Go.RowKit Go.Deep

end Go.Proofs.Ythkhaemlcmkkjay

namespace Go.Proofs.Ythkhaemlcmkkjay
set_option linter.unusedVariables false
set_option linter.unusedSimpArgs false
open Go.RowKit Go.Deep

end Go.Proofs.Ythkhaemlcmkkjay

namespace Go.Proofs.Ythkhaemlcmkkjay
set_option linter.unusedVariables false
set_option linter.unusedSimpArgs false
open Go.RowKit Go.Deep

end Go.Proofs.Ythkhaemlcmkkjay
