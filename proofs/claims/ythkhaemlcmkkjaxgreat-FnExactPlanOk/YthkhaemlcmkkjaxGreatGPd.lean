/- States with one more and one less: by places and by bits. The specification's StepAll. What comes of a step: the program's way and the specification's. Steps in memory. All steps that there might be are told once. What a step that is allowed does: pure facts. What the laws of steps ask: pure facts. What the laws of steps ask: pure facts, by looks at numbers. -/
import Derived.Test.YthkhaemlcmkkjaxGreatS3A
import Derived.Test.YthkhaemlcmkkjaxGreatGMw
import Derived.Test.YthkhaemlcmkkjaxGreatGPure
import Derived.Test.YthkhaemlcmkkjaxGreatGMv
import Derived.Test.YthkhaemlcmkkjaxGreatGSpec
import Derived.Test.YthkhaemlcmkkjaxGreatGGrow
import Derived.Deep.QuietTactic
namespace Go.Proofs.YthkhaemlcmkkjaxGreat
set_option linter.unusedVariables false
set_option linter.unusedSimpArgs false
open Go.RowKit Go.Deep

/-- Ascending numbers. -/
abbrev Asc (l : List Int) : Prop := l.Pairwise (· < ·)
theorem take_snoc (set : List Int) {k : Nat} (h : k < set.length) : set.take (k + 1) = set.take k ++ [set.getD k 0] := by
  rw [List.take_succ_eq_append_getElem h]
  simp [List.getD, h]
theorem putGo_mem (set : List Int) (n : Int) : ∀ k, k ≤ set.length → ∀ z, z ∈ (putGo set n k).1 ↔ z ∈ set.take k ∨ ((putGo set n k).2 = true ∧ z = n)
  | 0, _, z => by simp [putGo]
  | k + 1, hk, z => by
    have ih := putGo_mem set n k (by omega) z
    rw [take_snoc set (show k < set.length by omega)]
    unfold putGo
    cases hb : (putGo set n k).2 with
    | true =>
      rw [hb] at ih
      simp only [Bool.not_true, Bool.false_and, Bool.false_eq_true, if_false, List.mem_append, List.mem_singleton, ih, hb]
      grind
    | false =>
      rw [hb] at ih
      by_cases hn : n < set.getD k 0
      · simp only [hn, decide_true, Bool.not_false, Bool.and_self, if_true, List.mem_append, List.mem_singleton, ih]
        grind
      · simp only [hn, decide_false, Bool.and_false, Bool.false_eq_true, if_false, List.mem_append, List.mem_singleton, ih, hb]
        grind
theorem putZ_mem (set : List Int) (n z : Int) : z ∈ putZ set n ↔ z ∈ set ∨ z = n := by
  have h := putGo_mem set n set.length (Nat.le_refl _) z
  rw [List.take_length] at h
  unfold putZ
  cases hb : (putGo set n set.length).2 with
  | true => rw [hb] at h; simp only [if_true, h]; grind
  | false => rw [hb] at h; simp only [Bool.false_eq_true, if_false, List.mem_append, List.mem_singleton, h]; grind
theorem asc_snoc {l : List Int} {z : Int} (h : Asc l) (hz : ∀ x ∈ l, x < z) : Asc (l ++ [z]) := by
  unfold Asc
  rw [List.pairwise_append]
  exact ⟨h, by simp, fun x hx y hy => by simp at hy; rw [hy]; exact hz x hx⟩
theorem putGo_asc (set : List Int) (n : Int) (ha : Asc set) (hn : n ∉ set) : ∀ k, k ≤ set.length → Asc (putGo set n k).1 ∧ ((putGo set n k).2 = false → ∀ z ∈ set.take k, z < n) ∧ ((putGo set n k).2 = true → ∃ j, j < k ∧ n < set.getD j 0)
  | 0, _ => by simp [putGo]
  | k + 1, hk => by
    obtain ⟨ih1, ih2, ih3⟩ := putGo_asc set n ha hn k (by omega)
    have hmem := putGo_mem set n k (by omega)
    have hat : ∀ i, i < k → set.getD i 0 < set.getD k 0 := fun i hi => by
      have := List.pairwise_iff_getElem.1 ha i k (by omega) (by omega) hi
      simpa [List.getD, show k < set.length by omega, show i < set.length by omega] using this
    have hlt : ∀ z ∈ set.take k, z < set.getD k 0 := fun z hz => by
      obtain ⟨i, hi, rfl⟩ := List.getElem_of_mem hz
      simp at hi
      have := hat i (by omega)
      simpa [List.getD, show i < set.length by omega] using this
    have hne : set.getD k 0 ≠ n := fun e => hn (by rw [← e]; exact getD_mem (by omega))
    rw [take_snoc set (show k < set.length by omega)]
    unfold putGo
    cases hb : (putGo set n k).2 with
    | true =>
      rw [hb] at hmem
      obtain ⟨j, hj, hnj⟩ := ih3 hb
      have hnk := Int.lt_trans hnj (hat j hj)
      simp only [Bool.not_true, Bool.false_and, Bool.false_eq_true, if_false, hb]
      refine ⟨asc_snoc ih1 fun x hx => ?_, fun h => (by cases h), fun _ => ⟨j, by omega, hnj⟩⟩
      rcases (hmem x).1 hx with hx | hx
      · exact hlt x hx
      · rw [hx.2]; exact hnk
    | false =>
      rw [hb] at hmem
      have hsub : ∀ x ∈ (putGo set n k).1, x ∈ set.take k := fun x hx => by
        rcases (hmem x).1 hx with hx | hx
        · exact hx
        · cases hx.1
      by_cases hnk : n < set.getD k 0
      · simp only [hnk, decide_true, Bool.not_false, Bool.and_self, if_true]
        refine ⟨asc_snoc (asc_snoc ih1 fun x hx => ih2 hb x (hsub x hx)) fun x hx => ?_, fun h => (by cases h), fun _ => ⟨k, by omega, hnk⟩⟩
        rcases List.mem_append.1 hx with hx | hx
        · exact hlt x (hsub x hx)
        · simp at hx; rw [hx]; exact hnk
      · simp only [hnk, decide_false, Bool.and_false, Bool.false_eq_true, if_false, hb]
        refine ⟨asc_snoc ih1 fun x hx => hlt x (hsub x hx), fun _ z hz => ?_, fun h => (by cases h)⟩
        rcases List.mem_append.1 hz with hz | hz
        · exact ih2 hb z hz
        · simp at hz; rw [hz]; simp at hnk hne ⊢; omega
theorem putZ_asc {set : List Int} {n : Int} (ha : Asc set) (hn : n ∉ set) : Asc (putZ set n) := by
  obtain ⟨h1, h2, _⟩ := putGo_asc set n ha hn set.length (Nat.le_refl _)
  have hmem := putGo_mem set n set.length (Nat.le_refl _)
  unfold putZ
  cases hb : (putGo set n set.length).2 with
  | true => simpa using h1
  | false =>
    simp only [Bool.false_eq_true, if_false]
    refine asc_snoc h1 fun x hx => ?_
    rcases (hmem x).1 hx with hx | hx
    · exact h2 hb x hx
    · rw [hb] at hx; cases hx.1

/-! ### What is in form, by its members -/
theorem form_iff {l : List PackD} {room : Int} {set : List Int} (hr : repoB ⟨l, room⟩ = true) : formB l room set = true ↔ Asc set ∧ ∀ z ∈ set, 0 ≤ z ∧ z < l.length := by
  constructor
  · intro h
    refine ⟨?_, fun z hz => ?_⟩
    · unfold Asc
      rw [List.pairwise_iff_getElem]
      intro i j hi hj hij
      have := form_asc h hij hj
      simpa [List.getD, hi, hj] using this
    · obtain ⟨i, hi, rfl⟩ := List.getElem_of_mem hz
      have := form_place h hi
      simpa [List.getD, hi] using this
  · rintro ⟨ha, hp⟩
    unfold formB placesB
    rw [hr, Bool.and_true, List.all_eq_true]
    intro i hi
    have hi := List.mem_range.1 hi
    have h1 := hp _ (getD_mem (d := 0) hi)
    unfold placeB inB
    simp only [Bool.and_eq_true, decide_eq_true_eq, Bool.or_eq_true, beq_iff_eq]
    refine ⟨⟨h1.1, by omega⟩, ?_⟩
    by_cases h0 : i = 0
    · exact Or.inl h0
    · right
      have := List.pairwise_iff_getElem.1 ha (i - 1) i (by omega) hi (by omega)
      simpa [List.getD, hi, show i - 1 < set.length by omega] using this
theorem bit_mem {l : List PackD} {room : Int} {set : List Int} (h : formB l room set = true) (q : Nat) : (setBits set).testBit q = true ↔ (q : Int) ∈ set := by
  unfold setBits
  rw [test_bits, decide_eq_true_eq, List.mem_map]
  constructor
  · rintro ⟨z, hz, rfl⟩
    have := ((form_iff (by unfold formB at h; rw [Bool.and_eq_true] at h; exact h.2)).1 h).2 z hz
    rwa [Int.toNat_of_nonneg this.1]
  · intro hq
    exact ⟨(q : Int), hq, by simp⟩
/-- A state in form is told by its bits. -/
theorem form_bits {l : List PackD} {room : Int} {set : List Int} (h : formB l room set = true) {s : Nat} (hb : ∀ q, q < 8 → s.testBit q = decide ((q : Int) ∈ set)) : set = intsOf (placesTo s 8) := by
  have hp := set_places h
  have h8 := form_l8 h
  have e : placesTo s 8 = placesTo (setBits set) 8 := by
    unfold placesTo
    apply List.filter_congr
    intro q hq
    have hq := List.mem_range.1 hq
    rw [has_test, has_test, hb q hq, Bool.eq_iff_iff, decide_eq_true_eq, bit_mem h]
  rw [e, hp]
  unfold intsOf
  rw [List.map_map]
  conv => lhs; rw [← List.map_id set]
  apply List.map_congr_left
  intro z hz
  have := ((form_iff (by unfold formB at h; rw [Bool.and_eq_true] at h; exact h.2)).1 h).2 z hz
  simp
  omega
end Go.Proofs.YthkhaemlcmkkjaxGreat

namespace Go.Proofs.YthkhaemlcmkkjaxGreat
set_option linter.unusedVariables false
set_option linter.unusedSimpArgs false
open Go.RowKit Go.Deep

def stepVs (ss : List StepD) : List Value := ss.flatMap fun s => [.int .i64 s.kind, .int .i64 s.inn, .int .i64 s.out]
theorem stepVs_len : ∀ ss : List StepD, (stepVs ss).length = ss.length * 3
  | [] => rfl
  | s :: ss => by
    have := stepVs_len ss
    unfold stepVs at this ⊢
    simp only [List.flatMap_cons, List.length_append, this, List.length_cons, List.length_nil]
    omega
theorem steps_snoc (ms : List MvD) (m : MvD) : stepVs ((ms ++ [m]).map MvD.step) = stepVs (ms.map MvD.step) ++ stepVs [m.step] := by simp [stepVs]
theorem Tryz.infoStep : (Tryz.prog.info? 36).map (fun i => (i.zero, i.size, i.bytes)) = some (some (.agg #[.int .i64 0, .int .i64 0, .int .i64 0]), 3, 24) := by kernel_rfl
/-- Another one of the same name. -/
def twB (l : List PackD) (i j : Nat) : Bool := decide (i ≠ j) && ((l.getD i dPack).name.toList == (l.getD j dPack).name.toList)
def swTo (l : List PackD) (i k : Nat) : List MvD := ((List.range k).filter (twB l i)).map fun j => MvD.swap j i
def swS (l : List PackD) (i : Nat) : List MvD := swTo l i l.length
theorem swTo_succ (l : List PackD) (i k : Nat) : swTo l i (k + 1) = swTo l i k ++ (if twB l i k then [MvD.swap k i] else []) := by
  unfold swTo
  rw [List.range_succ, List.filter_append, List.map_append]
  congr 1
  by_cases h : twB l i k = true
  · simp [h]
  · simp at h; simp [h]
theorem swTo_le (l : List PackD) (i k : Nat) : (swTo l i k).length ≤ k := by
  unfold swTo
  rw [List.length_map]
  have := List.length_filter_le (twB l i) (List.range k)
  simpa using this
theorem swS_le (l : List PackD) : ∀ k, ((List.range k).flatMap (swS l)).length ≤ l.length * k
  | 0 => by simp
  | k + 1 => by
    have := swS_le l k
    have := swTo_le l k l.length
    rw [range_flat_succ, List.length_append, Nat.mul_succ]
    unfold swS at *
    omega
theorem range_filter_le {n m : Nat} (h : n ≤ m) (f : Nat → Bool) : (List.range m).filter (fun j => decide (j < n) && f j) = (List.range n).filter f := by
  induction m with
  | zero => rw [show n = 0 by omega]; rfl
  | succ m ih =>
    by_cases hn : n ≤ m
    · rw [List.range_succ, List.filter_append, ih hn]
      simp [show ¬ m < n by omega]
    · have hnm : n = m + 1 := by omega
      subst hnm
      apply List.filter_congr
      intro j hj
      have := List.mem_range.1 hj
      rw [decide_eq_true this, Bool.true_and]
/-- The program's twins are the specification's. -/
theorem swaps_same {l : List PackD} (hok : OkL l) (hl : l.length ≤ 8) {i : Nat} (hi : i < l.length) : swapsAt l i = swS l i := by
  unfold swapsAt swS swTo
  congr 1
  unfold placesTo twN
  rw [← range_filter_le hl]
  apply List.filter_congr
  intro j hj
  rw [has_test, test_bitsTo]
  by_cases hjl : j < l.length
  · have hv := hok.ver j hjl
    simp only [decide_eq_true hjl, Bool.true_and]
    unfold fitsB twB
    show ((((l.getD j dPack).name.toList == (l.getD i dPack).name.toList) && inB (l.getD j dPack).ver 0 99) && decide (j ≠ i)) = _
    rw [hv, Bool.and_true, Bool.and_comm]
    congr 1
    · exact decide_eq_decide.2 ⟨Ne.symm, Ne.symm⟩
    · rw [Bool.eq_iff_iff, beq_iff_eq, beq_iff_eq]
      exact ⟨Eq.symm, Eq.symm⟩
  · simp [hjl]
theorem moves_same {l : List PackD} (hok : OkL l) (hl : l.length ≤ 8) : movesL l = (List.range l.length).map MvD.put ++ ((List.range l.length).map MvD.take ++ (List.range l.length).flatMap (swS l)) := by
  unfold movesL
  congr 2
  have : ∀ k, k ≤ l.length → (List.range k).flatMap (swapsAt l) = (List.range k).flatMap (swS l) := fun k => by
    induction k with
    | zero => intro _; rfl
    | succ k ih => intro hk; rw [range_flat_succ, range_flat_succ, ih (by omega), swaps_same hok hl (by omega)]
  exact this _ (Nat.le_refl _)
def stepsL (l : List PackD) (room : Int) : List StepD := if repoB ⟨l, room⟩ then (movesL l).map MvD.step else []

theorem box_kept {w3 : World} {v v' : Value} {B : Nat} {o : Obj} {u : Value} {wo : World} (h : wo.cell? ⟨B, 0, none⟩ = some u ∧ B < wo.heap.size ∧ ∀ g, v.ownBlock = some g → B < g) (hg : (wo.alloc o).grownBy w3 v.ownBlock) (hf : v'.ownBlock = v.ownBlock ∨ v'.ownBlock = some (wo.heap.size + 1)) : w3.cell? ⟨B, 0, none⟩ = some u ∧ B < w3.heap.size ∧ ∀ g, v'.ownBlock = some g → B < g := by
  obtain ⟨h1, h2, h3⟩ := h
  have hz := hg.size
  simp at hz
  refine ⟨?_, by omega, fun g hv => ?_⟩
  · rw [World.cell?_of_block (w := wo) (a := ⟨B, 0, none⟩)]
    · exact h1
    · rw [hg.block B (by simp; omega) (fun e => by have := h3 B e.symm; omega)]
      exact blk_alloc_lt _ _ _ h2
  · rcases hf with hf | hf
    · exact h3 g (hf.symm.trans hv)
    · rw [hf] at hv
      simp at hv
      omega
theorem row_drew {w : World} {B : Nat} {e : TypeId} {s : Nat} {v : Value} {n : Nat} {xs : List Value} (h : w.ownsRow B e s v n xs) (k : Nat) : (w.drewN k).ownsRow B e s v n xs := ownsRow_on h (((Drawn.refl w).more k).below _)
theorem below_drewN' {B : Nat} {a w : World} (h : Below B a w) (n : Nat) : Below B a (w.drewN n) := h.trans (((Drawn.refl w).more n).below B)
theorem box_drew {w : World} {B : Nat} {u v : Value} (h : w.cell? ⟨B, 0, none⟩ = some u ∧ B < w.heap.size ∧ ∀ g, v.ownBlock = some g → B < g) (n : Nat) : (w.drewN n).cell? ⟨B, 0, none⟩ = some u ∧ B < (w.drewN n).heap.size ∧ ∀ g, v.ownBlock = some g → B < g := by
  have b := ((Drawn.refl w).more n).below w.heap.size
  exact ⟨(b.cell (p := ⟨B, 0, none⟩) h.2.1).trans h.1, Nat.lt_of_lt_of_le h.2.1 b.size, h.2.2⟩

set_option maxRecDepth 100000 in
set_option maxHeartbeats 8000000 in
theorem specStepAll_any (a : Option Addr) (l : List PackD) (cap : Nat) (room : Int) (w : World) (h : PacksAt (Old w) w a l) :
    Calls Tryz.prog 57 #[.agg #[.slice a l.length cap, .int .i64 room]] w fun e w' => (∃ v, e = .returned v ∧ w'.ownsRow w.heap.size 36 3 v (stepsL l room).length (stepVs (stepsL l room))) ∧ Below w.heap.size w w' := by
  obtain ⟨i0, hi, hz0, hz1, hz2⟩ := info_parts Tryz.infoStep
  have b1 := ((Below.refl w.heap.size w).alloc (Nat.le_refl _) (.cells #[.slice a l.length cap, .int .i64 room] 33)).alloc (by simp) (.cells #[] 36)
  have HP := hide (h.on b1)
  have HPw := hide h
  clear h
  go_enter Tryz.func57, Tryz.ntmps57
  go_wp2_with fail
  refine (specRepoOk_any a l cap room _ (unhide HP)).mono ?_
  rintro e w0 ⟨rfl, hb0⟩
  have hz := hb0.size
  simp at hz
  have HB0 := hide (b1.trans (hb0.mono (by simp; omega)))
  have x0 := hb0.cell (p := ⟨w.heap.size, 0, none⟩) (by simp; omega)
  simp at x0
  have own0 : w0.ownsRow w.heap.size 36 3 (.slice (some ⟨w.heap.size + 1, 0, none⟩) 0 0) 0 [] := by
    refine ⟨rfl, Or.inr ⟨w.heap.size + 1, 0, #[], rfl, by omega, ?_, Nat.zero_le _, Nat.zero_le _, rfl, rfl⟩⟩
    rw [hb0.block (w.heap.size + 1) (by simp)]
    have := blk_alloc_new (w.alloc (.cells #[.slice a l.length cap, .int .i64 room] 33)) (.cells #[] 36)
    simpa using this
  have HO0 := hide own0
  clear HP hb0 b1 own0
  cases hrb : repoB ⟨l, room⟩ with
  | false =>
    have HE := hide (show stepsL l room = [] by unfold stepsL; rw [hrb]; rfl)
    clear hrb
    go_wp2_with fail
    go_ret
    exact ⟨⟨_, rfl, by rw [unhide HE]; exact unhide HO0⟩, unhide HB0⟩
  | true =>
    have hl8 : l.length ≤ 8 := by
      simp only [repoB, Bool.and_eq_true, decide_eq_true_eq] at hrb
      exact hrb.1.1.1
    have HE := hide (show stepsL l room = ((List.range l.length).map MvD.put ++ ((List.range l.length).map MvD.take ++ (List.range l.length).flatMap (swS l))).map MvD.step by unfold stepsL; rw [hrb, if_pos rfl, moves_same (OkL.of hrb) hl8])
    clear hrb
    have hlt0 : w.heap.size < w0.heap.size := by omega
    go_wp2_with fail
    go_loopw [3, 5] (fun v i wr => ∃ k : Nat, k ≤ l.length ∧ i = .int .i64 k ∧ Hid (wr.ownsRow w.heap.size 36 3 v ((List.range k).map MvD.put).length (stepVs (((List.range k).map MvD.put).map MvD.step))) ∧ Hid (wr.cell? ⟨w.heap.size, 0, none⟩ = some (.slice a l.length cap) ∧ w.heap.size < wr.heap.size ∧ ∀ g, v.ownBlock = some g → w.heap.size < g) ∧ Hid (Below w.heap.size w wr)) (fun _ i _ => l.length - (intOf i).toNat)
    case atStart => exact ⟨0, Nat.zero_le _, rfl, unhide HO0, ⟨x0, hlt0, fun g hg => by simp [Value.ownBlock] at hg; omega⟩, unhide HB0⟩
    case round =>
      rename World => wo
      obtain ⟨k, hk, rfl, HO, HX, HB⟩ := hrel
      have hzb := (unhide HB).size
      by_cases hlt : k < l.length
      · have j1 : (k : Int) < (l.length : Int) := by omega
        have hsucc := range_map_succ MvD.put k
        have hlen : ((List.range k).map MvD.put).length ≤ 1000 := by simp; omega
        have hown := unhide HO
        generalize hM : (List.range k).map MvD.put = M at hown hlen
        have HE2 := hide (show (List.range (k + 1)).map MvD.put = M ++ [MvD.put k] by rw [hsucc, ← hM])
        clear HO hsucc hM
        go_wp2_with (first
          | (at_builtin; refine wpList_append_two rfl _ _ 46 rfl w.heap.size 36 i0 (.agg #[.int .i64 0, .int .i64 0, .int .i64 0]) 3 24 Tryz.underlying46 hi hz0 hz1 hz2 rfl (by decide) _ _ _ rfl (hown.alloc _) ⟨wo.heap.size, 0, none⟩ 1 (stepVs [(MvD.put k).step]) rfl rfl ?ca1 ?ca2 ?ca3 ?ca4 ?ca5 ?_))
        case ca1 =>
          intro j u hj
          match j, hj with
          | 0, hj => simp [stepVs, MvD.step] at hj; subst hj; simp [Addr.add]
          | 1, hj => simp [stepVs, MvD.step] at hj; subst hj; simp [Addr.add]
          | 2, hj => simp [stepVs, MvD.step] at hj; subst hj; simp [Addr.add]
        case ca2 => intro u hu; simp [stepVs, MvD.step] at hu; rcases hu with rfl | rfl | rfl <;> rfl
        case ca3 => unfold maxLen; omega
        case ca4 => omega
        case ca5 => simp; omega
        intro v' w3 hown' hgrow hfr
        have hb1 := ((unhide HB).alloc (by omega) (.cells #[.int .i64 (MvD.put k).step.kind, .int .i64 (MvD.put k).step.inn, .int .i64 (MvD.put k).step.out] 36)).grown hgrow (by simp; omega) (fun j hj => (World.ownsRow.lt hown j hj).1)
        have HX3 := hide (box_kept (unhide HX) hgrow (by simpa using hfr))
        have HO3 : Hid (w3.ownsRow w.heap.size 36 3 v' ((List.range (k + 1)).map MvD.put).length (stepVs (((List.range (k + 1)).map MvD.put).map MvD.step))) := by
          show World.ownsRow _ _ _ _ _ _ _
          rw [unhide HE2, steps_snoc]
          simpa using hown'
        have HB3 := hide hb1
        clear hown hown' hgrow hb1 HX hfr
        go_wp2_with fail
        go_roundw
        case rel => exact ⟨k + 1, by omega, by go_num, HO3, HX3, HB3⟩
        case measure => simp [intOf]; omega
      · have j1 : ¬ (k : Int) < (l.length : Int) := by omega
        have hke : k = l.length := by omega
        subst hke
        have HOo := HO
        have HXo := HX
        have HBo := HB
        clear HO HX HB j1
        go_wp2_with fail
        go_loopw [3, 6] (fun v i wr => ∃ k : Nat, k ≤ l.length ∧ i = .int .i64 k ∧ Hid (wr.ownsRow w.heap.size 36 3 v ((List.range l.length).map MvD.put ++ (List.range k).map MvD.take).length (stepVs (((List.range l.length).map MvD.put ++ (List.range k).map MvD.take).map MvD.step))) ∧ Hid (wr.cell? ⟨w.heap.size, 0, none⟩ = some (.slice a l.length cap) ∧ w.heap.size < wr.heap.size ∧ ∀ g, v.ownBlock = some g → w.heap.size < g) ∧ Hid (Below w.heap.size w wr)) (fun _ i _ => l.length - (intOf i).toNat)
        case atStart => exact ⟨0, Nat.zero_le _, rfl, by simpa using HOo, HXo, HBo⟩
        case round =>
          rename World => wp
          obtain ⟨k, hk, rfl, HO, HX, HB⟩ := hrel
          have hzb := (unhide HB).size
          by_cases hlt : k < l.length
          · have j1 : (k : Int) < (l.length : Int) := by omega
            have hsucc := range_map_succ MvD.take k
            have hlen : ((List.range l.length).map MvD.put ++ (List.range k).map MvD.take).length ≤ 1000 := by simp; omega
            have hown := unhide HO
            generalize hM : (List.range l.length).map MvD.put ++ (List.range k).map MvD.take = M at hown hlen
            have HE2 := hide (show (List.range l.length).map MvD.put ++ (List.range (k + 1)).map MvD.take = M ++ [MvD.take k] by rw [hsucc, ← hM]; simp)
            clear HO hsucc hM
            go_wp2_with (first
              | (at_builtin; refine wpList_append_two rfl _ _ 46 rfl w.heap.size 36 i0 (.agg #[.int .i64 0, .int .i64 0, .int .i64 0]) 3 24 Tryz.underlying46 hi hz0 hz1 hz2 rfl (by decide) _ _ _ rfl (hown.alloc _) ⟨wp.heap.size, 0, none⟩ 1 (stepVs [(MvD.take k).step]) rfl rfl ?cb1 ?cb2 ?cb3 ?cb4 ?cb5 ?_))
            case cb1 =>
              intro j u hj
              match j, hj with
              | 0, hj => simp [stepVs, MvD.step] at hj; subst hj; simp [Addr.add]
              | 1, hj => simp [stepVs, MvD.step] at hj; subst hj; simp [Addr.add]
              | 2, hj => simp [stepVs, MvD.step] at hj; subst hj; simp [Addr.add]
            case cb2 => intro u hu; simp [stepVs, MvD.step] at hu; rcases hu with rfl | rfl | rfl <;> rfl
            case cb3 => unfold maxLen; omega
            case cb4 => omega
            case cb5 => simp; omega
            intro v' w3 hown' hgrow hfr
            have hb1 := ((unhide HB).alloc (by omega) (.cells #[.int .i64 (MvD.take k).step.kind, .int .i64 (MvD.take k).step.inn, .int .i64 (MvD.take k).step.out] 36)).grown hgrow (by simp; omega) (fun j hj => (World.ownsRow.lt hown j hj).1)
            have HX3 := hide (box_kept (unhide HX) hgrow (by simpa using hfr))
            have HO3 : Hid (w3.ownsRow w.heap.size 36 3 v' ((List.range l.length).map MvD.put ++ (List.range (k + 1)).map MvD.take).length (stepVs (((List.range l.length).map MvD.put ++ (List.range (k + 1)).map MvD.take).map MvD.step))) := by
              show World.ownsRow _ _ _ _ _ _ _
              rw [unhide HE2, steps_snoc]
              simpa using hown'
            have HB3 := hide hb1
            clear hown hown' hgrow hb1 HX hfr
            go_wp2_with fail
            go_roundw
            case rel => exact ⟨k + 1, by omega, by go_num, HO3, HX3, HB3⟩
            case measure => simp [intOf]; omega
          · have j1 : ¬ (k : Int) < (l.length : Int) := by omega
            have hke : k = l.length := by omega
            subst hke
            have HOp := HO
            have HXp := HX
            have HBp := HB
            clear HO HX HB j1
            go_wp2_with fail
            go_loopw [3, 7] (fun v i wr => ∃ k : Nat, k ≤ l.length ∧ i = .int .i64 k ∧ Hid (wr.ownsRow w.heap.size 36 3 v ((List.range l.length).map MvD.put ++ ((List.range l.length).map MvD.take ++ (List.range k).flatMap (swS l))).length (stepVs (((List.range l.length).map MvD.put ++ ((List.range l.length).map MvD.take ++ (List.range k).flatMap (swS l))).map MvD.step))) ∧ Hid (wr.cell? ⟨w.heap.size, 0, none⟩ = some (.slice a l.length cap) ∧ w.heap.size < wr.heap.size ∧ ∀ g, v.ownBlock = some g → w.heap.size < g) ∧ Hid (Below w.heap.size w wr)) (fun _ i _ => l.length - (intOf i).toNat)
            case atStart => exact ⟨0, Nat.zero_le _, rfl, by simpa using HOp, HXp, HBp⟩
            case round =>
              rename World => wq
              obtain ⟨k, hk, rfl, HO, HX, HB⟩ := hrel
              by_cases hlt : k < l.length
              · have j1 : (k : Int) < (l.length : Int) := by omega
                have j0 : (0 : Int) ≤ (k : Int) := by omega
                have hprev : ((List.range l.length).map MvD.put ++ ((List.range l.length).map MvD.take ++ (List.range k).flatMap (swS l))).length ≤ 200 := by
                  have := swS_le l k
                  have : l.length * k ≤ 8 * 8 := Nat.mul_le_mul hl8 (by omega)
                  simp only [List.length_append, List.length_map, List.length_range]
                  omega
                have HSU := hide (range_flat_succ (swS l) k)
                generalize hM : (List.range l.length).map MvD.put ++ ((List.range l.length).map MvD.take ++ (List.range k).flatMap (swS l)) = M at HO hprev
                have HM := hide hM
                have HOq := HO
                have HXq := HX
                have HBq := HB
                clear hM HO HX HB
                go_wp2_with fail
                go_loopw [3, 8] (fun v i ws => ∃ j : Nat, j ≤ l.length ∧ i = .int .i64 j ∧ Hid (ws.ownsRow w.heap.size 36 3 v (M ++ swTo l k j).length (stepVs ((M ++ swTo l k j).map MvD.step))) ∧ Hid (ws.cell? ⟨w.heap.size, 0, none⟩ = some (.slice a l.length cap) ∧ w.heap.size < ws.heap.size ∧ ∀ g, v.ownBlock = some g → w.heap.size < g) ∧ Hid (Below w.heap.size w ws)) (fun _ i _ => l.length - (intOf i).toNat)
                case atStart => exact ⟨0, Nat.zero_le _, rfl, by simpa [swTo] using HOq, HXq, HBq⟩
                case round =>
                  rename World => ws
                  obtain ⟨j, hj, rfl, HO, HX, HB⟩ := hrel
                  have hzb := (unhide HB).size
                  by_cases hjl : j < l.length
                  · have j2 : (j : Int) < (l.length : Int) := by omega
                    have jj0 : (0 : Int) ≤ (j : Int) := by omega
                    have hsucc := swTo_succ l k j
                    have hsl := swTo_le l k j
                    have hlen : (M ++ swTo l k j).length ≤ 1000 := by simp; omega
                    have hown := unhide HO
                    have y0 := (unhide HX).1
                    have hPs := (unhide HPw).on (unhide HB)
                    rcases hPs.2 with hnil | ⟨pb, po, rfl, hpS, hpk⟩
                    · rw [hnil] at hlt; simp at hlt
                    obtain ⟨_, _, _, _, _, _, hce1, _⟩ := hpk k hlt
                    obtain ⟨_, _, _, _, _, _, hce2, _⟩ := hpk j hjl
                    have n1 := hce1.name
                    have n2 := hce2.name
                    unfold twB at hsucc
                    generalize l.getD k dPack = P1 at n1 hsucc
                    generalize l.getD j dPack = P2 at n2 hsucc
                    clear hPs hpk hce1 hce2
                    by_cases hkj : k = j
                    · have HE2 := hide (show M ++ swTo l k (j + 1) = M ++ swTo l k j by rw [hsucc]; simp [hkj])
                      have hnb : ((k : Int) != (j : Int)) = false := by simp; omega
                      clear hsucc hown hkj
                      go_wp2_with fail
                      go_quiet (fail)
                      go_wp2_with fail
                      go_roundw
                      case rel => exact ⟨j + 1, by omega, by go_num, by rw [unhide HE2]; exact row_drew (unhide HO) _, box_drew (unhide HX) _, below_drewN' (unhide HB) _⟩
                      case measure => simp [intOf]; omega
                    · have hnb : ((k : Int) != (j : Int)) = true := by simp; omega
                      cases hq : (P1.name.toList == P2.name.toList) with
                      | false =>
                        have HE2 := hide (show M ++ swTo l k (j + 1) = M ++ swTo l k j by rw [hsucc, hq]; simp)
                        clear hsucc hown hkj
                        go_wp2_with fail
                        go_quiet (fail)
                        go_wp2_with fail
                        go_roundw
                        case rel => exact ⟨j + 1, by omega, by go_num, by rw [unhide HE2]; exact row_drew (unhide HO) _, box_drew (unhide HX) _, below_drewN' (unhide HB) _⟩
                        case measure => simp [intOf]; omega
                      | true =>
                        have HE2 := hide (show M ++ swTo l k (j + 1) = (M ++ swTo l k j) ++ [MvD.swap j k] by rw [hsucc, hq]; simp [hkj])
                        clear hsucc hkj hown
                        generalize hN : M ++ swTo l k j = N at HO HE2 hlen
                        clear hN
                        go_wp2_with fail
                        go_quiet (fail)
                        have hown2 := row_drew (unhide HO) nq
                        have HX4 := hide (box_drew (unhide HX) nq)
                        have HB4 := hide (below_drewN' (unhide HB) nq)
                        generalize ws.drewN nq = wd at hown2 HX4 HB4 ⊢
                        have hzd : w.heap.size ≤ wd.heap.size := (unhide HB4).size
                        have hown := hown2
                        clear n1 n2 y0 HO HX HB hzb hown2
                        go_wp2_with (first
                          | (at_builtin; refine wpList_append_two rfl _ _ 46 rfl w.heap.size 36 i0 (.agg #[.int .i64 0, .int .i64 0, .int .i64 0]) 3 24 Tryz.underlying46 hi hz0 hz1 hz2 rfl (by decide) _ _ _ rfl (hown.alloc _) ⟨wd.heap.size, 0, none⟩ 1 (stepVs [(MvD.swap j k).step]) rfl rfl ?cc1 ?cc2 ?cc3 ?cc4 ?cc5 ?_))
                        case cc1 =>
                          intro j u hj
                          match j, hj with
                          | 0, hj => simp [stepVs, MvD.step] at hj; subst hj; simp [Addr.add]
                          | 1, hj => simp [stepVs, MvD.step] at hj; subst hj; simp [Addr.add]
                          | 2, hj => simp [stepVs, MvD.step] at hj; subst hj; simp [Addr.add]
                        case cc2 => intro u hu; simp [stepVs, MvD.step] at hu; rcases hu with rfl | rfl | rfl <;> rfl
                        case cc3 => unfold maxLen; omega
                        case cc4 => omega
                        case cc5 => simp; omega
                        intro v' w3 hown' hgrow hfr
                        have hb1 := ((unhide HB4).alloc (by omega) (.cells #[.int .i64 (MvD.swap j k).step.kind, .int .i64 (MvD.swap j k).step.inn, .int .i64 (MvD.swap j k).step.out] 36)).grown hgrow (by simp; omega) (fun j hj => (World.ownsRow.lt hown j hj).1)
                        have HX3 := hide (box_kept (unhide HX4) hgrow (by simpa using hfr))
                        have HO3 : Hid (w3.ownsRow w.heap.size 36 3 v' (M ++ swTo l k (j + 1)).length (stepVs ((M ++ swTo l k (j + 1)).map MvD.step))) := by
                          show World.ownsRow _ _ _ _ _ _ _
                          rw [unhide HE2, steps_snoc]
                          simpa using hown'
                        have HB3 := hide hb1
                        clear hown hown' hgrow hb1 HX4 hfr
                        go_wp2_with fail
                        go_roundw
                        case rel => exact ⟨j + 1, by omega, by go_num, HO3, HX3, HB3⟩
                        case measure => simp [intOf]; omega
                  · have j2 : ¬ (j : Int) < (l.length : Int) := by omega
                    have hje : j = l.length := by omega
                    subst hje
                    have HEQ := hide (show ((List.range l.length).map MvD.put ++ ((List.range l.length).map MvD.take ++ (List.range (k + 1)).flatMap (swS l))) = M ++ swTo l k l.length by
                      rw [unhide HSU, ← List.append_assoc ((List.range l.length).map MvD.take), ← List.append_assoc, unhide HM]
                      rfl)
                    go_wp2_with fail
                    go_roundw
                    case rel => exact ⟨k + 1, by omega, by go_num, by rw [unhide HEQ]; exact HO, HX, HB⟩
                    case measure => simp [intOf]; omega
              · have j1 : ¬ (k : Int) < (l.length : Int) := by omega
                have hke : k = l.length := by omega
                subst hke
                go_wp2_with fail
                go_ret
                exact ⟨⟨_, rfl, by rw [unhide HE]; simpa using unhide HO⟩, unhide HB⟩
end Go.Proofs.YthkhaemlcmkkjaxGreat

namespace Go.Proofs.YthkhaemlcmkkjaxGreat
set_option linter.unusedVariables false
set_option linter.unusedSimpArgs false
open Go.RowKit Go.Deep

def readyB (l : List PackD) (set : List Int) (n : Int) : Bool := (l.getD n.toNat dPack).pres.all fun q => someB l set [q] (-1)
def outZ (set : List Int) (s : StepD) : List Int := if s.kind ≠ 1 then set.filter (· != s.out) else set
def inB2 (l : List PackD) (room : Int) (set : List Int) (s : StepD) : Bool := readyB l (outZ set s) s.inn && decide (sizeZ l room set + (l.getD s.inn.toNat dPack).size ≤ room)
def thenZ (set : List Int) (s : StepD) : List Int := if s.kind ≠ 2 then putZ (outZ set s) s.inn else outZ set s
def mayB (l : List PackD) (room : Int) (set : List Int) (s : StepD) : Bool := okZ l room set && (stepsL l room).any (fun t => eqS t s) && !(decide (s.kind ≠ 2) && set.any (· == s.inn)) && !(decide (s.kind ≠ 1) && !(set.any (· == s.out)))
/-- The specification's StepDo. -/
def specDo (l : List PackD) (room : Int) (set : List Int) (s : StepD) : Option (List Int) :=
  if mayB l room set s && (decide (s.kind = 2) || inB2 l room set s) && okZ l room (thenZ set s) then some (thenZ set s) else none
/-- The program's StepDo. -/
def implDo (l : List PackD) (room : Int) (set : List Int) (s : StepD) : Option (List Int) :=
  if okZ l room set then
    match (movesL l).find? (fun m => eqS m.step s) with
    | none => none
    | some m => if allowsB l room (setBits set) m then some (intsOf (placesTo (behindN (setBits set) m) 8)) else none
  else none

theorem out_test (s g q : Nat) (hg : g < 65536) (hq : q < 64) : (outN s g).testBit q = (s.testBit q && !g.testBit q) := by
  unfold outN
  rw [Nat.testBit_and, show 18446744073709551615 - g = 2 ^ 64 - (g + 1) by omega, Nat.testBit_two_pow_sub_succ (by omega)]
  simp [hq]
theorem okz_form {l : List PackD} {room : Int} {set : List Int} (h : okZ l room set = true) : formB l room set = true := by
  unfold okZ at h
  rw [Bool.and_eq_true] at h
  exact h.1
theorem formr {l : List PackD} {room : Int} {set : List Int} (h : formB l room set = true) : repoB ⟨l, room⟩ = true := by
  unfold formB at h
  rw [Bool.and_eq_true] at h
  exact h.2
theorem bits256 {l : List PackD} {room : Int} {set : List Int} (h : formB l room set = true) : setBits set < 256 := by
  have h1 : setBits set < 2 ^ 8 := by
    apply Nat.lt_pow_two_of_testBit
    intro q hq
    cases hb : (setBits set).testBit q with
    | false => rfl
    | true =>
      have hm := (bit_mem h q).1 hb
      have := ((form_iff (formr h)).1 h).2 _ hm
      have := form_l8 h
      omega
  exact h1
theorem bits_of {l : List PackD} {room : Int} {set : List Int} (h : formB l room set = true) {B : Nat} (hB : B < 256) (hb : ∀ q, q < 8 → B.testBit q = decide ((q : Int) ∈ set)) : setBits set = B := by
  apply Nat.eq_of_testBit_eq
  intro q
  by_cases hq : q < 8
  · rw [hb q hq, Bool.eq_iff_iff, decide_eq_true_eq, bit_mem h]
  · have h2 : (256 : Nat) ≤ 2 ^ q := by
      have : 2 ^ 8 ≤ 2 ^ q := Nat.pow_le_pow_right (by omega) (by omega)
      omega
    rw [Nat.testBit_lt_two_pow (Nat.lt_of_lt_of_le (bits256 h) h2), Nat.testBit_lt_two_pow (Nat.lt_of_lt_of_le hB h2)]
theorem moves_within {l : List PackD} (hl : l.length ≤ 8) {m : MvD} (h : m ∈ movesL l) : m.within l.length := by
  unfold movesL at h
  rcases List.mem_append.1 h with h | h
  · obtain ⟨i, hi, rfl⟩ := List.mem_map.1 h
    exact List.mem_range.1 hi
  · rcases List.mem_append.1 h with h | h
    · obtain ⟨i, hi, rfl⟩ := List.mem_map.1 h
      exact List.mem_range.1 hi
    · obtain ⟨i, hi, h⟩ := List.mem_flatMap.1 h
      unfold swapsAt at h
      obtain ⟨j, hj, rfl⟩ := List.mem_map.1 h
      refine ⟨?_, List.mem_range.1 hi⟩
      have := ((mem_places _ _ _).1 hj).2
      unfold twN at this
      rw [test_bitsTo, Bool.and_eq_true, decide_eq_true_eq] at this
      exact this.1
theorem pow_lt256 {i : Nat} (h : i < 8) : 2 ^ i < 256 := Nat.lt_of_lt_of_le (Nat.pow_lt_pow_right (by omega) h) (by omega)
theorem comes256 {m : MvD} {n : Nat} (h : m.within n) (hn : n ≤ 8) : m.comes < 256 := by
  cases m with
  | put i => exact pow_lt256 (Nat.lt_of_lt_of_le h hn)
  | take o => show 0 < 256; omega
  | swap i o => exact pow_lt256 (Nat.lt_of_lt_of_le h.1 hn)
theorem behind256 {s : Nat} {m : MvD} {n : Nat} (hs : s < 256) (h : m.within n) (hn : n ≤ 8) : behindN s m < 256 := by
  have h1 : outN s m.goes < 2 ^ 8 := Nat.lt_of_le_of_lt Nat.and_le_left hs
  have h2 : m.comes < 2 ^ 8 := comes256 h hn
  exact Nat.or_lt_two_pow h1 h2
/-- What must be there ahead, by bits. -/
theorem ready_bits {l : List PackD} {room : Int} {set : List Int} (h : formB l room set = true) (i : Nat) : readyB l set (i : Int) = prepB l (setBits set) i := by
  unfold readyB prepB
  rw [List.all_map, Int.toNat_natCast]
  congr 1
  funext q
  show someB l set [q] (-1) = meetB (setBits set) (preN l q)
  rw [← row_meets h [q]]
  have : rowN l [q] = preN l q := by
    unfold rowN preN anyB
    simp
  rw [this]
theorem places_pow {i : Nat} (h : i < 8) : placesTo (2 ^ i) 8 = [i] := by
  have h1 := places_bits [i] (by simp) (n := 8) (by simpa using h)
  unfold bitsOf at h1
  simpa using h1
theorem places_zero : placesTo 0 8 = [] := rfl
theorem size_one (l : List PackD) {i : Nat} (h : i < 8) : bitSize l (2 ^ i) = (l.getD i dPack).size := by
  unfold bitSize
  rw [places_pow h]
  simp [sumP]
theorem size_zero (l : List PackD) : bitSize l 0 = 0 := rfl
theorem any_mem (set : List Int) (z : Int) : set.any (· == z) = decide (z ∈ set) := by
  rw [Bool.eq_iff_iff, List.any_eq_true, decide_eq_true_eq]
  constructor
  · rintro ⟨x, hx, e⟩; simp at e; rwa [← e]
  · intro h; exact ⟨z, h, by simp⟩
theorem meet_pow (s i : Nat) : meetB s (2 ^ i) = s.testBit i := by rw [← has_test]; rfl
theorem meet_zero (s : Nat) : meetB s 0 = false := by unfold meetB; simp
theorem and_pow (s i : Nat) : decide (s &&& 2 ^ i = 2 ^ i) = s.testBit i := by
  rw [Bool.eq_iff_iff, decide_eq_true_eq]
  constructor
  · intro h
    have := congrArg (fun x => x.testBit i) h
    simpa [Nat.testBit_and] using this
  · intro h
    apply Nat.eq_of_testBit_eq
    intro q
    rw [Nat.testBit_and, Nat.testBit_two_pow]
    by_cases e : i = q
    · subst e; simp [h]
    · simp [e]
theorem and_goes (s o : Nat) (m : MvD) (e : m.goes = 2 ^ o) : decide (s &&& m.goes = m.goes) = s.testBit o := by
  rw [Bool.eq_iff_iff, decide_eq_true_eq, e, ← and_pow, decide_eq_true_eq]
/-- What is left, in form. -/
theorem filter_form {l : List PackD} {room : Int} {set : List Int} (h : formB l room set = true) (z : Int) : formB l room (set.filter (· != z)) = true := by
  obtain ⟨h1, h2⟩ := (form_iff (formr h)).1 h
  exact (form_iff (formr h)).2 ⟨h1.filter _, fun x hx => h2 x (List.mem_filter.1 hx).1⟩
theorem filter_bits {l : List PackD} {room : Int} {set : List Int} (h : formB l room set = true) (o : Nat) (ho : o < 8) : setBits (set.filter (· != (o : Int))) = outN (setBits set) (2 ^ o) := by
  have hp := pow_lt256 ho
  refine bits_of (filter_form h _) (Nat.lt_of_le_of_lt Nat.and_le_left (bits256 h)) fun q hq => ?_
  rw [out_test _ _ _ (by omega) (by omega), Nat.testBit_two_pow, Bool.eq_iff_iff, Bool.and_eq_true, decide_eq_true_eq, bit_mem h, List.mem_filter]
  simp
  intro _
  constructor
  · intro e e2; exact e (by omega)
  · intro e e2; exact e (by omega)
theorem put_form {l : List PackD} {room : Int} {set : List Int} (h : formB l room set = true) {i : Nat} (hi : i < l.length) (hn : (i : Int) ∉ set) : formB l room (putZ set (i : Int)) = true := by
  obtain ⟨h1, h2⟩ := (form_iff (formr h)).1 h
  refine (form_iff (formr h)).2 ⟨putZ_asc h1 hn, fun x hx => ?_⟩
  rcases (putZ_mem _ _ _).1 hx with hx | hx
  · exact h2 x hx
  · rw [hx]; omega
theorem put_bits {l : List PackD} {room : Int} {set : List Int} (h : formB l room set = true) {i : Nat} (hi : i < l.length) (hn : (i : Int) ∉ set) : setBits (putZ set (i : Int)) = setBits set ||| 2 ^ i := by
  have h8 := form_l8 h
  have hp : 2 ^ i < 2 ^ 8 := Nat.pow_lt_pow_right (by omega) (by omega)
  refine bits_of (put_form h hi hn) (Nat.or_lt_two_pow (n := 8) (bits256 h) hp) fun q hq => ?_
  rw [Nat.testBit_or, Nat.testBit_two_pow, Bool.eq_iff_iff, Bool.or_eq_true, decide_eq_true_eq, decide_eq_true_eq, bit_mem h, putZ_mem]
  constructor
  · rintro (h | h)
    · exact Or.inl h
    · exact Or.inr (by omega)
  · rintro (h | h)
    · exact Or.inl h
    · exact Or.inr (by omega)
theorem set_ints {l : List PackD} {room : Int} {set : List Int} (h : formB l room set = true) : set = intsOf (placesTo (setBits set) 8) := form_bits h fun q _ => by
  rw [Bool.eq_iff_iff, decide_eq_true_eq, bit_mem h]
theorem okz_health {l : List PackD} {room : Int} {set : List Int} (h : formB l room set = true) : okZ l room set = healthB l room (setBits set) := by
  unfold okZ
  rw [h, Bool.true_and]
theorem sizez_bits {l : List PackD} {room : Int} {set : List Int} (h : formB l room set = true) : sizeZ l room set = bitSize l (setBits set) := by
  unfold sizeZ
  rw [h, if_pos rfl, size_bits h]
theorem out_zero (s : Nat) (h : s < 256) : outN s 0 = s := by
  apply Nat.eq_of_testBit_eq
  intro q
  by_cases hq : q < 64
  · rw [out_test s 0 q (by omega) hq]; simp
  · have h2 : (256 : Nat) ≤ 2 ^ q := by
      have : 2 ^ 8 ≤ 2 ^ q := Nat.pow_le_pow_right (by omega) (by omega)
      omega
    have h3 : outN s 0 < 2 ^ q := Nat.lt_of_le_of_lt Nat.and_le_left (Nat.lt_of_lt_of_le h h2)
    rw [Nat.testBit_lt_two_pow h3, Nat.testBit_lt_two_pow (Nat.lt_of_lt_of_le h h2)]

theorem may_step {l : List PackD} {room : Int} {set : List Int} (h : okZ l room set = true) (s : StepD) : (stepsL l room).any (fun t => eqS t s) = ((movesL l).find? (fun m => eqS m.step s)).isSome := by
  unfold stepsL
  rw [formr (okz_form h), if_pos rfl, List.any_map, List.isSome_find?]
  rfl
theorem eqS_eq {a b : StepD} (h : eqS a b = true) : a = b := (eqS_iff a b).1 h

/-- The two ways are one. -/
theorem do_same (l : List PackD) (room : Int) (set : List Int) (s : StepD) : specDo l room set s = implDo l room set s := by
  unfold specDo implDo mayB
  cases hok : okZ l room set with
  | false => simp
  | true =>
    have hf := okz_form hok
    have hr := formr hf
    have h8 := form_l8 hf
    have hb := bits256 hf
    rw [may_step hok s]
    cases hfd : (movesL l).find? (fun m => eqS m.step s) with
    | none => simp
    | some m =>
      have hmm := List.mem_of_find?_eq_some hfd
      have hs : m.step = s := eqS_eq (by have := List.find?_some hfd; simpa using this)
      have hw := moves_within h8 hmm
      subst hs
      simp only [Option.isSome_some, Bool.and_true, Bool.true_and, if_true, any_mem]
      cases m with
      | put i =>
        have hi : i < l.length := hw
        simp only [MvD.step, inB2, outZ, thenZ, allowsB, MvD.goes, MvD.comes, behindN]
        simp only [ne_eq, not_true, not_false_eq_true, if_true, if_false, decide_true, decide_false, Bool.true_and, Bool.false_and, Bool.not_false, Bool.and_true, Bool.false_or, Bool.or_false, show ¬ ((1 : Int) = 2) by omega, Nat.and_zero, out_zero _ hb, meet_pow, preparedB, places_pow (show i < 8 by omega), List.all_cons, List.all_nil, size_one l (show i < 8 by omega), Int.toNat_natCast, ready_bits hf, sizez_bits hf]
        have hm : (setBits set).testBit i = decide ((i : Int) ∈ set) := by rw [Bool.eq_iff_iff, decide_eq_true_eq, bit_mem hf]
        rw [hm]
        by_cases hin : (i : Int) ∈ set
        · simp [hin]
        · have hpf := put_form hf hi hin
          rw [okz_health hpf, put_bits hf hi hin]
          have he := set_ints hpf
          rw [put_bits hf hi hin] at he
          rw [← he]
          simp [hin, Bool.and_assoc, and_assoc]
      | take o =>
        have ho : o < l.length := hw
        have hsz : bitSize l (setBits set) ≤ room := by
          rw [okz_health hf] at hok
          unfold healthB at hok
          rw [Bool.and_eq_true, decide_eq_true_eq] at hok
          exact hok.1
        simp only [allowsB, and_goes _ o (MvD.take o) rfl]
        simp only [MvD.step, inB2, outZ, thenZ, MvD.goes, MvD.comes, behindN]
        simp only [ne_eq, not_true, not_false_eq_true, if_true, if_false, decide_true, decide_false, Bool.true_and, Bool.false_and, Bool.not_false, Bool.not_true, Bool.and_true, Bool.true_or, Bool.or_true, show ¬ ((2 : Int) = 1) by omega, Bool.not_not, and_pow, meet_zero, preparedB, places_zero, List.all_nil, size_zero, Int.add_zero, decide_eq_true hsz, Nat.or_zero]
        have hm : (setBits set).testBit o = decide ((o : Int) ∈ set) := by rw [Bool.eq_iff_iff, decide_eq_true_eq, bit_mem hf]
        have hff := filter_form hf (o : Int)
        have he := set_ints hff
        rw [filter_bits hf o (by omega)] at he
        rw [hm, okz_health hff, filter_bits hf o (by omega), ← he]
        by_cases hin : (o : Int) ∈ set
        · simp [hin]
        · simp [hin]
      | swap i o =>
        have hi : i < l.length := hw.1
        have ho : o < l.length := hw.2
        simp only [allowsB, and_goes _ o (MvD.swap i o) rfl]
        simp only [MvD.step, inB2, outZ, thenZ, MvD.goes, MvD.comes, behindN]
        simp only [ne_eq, not_true, not_false_eq_true, if_true, if_false, decide_true, decide_false, Bool.true_and, Bool.false_and, Bool.not_false, Bool.and_true, Bool.false_or, Bool.or_false, show ¬ ((3 : Int) = 2) by omega, show ¬ ((3 : Int) = 1) by omega, Bool.not_not, and_pow, meet_pow, preparedB, places_pow (show i < 8 by omega), List.all_cons, List.all_nil, size_one l (show i < 8 by omega), Int.toNat_natCast, ready_bits (filter_form hf (o : Int)), filter_bits hf o (show o < 8 by omega), sizez_bits hf]
        have hm : (setBits set).testBit i = decide ((i : Int) ∈ set) := by rw [Bool.eq_iff_iff, decide_eq_true_eq, bit_mem hf]
        have hmo : (setBits set).testBit o = decide ((o : Int) ∈ set) := by rw [Bool.eq_iff_iff, decide_eq_true_eq, bit_mem hf]
        rw [hm, hmo]
        by_cases hin : (i : Int) ∈ set
        · simp [hin]
        · have hnf : (i : Int) ∉ set.filter (· != (o : Int)) := fun h => hin (List.mem_filter.1 h).1
          have hff := filter_form hf (o : Int)
          have hpf := put_form hff hi hnf
          have he := set_ints hpf
          rw [put_bits hff hi hnf, filter_bits hf o (by omega)] at he
          rw [okz_health hpf, put_bits hff hi hnf, filter_bits hf o (by omega), ← he]
          by_cases hino : (o : Int) ∈ set
          · simp [hin, hino, Bool.and_assoc, and_assoc]
          · simp [hin, hino]
end Go.Proofs.YthkhaemlcmkkjaxGreat

namespace Go.Proofs.YthkhaemlcmkkjaxGreat
set_option linter.unusedVariables false
set_option linter.unusedSimpArgs false
open Go.RowKit Go.Deep

def dStep : StepD := ⟨0, 0, 0⟩
/-- Steps that lie in memory. -/
def StepsAt (w : World) (a : Option Addr) (ss : List StepD) : Prop := ss.length ≤ 1048576 ∧ (ss = [] ∨ ∃ b o, a = some ⟨b, o, none⟩ ∧ b < w.heap.size ∧ ∀ i, i < ss.length → w.cell? ⟨b, o + i * 3, none⟩ = some (.int .i64 (ss.getD i dStep).kind) ∧ w.cell? ⟨b, o + i * 3 + 1, none⟩ = some (.int .i64 (ss.getD i dStep).inn) ∧ w.cell? ⟨b, o + i * 3 + 2, none⟩ = some (.int .i64 (ss.getD i dStep).out))
theorem StepsAt.on {w w' : World} {a : Option Addr} {ss : List StepD} (h : StepsAt w a ss) (hb : Below w.heap.size w w') : StepsAt w' a ss := by
  obtain ⟨h0, h⟩ := h
  refine ⟨h0, h.imp id ?_⟩
  rintro ⟨b, o, ha, hlt, hr⟩
  refine ⟨b, o, ha, Nat.lt_of_lt_of_le hlt hb.size, fun i hi => ?_⟩
  obtain ⟨h1, h2, h3⟩ := hr i hi
  exact ⟨(hb.cell (p := ⟨b, o + i * 3, none⟩) hlt).trans h1, (hb.cell (p := ⟨b, o + i * 3 + 1, none⟩) hlt).trans h2, (hb.cell (p := ⟨b, o + i * 3 + 2, none⟩) hlt).trans h3⟩
theorem stepVs_at : ∀ (ss : List StepD) (i j : Nat), i < ss.length → j < 3 → (stepVs ss)[i * 3 + j]? = [Value.int .i64 (ss.getD i dStep).kind, .int .i64 (ss.getD i dStep).inn, .int .i64 (ss.getD i dStep).out][j]?
  | [], i, j, h, _ => by simp at h
  | s :: ss, 0, j, _, hj => by
    unfold stepVs
    simp only [List.flatMap_cons, Nat.zero_mul, Nat.zero_add]
    rw [List.getElem?_append_left (by simpa using hj)]
    rfl
  | s :: ss, i + 1, j, h, hj => by
    have ih := stepVs_at ss i j (by simpa using h) hj
    unfold stepVs at ih ⊢
    simp only [List.flatMap_cons]
    rw [List.getElem?_append_right (by simp; omega)]
    rw [show (i + 1) * 3 + j - [Value.int .i64 s.kind, .int .i64 s.inn, .int .i64 s.out].length = i * 3 + j by simp; omega, ih]
    simp [List.getD]
theorem StepsAt.of_row {B : Nat} {w : World} {v : Value} {ss : List StepD} (h : w.ownsRow B 36 3 v ss.length (stepVs ss)) (hl : ss.length ≤ 1048576) : ∃ a cap, v = .slice a ss.length cap ∧ ss.length ≤ cap ∧ cap ≤ maxLen ∧ StepsAt w a ss := by
  rcases h.2 with ⟨hv, h0⟩ | ⟨g, cap, cur, hv, hB, hc, hcap, hcm, hsz, hx⟩
  · exact ⟨none, 0, by rw [hv, h0], by omega, Nat.zero_le _, hl, Or.inl (List.length_eq_zero_iff.1 h0)⟩
  · refine ⟨_, cap, hv, hcap, hcm, hl, Or.inr ⟨g, 0, rfl, (Array.getElem?_eq_some_iff.1 hc).1, fun i hi => ?_⟩⟩
    have key : ∀ j, j < 3 → w.cell? ⟨g, 0 + i * 3 + j, none⟩ = [Value.int .i64 (ss.getD i dStep).kind, .int .i64 (ss.getD i dStep).inn, .int .i64 (ss.getD i dStep).out][j]? := fun j hj => by
      rw [cell_of_row w g _ cur _ _ hc, Nat.zero_add, ← stepVs_at ss i j hi hj, ← hx, List.getElem?_take, if_pos (by omega)]
      simp
    exact ⟨key 0 (by omega), key 1 (by omega), key 2 (by omega)⟩
theorem stepsL_few (l : List PackD) (room : Int) : (stepsL l room).length ≤ 100 := by
  unfold stepsL
  cases h : repoB ⟨l, room⟩ with
  | false => simp
  | true =>
    have h8 : l.length ≤ 8 := by
      simp only [repoB, Bool.and_eq_true, decide_eq_true_eq] at h
      exact h.1.1.1
    have := moves_le l
    rw [if_pos rfl, List.length_map]
    omega
end Go.Proofs.YthkhaemlcmkkjaxGreat

namespace Go.Proofs.YthkhaemlcmkkjaxGreat
set_option linter.unusedVariables false
set_option linter.unusedSimpArgs false
open Go.RowKit Go.Deep

end Go.Proofs.YthkhaemlcmkkjaxGreat

namespace Go.Proofs.YthkhaemlcmkkjaxGreat
set_option linter.unusedVariables false
set_option linter.unusedSimpArgs false
open Go.RowKit Go.Deep

theorem step_mem {l : List PackD} {room : Int} {s : StepD} (h : (stepsL l room).any (fun t => eqS t s) = true) : ∃ m ∈ movesL l, s = m.step := by
  rw [List.any_eq_true] at h
  obtain ⟨t, ht, he⟩ := h
  unfold stepsL at ht
  split at ht
  · obtain ⟨m, hm, rfl⟩ := List.mem_map.1 ht
    exact ⟨m, hm, (eqS_eq he).symm⟩
  · simp at ht
/-- What holds where a step is allowed. -/
structure DoneS (l : List PackD) (room : Int) (set : List Int) (m : MvD) (t : List Int) : Prop where
  ok : okZ l room set = true
  mem : m ∈ movesL l
  inn : m.step.kind ≠ 2 → m.step.inn ∉ set
  out : m.step.kind ≠ 1 → m.step.out ∈ set
  may : m.step.kind ≠ 2 → inB2 l room set m.step = true
  ok' : okZ l room t = true
  eq : t = thenZ set m.step
theorem do_parts {l : List PackD} {room : Int} {set : List Int} {s : StepD} {t : List Int} (h : implDo l room set s = some t) : ∃ m, s = m.step ∧ DoneS l room set m t := by
  rw [← do_same] at h
  unfold specDo mayB at h
  split at h
  case isTrue hc =>
    simp only [Option.some.injEq] at h
    simp only [Bool.and_eq_true] at hc
    obtain ⟨⟨⟨⟨⟨h1, h2⟩, h3⟩, h4⟩, h5⟩, h6⟩ := hc
    obtain ⟨m, hm, rfl⟩ := step_mem h2
    subst h
    refine ⟨m, rfl, h1, hm, fun hk hi => ?_, fun hk => ?_, fun hk => ?_, h6, rfl⟩
    · rw [any_mem, decide_eq_true hk, decide_eq_true hi] at h3
      simp at h3
    · rw [any_mem, decide_eq_true hk] at h4
      simpa using h4
    · simpa [hk] using h5
  case isFalse hc => simp at h
end Go.Proofs.YthkhaemlcmkkjaxGreat

namespace Go.Proofs.YthkhaemlcmkkjaxGreat
set_option linter.unusedVariables false
set_option linter.unusedSimpArgs false
open Go.RowKit Go.Deep

theorem DoneS.within {l : List PackD} {room : Int} {set : List Int} {m : MvD} {t : List Int} (h : DoneS l room set m t) : m.within l.length := moves_within (form_l8 (okz_form h.ok)) h.mem
theorem DoneS.room {l : List PackD} {room : Int} {set : List Int} {m : MvD} {t : List Int} (h : DoneS l room set m t) (hk : m.step.kind ≠ 2) : sizeZ l room set + (l.getD m.step.inn.toNat dPack).size ≤ room := by
  have := h.may hk
  unfold inB2 at this
  rw [Bool.and_eq_true, decide_eq_true_eq] at this
  exact this.2
theorem DoneS.ready {l : List PackD} {room : Int} {set : List Int} {m : MvD} {t : List Int} (h : DoneS l room set m t) (hk : m.step.kind ≠ 2) {q : ReqD} (hq : q ∈ (l.getD m.step.inn.toNat dPack).pres) : someB l (outZ set m.step) [q] (-1) = true := by
  have := h.may hk
  unfold inB2 readyB at this
  rw [Bool.and_eq_true] at this
  exact List.all_eq_true.1 this.1 q hq
end Go.Proofs.YthkhaemlcmkkjaxGreat

namespace Go.Proofs.YthkhaemlcmkkjaxGreat
set_option linter.unusedVariables false
set_option linter.unusedSimpArgs false
open Go.RowKit Go.Deep

end Go.Proofs.YthkhaemlcmkkjaxGreat
