/- Moves: what they are, and all that there might be. All moves that there might be. A move as it is told outside. What comes in and what goes out by a move. -/
import Derived.Test.YthkhaemlcmkkjaxGreatGSv
namespace Go.Proofs.YthkhaemlcmkkjaxGreat
set_option linter.unusedVariables false
set_option linter.unusedSimpArgs false
open Go.RowKit Go.Deep

/-- A step, as it is told outside. -/
structure StepD where
  kind : Int
  inn : Int
  out : Int
/-- A move. -/
inductive MvD where
  | put (i : Nat)
  | take (o : Nat)
  | swap (i o : Nat)
def eqS (a b : StepD) : Bool := a.kind == b.kind && a.inn == b.inn && a.out == b.out
theorem eqS_iff (a b : StepD) : eqS a b = true ↔ a = b := by
  cases a; cases b
  simp [eqS, and_assoc]
def MvD.val : MvD → Value
  | .put i => .iface 143 (.agg #[.int .i64 (i : Int)])
  | .take o => .iface 145 (.agg #[.int .i64 (o : Int)])
  | .swap i o => .iface 149 (.agg #[.int .i64 (i : Int), .int .i64 (o : Int)])
def MvD.step : MvD → StepD
  | .put i => ⟨1, i, 0⟩
  | .take o => ⟨2, 0, o⟩
  | .swap i o => ⟨3, i, o⟩
def MvD.comes : MvD → Nat
  | .put i => 2 ^ i
  | .take _ => 0
  | .swap i _ => 2 ^ i
def MvD.goes : MvD → Nat
  | .put _ => 0
  | .take o => 2 ^ o
  | .swap _ o => 2 ^ o
def swapsAt (l : List PackD) (i : Nat) : List MvD := (placesTo (twN l i) 8).map fun j => .swap j i
def movesL (l : List PackD) : List MvD := (List.range l.length).map MvD.put ++ ((List.range l.length).map MvD.take ++ (List.range l.length).flatMap (swapsAt l))
def mvVs (ms : List MvD) : List Value := ms.map MvD.val
theorem mvVs_snoc (ms : List MvD) (m : MvD) : mvVs (ms ++ [m]) = mvVs ms ++ [m.val] := by simp [mvVs]
theorem Tryz.infoMove : (Tryz.prog.info? 104).map (fun i => (i.zero, i.size, i.bytes)) = some (some .nilIface, 1, 16) := by kernel_rfl

theorem range_map_succ {α : Type} (f : Nat → α) (k : Nat) : (List.range (k + 1)).map f = (List.range k).map f ++ [f k] := by rw [List.range_succ, List.map_append]; rfl
theorem range_flat_succ {α : Type} (f : Nat → List α) (k : Nat) : (List.range (k + 1)).flatMap f = (List.range k).flatMap f ++ f k := by rw [List.range_succ, List.flatMap_append]; simp
theorem swaps_le (l : List PackD) (i : Nat) : (swapsAt l i).length ≤ 8 := by unfold swapsAt; rw [List.length_map]; exact places_le _ _
theorem flat_le (l : List PackD) : ∀ k, ((List.range k).flatMap (swapsAt l)).length ≤ 8 * k
  | 0 => by simp
  | k + 1 => by
    have := flat_le l k
    have := swaps_le l k
    rw [range_flat_succ, List.length_append]
    omega
theorem moves_le (l : List PackD) : (movesL l).length ≤ 10 * l.length := by
  have := flat_le l l.length
  unfold movesL
  simp only [List.length_append, List.length_map, List.length_range]
  omega
theorem twN_small (l : List PackD) (i : Nat) (hl : l.length ≤ 8) : twN l i < 65536 := by
  have h : twN l i < 2 ^ l.length := by
    apply Nat.lt_pow_two_of_testBit
    intro j hj
    unfold twN
    rw [test_bitsTo]
    have : decide (j < l.length) = false := by simpa using hj
    simp [this]
  have : 2 ^ l.length ≤ 2 ^ 8 := Nat.pow_le_pow_right (by omega) hl
  omega
end Go.Proofs.YthkhaemlcmkkjaxGreat

namespace Go.Proofs.YthkhaemlcmkkjaxGreat
set_option linter.unusedVariables false
set_option linter.unusedSimpArgs false
open Go.RowKit Go.Deep

theorem row_ty {w : World} {B : Nat} {e : TypeId} {s : Nat} {v : Value} {n : Nat} {xs : List Value} (h : w.ownsRow B e s v n xs) (g : Nat) (hg : v.ownBlock = some g) : ∃ c, w.heap[g]? = some (.cells c e (0, 0)) := by
  rcases h.2 with ⟨hv, _⟩ | ⟨g', cap, cur, hv, _, hc, _⟩
  · rw [hv] at hg; cases hg
  · rw [hv] at hg
    simp [Value.ownBlock] at hg
    subst hg
    exact ⟨cur, hc⟩
theorem row_down {B B' : Nat} {w : World} {e : TypeId} {s : Nat} {v : Value} {n : Nat} {xs : List Value} (h : w.ownsRow B e s v n xs) (hb : B' ≤ B) : w.ownsRow B' e s v n xs := by
  obtain ⟨h1, h2⟩ := h
  refine ⟨h1, h2.imp id ?_⟩
  rintro ⟨g, cap, cur, hv, hg, r⟩
  exact ⟨g, cap, cur, hv, Nat.le_trans hb hg, r⟩
theorem row_other {w w' : World} {B : Nat} {e : TypeId} {s : Nat} {u : Value} {n : Nat} {xs : List Value} {r : Option Nat} (h : w.ownsRow B e s u n xs) (hg : w.grownBy w' r) (hne : ∀ g, u.ownBlock = some g → r ≠ some g) : w'.ownsRow B e s u n xs := by
  obtain ⟨h1, h2⟩ := h
  refine ⟨h1, h2.imp id ?_⟩
  rintro ⟨g, cap, cur, hv, hg2, hc, r⟩
  refine ⟨g, cap, cur, hv, hg2, ?_, r⟩
  rw [hg.block g (Array.getElem?_eq_some_iff.1 hc).1 (fun e => hne g (by rw [hv]; rfl) e.symm)]
  exact hc
theorem row_types {w w' : World} {B B' : Nat} {e e' : TypeId} {s s' : Nat} {u v : Value} {n n' : Nat} {xs ys : List Value} (h : w.ownsRow B e s u n xs) (hv : w.ownsRow B' e' s' v n' ys) (hne : e ≠ e') (hg : w.grownBy w' v.ownBlock) : w'.ownsRow B e s u n xs :=
  row_other h hg fun g hu hvg => by
    obtain ⟨c, h1⟩ := row_ty h g hu
    obtain ⟨c', h2⟩ := row_ty hv g hvg
    rw [h1] at h2
    simp at h2
    exact hne h2.2
theorem nums_cell {w : World} {B : Nat} {v : Value} {l : List Nat} (h : w.ownsRow B 3 1 v l.length (natVs l)) {j : Nat} (hj : j < l.length) : ∃ g cap, v = .slice (some ⟨g, 0, none⟩) l.length cap ∧ g < w.heap.size ∧ w.cell? ⟨g, j, none⟩ = some (.int .i64 ((l.getD j 0 : Nat) : Int)) := by
  rcases h.2 with ⟨hv, h0⟩ | ⟨g, cap, cur, hv, _, hc, _, _, hsz, hx⟩
  · omega
  · refine ⟨g, cap, hv, (Array.getElem?_eq_some_iff.1 hc).1, ?_⟩
    rw [cell_of_row w g j cur _ _ hc]
    have : (cur.toList.take (l.length * 1))[j]? = (natVs l)[j]? := by rw [hx]
    rw [List.getElem?_take, if_pos (by omega)] at this
    simp [natVs, List.getD, hj] at this ⊢
    exact this

set_option maxRecDepth 100000 in
set_option maxHeartbeats 8000000 in
theorem moves_any (l : List PackD) (room : Int) (V : Value) (hl8 : l.length ≤ 8) (w : World) (h : Stock w V l room) :
    Calls Tryz.prog 74 #[V] w fun e w' => (∃ v, e = .returned v ∧ w'.ownsRow w.heap.size 104 1 v (movesL l).length (mvVs (movesL l))) ∧ Below w.heap.size w w' := by
  obtain ⟨a, cap, bm, av, rfl, hP, hA⟩ := h
  obtain ⟨i0, hi, hz0, hz1, hz2⟩ := info_parts Tryz.infoMove
  obtain ⟨⟨xa, xc, rfl⟩, hA2⟩ := hA
  have HA := hide hA2
  clear hA2 hP
  go_enter Tryz.func74, Tryz.ntmps74
  go_wp2_with fail
  obtain ⟨w0, hw0⟩ : ∃ w0, w0 = w.alloc (.cells #[.slice a l.length cap, .int .i64 room, .map (some bm), .slice xa l.length xc] 73) := ⟨_, rfl⟩
  have b0 : Below w.heap.size w w0 := by rw [hw0]; exact (Below.refl _ _).alloc (Nat.le_refl _) _
  have x0 : w0.cell? ⟨w.heap.size, 0, none⟩ = some (.slice a l.length cap) := by rw [hw0]; simp
  have x3 : w0.cell? ⟨w.heap.size, 3, none⟩ = some (.slice xa l.length xc) := by rw [hw0]; simp
  have hlt0 : w.heap.size < w0.heap.size := by rw [hw0]; simp
  rw [← hw0]
  have HB0 := hide b0
  clear hw0 b0
  go_loopw [3, 13] (fun v i wr => ∃ k : Nat, k ≤ l.length ∧ i = .int .i64 k ∧ Hid (wr.ownsRow w0.heap.size 104 1 v (((List.range k).map MvD.put)).length (mvVs (((List.range k).map MvD.put)))) ∧ Hid (Below w0.heap.size w0 wr)) (fun _ i _ => l.length - (intOf i).toNat)
  case atStart => exact ⟨0, Nat.zero_le _, rfl, World.ownsRow_nil _ _ _ _, Below.refl _ _⟩
  case round =>
    rename World => wo
    obtain ⟨k, hk, rfl, HO, HB⟩ := hrel
    by_cases hlt : k < l.length
    · have j1 : (k : Int) < (l.length : Int) := by omega
      have hzb := (unhide HB).size
      have hsucc := range_map_succ MvD.put k
      have hlen : (((List.range k).map MvD.put)).length ≤ 1000 := by simp; omega
      have hown := unhide HO
      generalize hM : ((List.range k).map MvD.put) = M at hown hlen
      have HE := hide (show ((List.range (k + 1)).map MvD.put) = M ++ [MvD.put k] by rw [hsucc, ← hM])
      clear HO hsucc hM
      go_wp2_with (first
        | (at_builtin; refine wpList_append_own _ rfl _ _ 117 rfl w0.heap.size 104 i0 .nilIface 1 16 Tryz.underlying117 hi hz0 hz1 hz2 rfl (by decide) _ _ _ rfl (hown.alloc _) ⟨wo.heap.size, 0, none⟩ 1 1 [(MvD.put k).val] rfl rfl ?ca1 ?ca2 ?ca3 ?ca4 ?ca5 ?_))
      case ca1 =>
        intro j u hj
        match j, hj with
        | 0, hj => simp at hj; subst hj; simp [Addr.add, MvD.val]
      case ca2 => intro u hu; simp at hu; subst hu; rfl
      case ca3 => unfold maxLen; omega
      case ca4 => omega
      case ca5 => simp; omega
      intro v' w3 hown' hgrow _
      have hb1 := ((unhide HB).alloc (by omega) (.cells #[(MvD.put k).val] 104)).grown hgrow (by simp; omega) (fun j hj => (World.ownsRow.lt hown j hj).1)
      have HO3 : Hid (w3.ownsRow w0.heap.size 104 1 v' (((List.range (k + 1)).map MvD.put)).length (mvVs (((List.range (k + 1)).map MvD.put)))) := by
        show World.ownsRow _ _ _ _ _ _ _
        rw [unhide HE, mvVs_snoc]
        simpa using hown'
      have HB3 := hide hb1
      clear hown hown' hgrow hb1
      go_wp2_with fail
      go_roundw
      case rel => exact ⟨k + 1, by omega, by go_num, HO3, HB3⟩
      case measure => simp [intOf]; omega
    · have j1 : ¬ (k : Int) < (l.length : Int) := by omega
      have hke : k = l.length := by omega
      subst hke
      rw [← (unhide HB).cell (p := ⟨w.heap.size, _, none⟩) hlt0] at x0
      have HBo := HB
      have HOo := HO
      go_wp2_with fail
      clear HB HO x0 j1
      have X3 := x3
      go_loopw [3, 26] (fun v i wr => ∃ k : Nat, k ≤ l.length ∧ i = .int .i64 k ∧ Hid (wr.ownsRow w0.heap.size 104 1 v ((List.range l.length).map MvD.put ++ ((List.range k).map MvD.take)).length (mvVs ((List.range l.length).map MvD.put ++ ((List.range k).map MvD.take)))) ∧ Hid (Below w0.heap.size w0 wr)) (fun _ i _ => l.length - (intOf i).toNat)
      case atStart => exact ⟨0, Nat.zero_le _, rfl, by simpa using HOo, HBo⟩
      case round =>
        rename World => wp
        obtain ⟨k, hk, rfl, HO, HB⟩ := hrel
        by_cases hlt : k < l.length
        · have j1 : (k : Int) < (l.length : Int) := by omega
          have hzb := (unhide HB).size
          have hsucc := range_map_succ MvD.take k
          have hlen : ((List.range l.length).map MvD.put ++ ((List.range k).map MvD.take)).length ≤ 1000 := by simp; omega
          have hown := unhide HO
          generalize hM : (List.range l.length).map MvD.put ++ ((List.range k).map MvD.take) = M at hown hlen
          have HE := hide (show (List.range l.length).map MvD.put ++ ((List.range (k + 1)).map MvD.take) = M ++ [MvD.take k] by rw [hsucc, ← hM]; simp)
          clear HO hsucc hM
          go_wp2_with (first
            | (at_builtin; refine wpList_append_own _ rfl _ _ 117 rfl w0.heap.size 104 i0 .nilIface 1 16 Tryz.underlying117 hi hz0 hz1 hz2 rfl (by decide) _ _ _ rfl (hown.alloc _) ⟨wp.heap.size, 0, none⟩ 1 1 [(MvD.take k).val] rfl rfl ?cb1 ?cb2 ?cb3 ?cb4 ?cb5 ?_))
          case cb1 =>
            intro j u hj
            match j, hj with
            | 0, hj => simp at hj; subst hj; simp [Addr.add, MvD.val]
          case cb2 => intro u hu; simp at hu; subst hu; rfl
          case cb3 => unfold maxLen; omega
          case cb4 => omega
          case cb5 => simp; omega
          intro v' w3 hown' hgrow _
          have hb1 := ((unhide HB).alloc (by omega) (.cells #[(MvD.take k).val] 104)).grown hgrow (by simp; omega) (fun j hj => (World.ownsRow.lt hown j hj).1)
          have HO3 : Hid (w3.ownsRow w0.heap.size 104 1 v' ((List.range l.length).map MvD.put ++ ((List.range (k + 1)).map MvD.take)).length (mvVs ((List.range l.length).map MvD.put ++ ((List.range (k + 1)).map MvD.take)))) := by
            show World.ownsRow _ _ _ _ _ _ _
            rw [unhide HE, mvVs_snoc]
            simpa using hown'
          have HB3 := hide hb1
          clear hown hown' hgrow hb1
          go_wp2_with fail
          go_roundw
          case rel => exact ⟨k + 1, by omega, by go_num, HO3, HB3⟩
          case measure => simp [intOf]; omega
        · have j1 : ¬ (k : Int) < (l.length : Int) := by omega
          have hke : k = l.length := by omega
          subst hke
          rw [← (unhide HB).cell (p := ⟨w.heap.size, _, none⟩) hlt0] at X3
          have HBp := HB
          have HOp := HO
          go_wp2_with fail
          clear HB HO j1
          go_loopw [3, 39] (fun v i wr => ∃ k : Nat, k ≤ l.length ∧ i = .int .i64 k ∧ Hid (wr.ownsRow w0.heap.size 104 1 v ((List.range l.length).map MvD.put ++ ((List.range l.length).map MvD.take ++ (List.range k).flatMap (swapsAt l))).length (mvVs ((List.range l.length).map MvD.put ++ ((List.range l.length).map MvD.take ++ (List.range k).flatMap (swapsAt l))))) ∧ Hid (Below w0.heap.size w0 wr)) (fun _ i _ => l.length - (intOf i).toNat)
          case atStart => exact ⟨0, Nat.zero_le _, rfl, by simpa using HOp, HBp⟩
          case round =>
            rename World => wq
            obtain ⟨k, hk, rfl, HO, HB⟩ := hrel
            by_cases hlt : k < l.length
            · have j1 : (k : Int) < (l.length : Int) := by omega
              have j0 : (0 : Int) ≤ (k : Int) := by omega
              have hzb := (unhide HB).size
              have bq : Below w.heap.size w wq := (unhide HB0).trans ((unhide HB).mono (unhide HB0).size)
              obtain ⟨ag, ac, C, hv, hC, hc0, hdone⟩ := unhide HA (by omega)
              simp at hv
              obtain ⟨rfl, rfl⟩ := hv
              have hag := (Array.getElem?_eq_some_iff.1 hC).1
              have hCq := (bq.block ag hag).trans hC
              obtain ⟨c, h0⟩ := hc0 k hlt
              obtain ⟨h1, h2, ⟨rv, h3, ra, rc, rfl, _⟩, ⟨pv, h4, pa, pc, rfl, _⟩⟩ := hdone k hlt
              have c0 : wq.cell? ⟨ag, k * 5, none⟩ = some (.int .i64 c) := by rw [cell_of_row wq ag _ C _ _ hCq]; exact h0
              have c1 : wq.cell? ⟨ag, k * 5 + 1, none⟩ = some (.int .u64 ((twN l k : Nat) : Int)) := by rw [cell_of_row wq ag _ C _ _ hCq]; exact h1
              have c2 : wq.cell? ⟨ag, k * 5 + 2, none⟩ = some (.int .u64 ((bnN l k : Nat) : Int)) := by rw [cell_of_row wq ag _ C _ _ hCq]; exact h2
              have c3 : wq.cell? ⟨ag, k * 5 + 3, none⟩ = some (.slice ra ((l.getD k dPack).deps.map (rowN l)).length rc) := by rw [cell_of_row wq ag _ C _ _ hCq]; exact h3
              have c4 : wq.cell? ⟨ag, k * 5 + 4, none⟩ = some (.slice pa ((l.getD k dPack).pres.map (preN l)).length pc) := by rw [cell_of_row wq ag _ C _ _ hCq]; exact h4
              generalize ((l.getD k dPack).deps.map (rowN l)).length = dl at c3
              generalize ((l.getD k dPack).pres.map (preN l)).length = pl at c4
              have htw := twN_small l k hl8
              have HSW : Hid (swapsAt l k = (placesTo (twN l k) 8).map fun j => MvD.swap j k) := rfl
              have hple := places_le (twN l k) 8
              have hprev : ((List.range l.length).map MvD.put ++ ((List.range l.length).map MvD.take ++ (List.range k).flatMap (swapsAt l))).length ≤ 200 := by
                have := flat_le l k
                simp only [List.length_append, List.length_map, List.length_range]
                omega
              have HSU := hide (range_flat_succ (swapsAt l) k)
              clear h0 h1 h2 h3 h4 hc0 hdone hCq bq hC
              generalize twN l k = tw at c1 htw HSW hple
              go_wp2_with fail
              refine (places_any tw htw _).mono ?_
              rintro e wr ⟨⟨pv2, rfl, hrow⟩, br⟩
              have hzr := br.size
              simp at hzr
              have HBr := hide (((unhide HB).alloc hzb _).trans (br.mono (by simp; omega)))
              have HOr := hide (ownsRow_on (World.ownsRow.alloc (unhide HO) _) br)
              have HPr := hide hrow
              clear HB HO c0 c1 c2 c3 c4 hrow br
              obtain ⟨qa, qc, hq⟩ : ∃ qa qc, pv2 = .slice qa (placesTo tw 8).length qc := by
                rcases (unhide HPr).2 with ⟨hv, h0⟩ | ⟨g, cap, cur, hv, _⟩
                · exact ⟨none, 0, by rw [hv, h0]⟩
                · exact ⟨_, _, hv⟩
              subst hq
              go_wp2_with fail
              generalize placesTo tw 8 = ps at HPr HSW hple
              generalize hM : ((List.range l.length).map MvD.put ++ ((List.range l.length).map MvD.take ++ (List.range k).flatMap (swapsAt l))) = M at HOr hprev
              have HM := hide hM
              clear hM
              have hwr0 : w0.heap.size ≤ wr.heap.size := (unhide HBr).size
              go_loopw [3, 48] (fun v i ws => ∃ j : Nat, j ≤ ps.length ∧ i = .int .i64 j ∧ Hid (ws.ownsRow w0.heap.size 104 1 v (M ++ (ps.take j).map fun p => MvD.swap p k).length (mvVs (M ++ (ps.take j).map fun p => MvD.swap p k))) ∧ Hid (ws.ownsRow w0.heap.size 3 1 (.slice qa ps.length qc) ps.length (natVs ps)) ∧ Hid (Below w0.heap.size w0 ws)) (fun _ i _ => ps.length - (intOf i).toNat)
              case atStart => exact ⟨0, Nat.zero_le _, rfl, by simpa using HOr, row_down (unhide HPr) (by first | omega | (simp; omega)), HBr⟩
              case round =>
                rename World => ws
                obtain ⟨j, hj, rfl, HO, HPs, HB⟩ := hrel
                by_cases hjl : j < ps.length
                · have j2 : (j : Int) < (ps.length : Int) := by omega
                  have jj0 : (0 : Int) ≤ (j : Int) := by omega
                  have hzb := (unhide HB).size
                  obtain ⟨g, gc, hgv, hgl, pc0⟩ := nums_cell (unhide HPs) hjl
                  simp at hgv
                  obtain ⟨rfl, rfl⟩ := hgv
                  have htk : (ps.take (j + 1)).map (fun p => MvD.swap p k) = (ps.take j).map (fun p => MvD.swap p k) ++ [MvD.swap (ps.getD j 0) k] := by
                    rw [List.take_succ_eq_append_getElem hjl, List.map_append]
                    simp [List.getD, hjl]
                  generalize ps.getD j 0 = q at pc0 htk
                  have hlen : (M ++ (ps.take j).map fun p => MvD.swap p k).length ≤ 1000 := by simp; omega
                  have hown := unhide HO
                  generalize hN : (M ++ (ps.take j).map fun p => MvD.swap p k) = N at hown hlen
                  have HE := hide (show (M ++ (ps.take (j + 1)).map fun p => MvD.swap p k) = N ++ [MvD.swap q k] by rw [htk, ← hN]; simp)
                  clear HO hN htk
                  go_wp2_with (first
                    | (at_builtin; refine wpList_append_own _ rfl _ _ 117 rfl w0.heap.size 104 i0 .nilIface 1 16 Tryz.underlying117 hi hz0 hz1 hz2 rfl (by decide) _ _ _ rfl (hown.alloc _) ⟨ws.heap.size, 0, none⟩ 1 1 [(MvD.swap q k).val] rfl rfl ?cc1 ?cc2 ?cc3 ?cc4 ?cc5 ?_))
                  case cc1 =>
                    intro j u hj
                    match j, hj with
                    | 0, hj => simp at hj; subst hj; simp [Addr.add, MvD.val]
                  case cc2 => intro u hu; simp at hu; subst hu; rfl
                  case cc3 => unfold maxLen; omega
                  case cc4 => omega
                  case cc5 => simp; omega
                  intro v' w3 hown' hgrow _
                  have hb1 := ((unhide HB).alloc (by omega) (.cells #[(MvD.swap q k).val] 104)).grown hgrow (by simp; omega) (fun j hj => (World.ownsRow.lt hown j hj).1)
                  have HP3 := hide (row_types (World.ownsRow.alloc (unhide HPs) _) (World.ownsRow.alloc hown _) (by decide) hgrow)
                  have HO3 : Hid (w3.ownsRow w0.heap.size 104 1 v' (M ++ (ps.take (j + 1)).map fun p => MvD.swap p k).length (mvVs (M ++ (ps.take (j + 1)).map fun p => MvD.swap p k))) := by
                    show World.ownsRow _ _ _ _ _ _ _
                    rw [unhide HE, mvVs_snoc]
                    simpa using hown'
                  have HB3 := hide hb1
                  clear hown hown' hgrow hb1 HPs
                  go_wp2_with fail
                  go_roundw
                  case rel => exact ⟨j + 1, by omega, by go_num, HO3, HP3, HB3⟩
                  case measure => simp [intOf]; omega
                · have j2 : ¬ (j : Int) < (ps.length : Int) := by omega
                  have hje : (ps.take j) = ps := List.take_of_length_le (by omega)
                  rw [hje] at HO
                  have HEQ := hide (show ((List.range l.length).map MvD.put ++ ((List.range l.length).map MvD.take ++ (List.range (k + 1)).flatMap (swapsAt l))) = M ++ ps.map (fun p => MvD.swap p k) by
                    rw [unhide HSU, unhide HSW, ← List.append_assoc ((List.range l.length).map MvD.take), ← List.append_assoc, unhide HM])
                  clear hje
                  go_wp2_with fail
                  go_roundw
                  case rel => exact ⟨k + 1, by omega, by go_num, by rw [unhide HEQ]; exact HO, HB⟩
                  case measure => simp [intOf]; omega
            · have j1 : ¬ (k : Int) < (l.length : Int) := by omega
              have hke : k = l.length := by omega
              subst hke
              go_wp2_with fail
              go_ret
              exact ⟨⟨_, rfl, row_down (unhide HO) (by omega)⟩, (unhide HB0).trans ((unhide HB).mono (unhide HB0).size)⟩
end Go.Proofs.YthkhaemlcmkkjaxGreat

namespace Go.Proofs.YthkhaemlcmkkjaxGreat
set_option linter.unusedVariables false
set_option linter.unusedSimpArgs false
open Go.RowKit Go.Deep

def stepV (s : StepD) : Value := .agg #[.int .i64 s.kind, .int .i64 s.inn, .int .i64 s.out]
theorem assert_pp (w : World) (v : Value) : (Instr.typeAssert (.iface 143 v) 104 143 true).run Tryz.prog w = .ok (.tuple #[v, .bool true]) w := by kernel_rfl
theorem assert_tp (w : World) (v : Value) : (Instr.typeAssert (.iface 145 v) 104 143 true).run Tryz.prog w = .ok (.tuple #[.agg #[.int .i64 0], .bool false]) w := by kernel_rfl
theorem assert_tt (w : World) (v : Value) : (Instr.typeAssert (.iface 145 v) 104 145 true).run Tryz.prog w = .ok (.tuple #[v, .bool true]) w := by kernel_rfl
theorem assert_sp (w : World) (v : Value) : (Instr.typeAssert (.iface 149 v) 104 143 true).run Tryz.prog w = .ok (.tuple #[.agg #[.int .i64 0], .bool false]) w := by kernel_rfl
theorem assert_st (w : World) (v : Value) : (Instr.typeAssert (.iface 149 v) 104 145 true).run Tryz.prog w = .ok (.tuple #[.agg #[.int .i64 0], .bool false]) w := by kernel_rfl
theorem assert_ss (w : World) (v : Value) : (Instr.typeAssert (.iface 149 v) 104 149 true).run Tryz.prog w = .ok (.tuple #[v, .bool true]) w := by kernel_rfl
set_option maxRecDepth 100000 in
set_option maxHeartbeats 4000000 in
theorem stepOf_any (m : MvD) (w : World) :
    Calls Tryz.prog 114 #[m.val] w fun e w' => e = .returned (stepV m.step) ∧ Below w.heap.size w w' := by
  cases m with
  | put i =>
    unfold MvD.val
    have t1 := assert_pp
    go_enter Tryz.func114, Tryz.ntmps114
    go_wp2_with fail
    exact bodyPost_ret (v := .agg #[.int .i64 1, .int .i64 (i : Int), .int .i64 0]) (by simp [results, Tryz.results114, go_sem]) rfl ⟨rfl, ((Below.refl _ _).alloc (Nat.le_refl _) _).alloc (by simp) _⟩
  | take o =>
    unfold MvD.val
    have t1 := assert_tp
    have t2 := assert_tt
    go_enter Tryz.func114, Tryz.ntmps114
    go_wp2_with fail
    exact bodyPost_ret (v := .agg #[.int .i64 2, .int .i64 0, .int .i64 (o : Int)]) (by simp [results, Tryz.results114, go_sem]) rfl ⟨rfl, ((Below.refl _ _).alloc (Nat.le_refl _) _).alloc (by simp) _⟩
  | swap i o =>
    unfold MvD.val
    have t1 := assert_sp
    have t2 := assert_st
    have t3 := assert_ss
    go_enter Tryz.func114, Tryz.ntmps114
    go_wp2_with fail
    exact bodyPost_ret (v := .agg #[.int .i64 3, .int .i64 (i : Int), .int .i64 (o : Int)]) (by simp [results, Tryz.results114, go_sem]) rfl ⟨rfl, ((Below.refl _ _).alloc (Nat.le_refl _) _).alloc (by simp) _⟩
end Go.Proofs.YthkhaemlcmkkjaxGreat

namespace Go.Proofs.YthkhaemlcmkkjaxGreat
set_option linter.unusedVariables false
set_option linter.unusedSimpArgs false
open Go.RowKit Go.Deep

def MvD.fine (m : MvD) : Prop := match m with
  | .put i => i < 16
  | .take o => o < 16
  | .swap i o => i < 16 ∧ o < 16
theorem first_below (w : World) (o : Obj) : Below w.heap.size w (w.alloc o) := (Below.refl _ _).alloc (Nat.le_refl _) _
set_option maxHeartbeats 2000000 in
theorem putComes_any (i : Nat) (h : i < 16) (w : World) : Calls Tryz.prog 166 #[.agg #[.int .i64 (i : Int)]] w fun e w' => e = .returned (.int .u64 ((2 ^ i : Nat) : Int)) ∧ Below w.heap.size w w' := by
  have b0 := (Below.refl w.heap.size w).alloc (Nat.le_refl _) (.cells #[.int .i64 (i : Int)] 143)
  have HW := hide (with_any 0 i (by omega) h (w.alloc (.cells #[.int .i64 (i : Int)] 143)))
  rw [Nat.zero_or] at HW
  generalize 2 ^ i = t at HW
  go_enter Tryz.func166, Tryz.ntmps166
  go_wp2_with fail
  refine (unhide HW).mono ?_
  rintro e w1 ⟨rfl, rfl⟩
  go_wp2_with fail
  go_ret
  exact ⟨rfl, b0⟩
set_option maxHeartbeats 2000000 in
theorem putGoes_any (i : Nat) (w : World) : Calls Tryz.prog 167 #[.agg #[.int .i64 (i : Int)]] w fun e w' => e = .returned (.int .u64 0) ∧ Below w.heap.size w w' := by
  go_enter Tryz.func167, Tryz.ntmps167
  go_wp2_with fail
  go_ret
  exact ⟨rfl, first_below w _⟩
set_option maxHeartbeats 2000000 in
theorem takeComes_any (i : Nat) (w : World) : Calls Tryz.prog 168 #[.agg #[.int .i64 (i : Int)]] w fun e w' => e = .returned (.int .u64 0) ∧ Below w.heap.size w w' := by
  go_enter Tryz.func168, Tryz.ntmps168
  go_wp2_with fail
  go_ret
  exact ⟨rfl, first_below w _⟩
set_option maxHeartbeats 2000000 in
theorem takeGoes_any (o : Nat) (h : o < 16) (w : World) : Calls Tryz.prog 169 #[.agg #[.int .i64 (o : Int)]] w fun e w' => e = .returned (.int .u64 ((2 ^ o : Nat) : Int)) ∧ Below w.heap.size w w' := by
  have b0 := (Below.refl w.heap.size w).alloc (Nat.le_refl _) (.cells #[.int .i64 (o : Int)] 145)
  have HW := hide (with_any 0 o (by omega) h (w.alloc (.cells #[.int .i64 (o : Int)] 145)))
  rw [Nat.zero_or] at HW
  generalize 2 ^ o = t at HW
  go_enter Tryz.func169, Tryz.ntmps169
  go_wp2_with fail
  refine (unhide HW).mono ?_
  rintro e w1 ⟨rfl, rfl⟩
  go_wp2_with fail
  go_ret
  exact ⟨rfl, b0⟩
set_option maxHeartbeats 2000000 in
theorem swapComes_any (i o : Nat) (h : i < 16) (w : World) : Calls Tryz.prog 170 #[.agg #[.int .i64 (i : Int), .int .i64 (o : Int)]] w fun e w' => e = .returned (.int .u64 ((2 ^ i : Nat) : Int)) ∧ Below w.heap.size w w' := by
  have b0 := (Below.refl w.heap.size w).alloc (Nat.le_refl _) (.cells #[.int .i64 (i : Int), .int .i64 (o : Int)] 149)
  have HW := hide (with_any 0 i (by omega) h (w.alloc (.cells #[.int .i64 (i : Int), .int .i64 (o : Int)] 149)))
  rw [Nat.zero_or] at HW
  generalize 2 ^ i = t at HW
  go_enter Tryz.func170, Tryz.ntmps170
  go_wp2_with fail
  refine (unhide HW).mono ?_
  rintro e w1 ⟨rfl, rfl⟩
  go_wp2_with fail
  go_ret
  exact ⟨rfl, b0⟩
set_option maxHeartbeats 2000000 in
theorem swapGoes_any (i o : Nat) (h : o < 16) (w : World) : Calls Tryz.prog 171 #[.agg #[.int .i64 (i : Int), .int .i64 (o : Int)]] w fun e w' => e = .returned (.int .u64 ((2 ^ o : Nat) : Int)) ∧ Below w.heap.size w w' := by
  have b0 := (Below.refl w.heap.size w).alloc (Nat.le_refl _) (.cells #[.int .i64 (i : Int), .int .i64 (o : Int)] 149)
  have HW := hide (with_any 0 o (by omega) h (w.alloc (.cells #[.int .i64 (i : Int), .int .i64 (o : Int)] 149)))
  rw [Nat.zero_or] at HW
  generalize 2 ^ o = t at HW
  go_enter Tryz.func171, Tryz.ntmps171
  go_wp2_with fail
  refine (unhide HW).mono ?_
  rintro e w1 ⟨rfl, rfl⟩
  go_wp2_with fail
  go_ret
  exact ⟨rfl, b0⟩
theorem method_pc (w : World) (v : Value) : (method 312 143 v "loop.example/drydock/impl.comes").run Tryz.prog w = .ok (166, v) w := by kernel_rfl
theorem method_pg (w : World) (v : Value) : (method 312 143 v "loop.example/drydock/impl.goes").run Tryz.prog w = .ok (167, v) w := by kernel_rfl
theorem method_tc (w : World) (v : Value) : (method 312 145 v "loop.example/drydock/impl.comes").run Tryz.prog w = .ok (168, v) w := by kernel_rfl
theorem method_tg (w : World) (v : Value) : (method 312 145 v "loop.example/drydock/impl.goes").run Tryz.prog w = .ok (169, v) w := by kernel_rfl
theorem method_sc (w : World) (v : Value) : (method 312 149 v "loop.example/drydock/impl.comes").run Tryz.prog w = .ok (170, v) w := by kernel_rfl
theorem method_sg (w : World) (v : Value) : (method 312 149 v "loop.example/drydock/impl.goes").run Tryz.prog w = .ok (171, v) w := by kernel_rfl

theorem enter_pc (w : World) (v : Value) : Sem.run Tryz.prog (callFunc 166 #[v]) w = .ok (.enter 166 #[v]) w := by kernel_rfl
theorem enter_pg (w : World) (v : Value) : Sem.run Tryz.prog (callFunc 167 #[v]) w = .ok (.enter 167 #[v]) w := by kernel_rfl
theorem enter_tc (w : World) (v : Value) : Sem.run Tryz.prog (callFunc 168 #[v]) w = .ok (.enter 168 #[v]) w := by kernel_rfl
theorem enter_tg (w : World) (v : Value) : Sem.run Tryz.prog (callFunc 169 #[v]) w = .ok (.enter 169 #[v]) w := by kernel_rfl
theorem enter_sc (w : World) (v : Value) : Sem.run Tryz.prog (callFunc 170 #[v]) w = .ok (.enter 170 #[v]) w := by kernel_rfl
theorem enter_sg (w : World) (v : Value) : Sem.run Tryz.prog (callFunc 171 #[v]) w = .ok (.enter 171 #[v]) w := by kernel_rfl
/-- A move's methods, by its value. -/
structure Meth (m : MvD) (T : TypeId) (X : Value) (Fg Fc : FuncId) : Prop where
  val : m.val = .iface T X
  mg : ∀ w : World, (method 312 T X "loop.example/drydock/impl.goes").run Tryz.prog w = .ok (Fg, X) w
  mc : ∀ w : World, (method 312 T X "loop.example/drydock/impl.comes").run Tryz.prog w = .ok (Fc, X) w
  eg : ∀ w : World, Sem.run Tryz.prog (callFunc Fg #[X]) w = .ok (.enter Fg #[X]) w
  ec : ∀ w : World, Sem.run Tryz.prog (callFunc Fc #[X]) w = .ok (.enter Fc #[X]) w
  cg : ∀ w : World, Calls Tryz.prog Fg #[X] w fun e w' => e = .returned (.int .u64 ((m.goes : Nat) : Int)) ∧ Below w.heap.size w w'
  cc : ∀ w : World, Calls Tryz.prog Fc #[X] w fun e w' => e = .returned (.int .u64 ((m.comes : Nat) : Int)) ∧ Below w.heap.size w w'
theorem mv_meth (m : MvD) (hm : m.fine) : ∃ T X Fg Fc, Meth m T X Fg Fc := by
  cases m with
  | put i => exact ⟨_, _, _, _, rfl, fun w => method_pg w _, fun w => method_pc w _, fun w => enter_pg w _, fun w => enter_pc w _, fun w => putGoes_any i w, fun w => putComes_any i hm w⟩
  | take o => exact ⟨_, _, _, _, rfl, fun w => method_tg w _, fun w => method_tc w _, fun w => enter_tg w _, fun w => enter_tc w _, fun w => takeGoes_any o hm w, fun w => takeComes_any o w⟩
  | swap i o => exact ⟨_, _, _, _, rfl, fun w => method_sg w _, fun w => method_sc w _, fun w => enter_sg w _, fun w => enter_sc w _, fun w => swapGoes_any i o hm.2 w, fun w => swapComes_any i o hm.1 w⟩
theorem fine_bits {m : MvD} (hm : m.fine) : m.goes < 65536 ∧ m.comes < 65536 := by
  cases m with
  | put i => exact ⟨by show 0 < 65536; omega, pow_small i hm⟩
  | take o => exact ⟨pow_small o hm, by show 0 < 65536; omega⟩
  | swap i o => exact ⟨pow_small o hm.2, pow_small i hm.1⟩
def outN (s g : Nat) : Nat := s &&& (18446744073709551615 - g)
theorem outN_lt {s g : Nat} (h : s < 65536) : outN s g < 65536 := Nat.lt_of_le_of_lt Nat.and_le_left h
def behindN (s : Nat) (m : MvD) : Nat := outN s m.goes ||| m.comes
theorem or_lt {a b : Nat} (ha : a < 65536) (hb : b < 65536) : a ||| b < 65536 := Nat.or_lt_two_pow (n := 16) ha hb
theorem behindN_lt {s : Nat} {m : MvD} (h : s < 65536) (hm : m.fine) : behindN s m < 65536 := or_lt (outN_lt h) (fine_bits hm).2
set_option maxRecDepth 100000 in
set_option maxHeartbeats 2000000 in
theorem behind_any (s : Nat) (m : MvD) (hs : s < 65536) (hm : m.fine) (w : World) :
    Calls Tryz.prog 63 #[.int .u64 (s : Int), m.val] w fun e w' => e = .returned (.int .u64 ((behindN s m : Nat) : Int)) ∧ Below w.heap.size w w' := by
  obtain ⟨T, X, Fg, Fc, M⟩ := mv_meth m hm
  obtain ⟨hg, hc⟩ := fine_bits hm
  have h1 := bits_not s m.goes (by omega) (by omega)
  have ho : s &&& (18446744073709551615 - m.goes) = outN s m.goes := rfl
  rw [ho] at h1
  have hol := outN_lt (g := m.goes) hs
  have h2 := bits_or (outN s m.goes) m.comes (by omega) (by omega)
  have hb : outN s m.goes ||| m.comes = behindN s m := rfl
  rw [hb] at h2
  have HCG := hide M.cg
  have HCC := hide M.cc
  rw [M.val]
  have mg := M.mg
  have mc := M.mc
  have eg := M.eg
  have ec := M.ec
  generalize behindN s m = B at h2
  generalize outN s m.goes = O at h1 h2
  generalize m.goes = g at HCG h1
  generalize m.comes = c at HCC h2
  clear M hm hg hc hol ho hb hs
  go_enter Tryz.func63, Tryz.ntmps63
  go_wp2_with fail
  refine (unhide HCG w).mono ?_
  rintro e w1 ⟨rfl, b1⟩
  have HB1 := hide b1
  clear b1
  go_wp2_with fail
  refine (unhide HCC w1).mono ?_
  rintro e w2 ⟨rfl, b2⟩
  have HB2 := hide ((unhide HB1).trans (b2.mono (unhide HB1).size))
  clear b2
  go_wp2_with fail
  go_ret
  exact ⟨rfl, unhide HB2⟩
end Go.Proofs.YthkhaemlcmkkjaxGreat
