/- The specification's drawn states. What the drawing of a state leaves. -/
import Derived.Test.YthkhaemlcmkkjasGreatGStL
import Derived.Test.YthkhaemlcmkkjasGreatStM
import Derived.Test.YthkhaemlcmkkjasGreatGDrawE
import Derived.Test.YthkhaemlcmkkjasGreatGDrawK
namespace Go.Proofs.YthkhaemlcmkkjasGreat
set_option linter.unusedVariables false
set_option linter.unusedSimpArgs false
open Go.RowKit Go.Deep

theorem intNoRd : ¬ isRd 3 := by decide
theorem RowI.wrote {B B' : Nat} {w w' : World} {v : Value} {l : List Int} (h : RowI B w v l) (hw : Wrote B' isRd w w') : RowI B w' v l := by
  obtain ⟨h1, h2⟩ := h
  refine ⟨h1, h2.imp id ?_⟩
  rintro ⟨g, cap, cur, hv, hg, hc, r⟩
  exact ⟨g, cap, cur, hv, hg, (hw.other ⟨cur, hc⟩ intNoRd).trans hc, r⟩
theorem RowI.low {B B' : Nat} {w : World} {v : Value} {l : List Int} (h : RowI B w v l) (hb : B' ≤ B) : RowI B' w v l := row_base h hb

set_option maxRecDepth 10000 in
set_option maxHeartbeats 4000000 in
theorem l71Set_V (B rb : Nat) (m : Int) (a : Option Addr) (l : List PackD) (cap : Nat) (room : Int) (w : World) (h : Rd B w rb m) (hm : m ≤ 500000) (hP : PacksAt (Old w) w a l) (hl : l.length ≤ 70000) :
    Calls Tryz.prog 12 #[.pointer (some ⟨rb, 0, none⟩), .agg #[.slice a l.length cap, .int .i64 room]] w fun e w' => (∃ v, e = .returned v ∧ ∃ set, RowI 0 w' v set ∧ set.length ≤ 100000) ∧ Rd B w' rb (m + 80000) ∧ Wrote B isRd w w' := by
  have hrl := h.lt
  have hpB := h.past
  obtain ⟨i0, hi, hz0, hz1, hz2⟩ := info_parts Tryz.infoInt'
  have bA := (Below.refl w.heap.size w).alloc (Nat.le_refl _) (.cells #[.slice a l.length cap, .int .i64 room] 25)
  have HC := hide (specStateList_any a l cap room _ (hP.on bA))
  have HR0 := hide (h.below bA)
  go_enter Tryz.func12, Tryz.ntmps12
  go_wp2_with fail
  refine (unhide HC).mono ?_
  rintro e w1 ⟨⟨v, rfl, vs, hL⟩, b1⟩
  have x0 := b1.cell (p := ⟨w.heap.size, 0, none⟩) (by simp)
  simp at x0
  have z1 := b1.size
  simp at z1
  have hLI := hL.ints
  have hln := hL.len
  obtain ⟨va, vc, hv⟩ := hLI.slice
  have hlen256 : (stateL l room).length ≤ 256 := by
    unfold stateL
    by_cases hk : repoB ⟨l, room⟩ = true
    · rw [if_pos hk]
      have h1 := states_le l room (2 ^ l.length)
      have h2 := shl_one l.length (OkL.of hk).l8
      omega
    · rw [if_neg hk]; simp
  have hrow8 : ∀ i, i < (stateL l room).length → ((stateL l room).getD i []).length ≤ 8 := fun i hi => by
    have hmem : (stateL l room).getD i [] ∈ stateL l room := getD_mem hi
    generalize (stateL l room).getD i [] = r at hmem
    unfold stateL at hmem
    split at hmem
    · unfold statesTo at hmem
      obtain ⟨s, _, rfl⟩ := List.mem_map.1 hmem
      exact places_le s 8
    · cases hmem
  have e0 : ((stateL l room).map intsOf).length = (stateL l room).length := by simp
  rw [e0] at hv
  subst hv
  generalize stateL l room = ls at hL hLI hlen256 hrow8 hln e0
  have hb01 : Below w.heap.size w w1 := bA.trans (b1.mono (by simp))
  have HR1 := hide ((unhide HR0).below b1)
  have HW1 := hide (Wrote.of_below (B := B) (ts := isRd) hb01)
  have HLI := hide hLI
  have HXB1 := hide ((b1.block w.heap.size (by simp)).trans (blk_alloc_new w (.cells #[.slice a l.length cap, .int .i64 room] 25)))
  clear HC HR0 bA b1 hb01 hL hLI x0
  have hxb : w1.heap[w.heap.size]? = some (.cells #[.slice a l.length cap, .int .i64 room] 25 (0, 0)) := unhide HXB1
  by_cases hemp : ls.length = 0
  · have hg0 : ¬ (0 : Int) < (ls.length : Int) := by omega
    have HRS := HR1
    have HWS := HW1
    have HXB := hide hxb
    clear hemp hxb
    go_wp2_with fail
    go_loopw [6, 7] (fun v i wr => ∃ (k : Nat) (set : List Int), k ≤ l.length + 1 ∧ i = .int .i64 k ∧ set.length ≤ k ∧ Hid (RowI w.heap.size wr v set) ∧ Hid (Rd B wr rb (m + k)) ∧ Hid (Wrote B isRd w wr) ∧ Hid (wr.heap[w.heap.size]? = some (.cells #[.slice a l.length cap, .int .i64 room] 25 (0, 0)))) (fun _ i _ => l.length + 1 - (intOf i).toNat)
    case atStart =>
      refine ⟨0, [], Nat.zero_le _, rfl, Nat.le_refl _, ?_, ((unhide HRS).alloc _).more (by simp), (unhide HWS).trans (Wrote.of_below ((Below.refl _ _).alloc (Nat.le_refl _) _)), (blk_alloc_lt _ _ _ (by omega)).trans (unhide HXB)⟩
      exact (RowI.nil w1).low (by omega)
    case round =>
      rename World => wo
      obtain ⟨k, set, hk, rfl, hsk, HO, HR, HW, HX⟩ := hrel
      have x0 : wo.cell? ⟨w.heap.size, 0, none⟩ = some (.slice a l.length cap) := by simp [World.cell?, unhide HX]
      have hws : w.heap.size ≤ wo.heap.size := (unhide HW).size
      have hwlt : w.heap.size < wo.heap.size := (Array.getElem?_eq_some_iff.1 (unhide HX)).1
      have hadd : IntKind.i64.wrap ((l.length : Int) + 1) = (l.length : Int) + 1 := by rw [IntKind.wrap_i64]; omega
      by_cases hlt : k < l.length + 1
      · have j1 : (k : Int) < (l.length : Int) + 1 := by omega
        go_wp2_with fail
        refine (pick_any B rb _ 3 _ (unhide HR) (by omega) (by omega) (by omega)).mono ?_
        rintro e w2 ⟨⟨r, rfl, hr0, hr1⟩, R2, W2⟩
        have HO2 := hide (RowI.wrote (unhide HO) W2)
        have HW2 := hide ((unhide HW).trans W2)
        have HX2 := hide ((W2.other ⟨_, unhide HX⟩ (by decide)).trans (unhide HX))
        have HR2 := hide R2
        have hzW := W2.size
        clear HO HW HX HR R2 W2 x0
        by_cases hr : r = 0
        · subst hr
          have hown := unhide HO2
          go_wp2_with (first
            | (at_builtin; refine wpList_append_own _ rfl _ _ 26 rfl w.heap.size 3 i0 (.int .i64 0) 1 8 Tryz.underlying26 hi hz0 hz1 hz2 rfl (by decide) _ _ _ rfl (hown.alloc _) ⟨w2.heap.size, 0, none⟩ 1 1 [.int .i64 k] rfl rfl ?p1 ?p2 ?p3 ?p4 ?p5 ?_))
          case p1 =>
            intro j u hj
            match j, hj with
            | 0, hj => simp at hj; subst hj; simp [Addr.add]
          case p2 => intro u hu; simp at hu; subst hu; rfl
          case p3 => unfold maxLen; omega
          case p4 => omega
          case p5 => simp; omega
          intro v' w3 hown' hgrow _
          have HO3 : Hid (RowI w.heap.size w3 v' (set ++ [(k : Int)])) := by
            show RowI _ _ _ _
            unfold RowI
            simpa using hown'
          have hblk : ∀ j, u6.ownBlock = some j → w.heap.size ≤ j := fun j hj => (World.ownsRow.lt hown j hj).1
          have HW3 := hide (((unhide HW2).trans (Wrote.of_below ((Below.refl _ _).alloc (Nat.le_refl _) (.cells #[.int .i64 k] 3)))).grown hgrow hblk)
          have HR3 := hide (((unhide HR2).alloc (.cells #[.int .i64 k] 3)).grown hgrow (fun j hj => by have := hblk j hj; omega))
          have HX3 := hide ((hgrow.block w.heap.size (by simp; omega) (fun e => by
            obtain ⟨c, f, ec⟩ := row_kind (hown.alloc (.cells #[.int .i64 k] 3)) w.heap.size e.symm
            rw [blk_alloc_lt _ _ _ (by omega), unhide HX2] at ec
            simp at ec)).trans ((blk_alloc_lt _ _ _ (by omega)).trans (unhide HX2)))
          clear hown hown' hgrow
          go_wp2_with fail
          go_roundw
          case rel => exact ⟨k + 1, set ++ [(k : Int)], by omega, by go_num, by simp; omega, HO3, (unhide HR3).more (by omega), HW3, HX3⟩
          case measure => simp [intOf]; omega
        · have hrb : (r == 0) = false := by simp [hr]
          go_wp2_with fail
          go_roundw
          case rel => exact ⟨k + 1, set, by omega, by go_num, by omega, HO2, (unhide HR2).more (by omega), HW2, HX2⟩
          case measure => simp [intOf]; omega
      · have j1 : ¬ (k : Int) < (l.length : Int) + 1 := by omega
        obtain ⟨ua, uc, hu, _⟩ := RowI.set (unhide HO) (by omega)
        subst hu
        by_cases h2 : 1 < set.length
        · have hg2 : (1 : Int) < (set.length : Int) := by omega
          go_wp2_with fail
          refine (pick_any B rb _ 8 _ (unhide HR) (by omega) (by omega) (by omega)).mono ?_
          rintro e w2 ⟨⟨r, rfl, hr0, hr1⟩, R2, W2⟩
          have HO2 := hide (RowI.wrote (unhide HO) W2)
          have HW2 := hide ((unhide HW).trans W2)
          have HR2 := hide R2
          clear HO HW HX HR R2 W2 x0
          by_cases hr : r = 0
          · subst hr
            have hown := unhide HO2
            rcases hown.2 with ⟨_, hz⟩ | ⟨g, cp, cur, hvv, hgB, hcc, hcap, hmx, hsz, hx⟩
            · omega
            simp at hvv
            obtain ⟨rfl, rfl⟩ := hvv
            have hc1 : w2.cell? ⟨g, 1, none⟩ = some (.int .i64 (set.getD 1 0)) := by
              have e1 : cur.toList[1]? = (set.map fun i => Value.int .i64 i)[1]? := by
                have : (cur.toList.take (set.length * 1))[1]? = (set.map fun i => Value.int .i64 i)[1]? := by rw [hx]
                rwa [List.getElem?_take, if_pos (by omega)] at this
              simp only [World.cell?, hcc]
              have e2 : (set.map fun i => Value.int .i64 i)[1]? = some (.int .i64 (set.getD 1 0)) := by simp [List.getD, h2]
              rw [e2] at e1
              simpa using e1
            have hc0 : ∃ u, w2.cell? ⟨g, 0, none⟩ = some u := ⟨cur[0]'(by omega), by simp [World.cell?, hcc, show 0 < cur.size by omega]⟩
            obtain ⟨u0, hc0⟩ := hc0
            have hf0 : w2.frozen? ⟨g, 0, none⟩ = false := by simp [World.frozen?, hcc]
            have HST := hide (hown.stored 0 (.int .i64 (set.getD 1 0)))
            have hp1 : 1 < set.length := h2
            have hp0 : 0 < set.length := by omega
            have hq0 : (0 : Int) < (set.length : Int) := by omega
            generalize set.getD 1 0 = z1 at hc1 HST
            clear hown hx hcc
            go_wp2_with fail
            go_ret
            refine ⟨⟨_, rfl, set.set 0 z1, ?_, by simp; omega⟩, ?_, ?_⟩
            · have := (unhide HST).1
              unfold RowI
              refine row_base (B := w.heap.size) ?_ (Nat.zero_le _)
              rw [List.length_set, List.map_set]
              exact this
            · exact ((unhide HR2).set (by omega) (by omega) _ _).more (by omega)
            · exact (unhide HW2).own (Below.setCell (Below.refl _ _) (by exact hgB) _)
          · have hrb : (r == 0) = false := by simp [hr]
            go_wp2_with fail
            go_ret
            exact ⟨⟨_, rfl, set, (unhide HO2).low (Nat.zero_le _), by omega⟩, (unhide HR2).more (by omega), unhide HW2⟩
        · have hg2 : ¬ (1 : Int) < (set.length : Int) := by omega
          go_wp2_with fail
          go_ret
          exact ⟨⟨_, rfl, set, (unhide HO).low (Nat.zero_le _), by omega⟩, (unhide HR).more (by omega), unhide HW⟩
  · have hg0 : (0 : Int) < (ls.length : Int) := by omega
    have hgn : 0 < ls.length := by omega
    clear hemp
    go_wp2_with fail
    refine (pick_any B rb _ 6 _ (unhide HR1) (by omega) (by omega) (by omega)).mono ?_
    rintro e w2 ⟨⟨r, rfl, hr0, hr1⟩, R2, W2⟩
    have hzW := W2.size
    by_cases hr : 0 < r
    · have HW2 := hide ((unhide HW1).trans W2)
      have HR2 := hide R2
      have HW12 := hide W2
      clear R2 W2 hxb
      go_wp2_with fail
      refine (pick_any B rb _ (ls.length : Int) _ (unhide HR2) (by omega) (by omega) (by omega)).mono ?_
      rintro e w3 ⟨⟨q, rfl, hq0, hq1⟩, R3, W3⟩
      obtain ⟨qn, rfl⟩ : ∃ qn : Nat, q = (qn : Int) := ⟨q.toNat, by omega⟩
      have hqn : qn < ls.length := by omega
      have hL := unhide HLI
      obtain ⟨g, c1, hg, _, hgl, c0⟩ := hL.cell (i := qn) (by rw [e0]; exact hqn)
      simp at hg
      obtain ⟨rfl, rfl⟩ := hg
      have hrow := hL.row qn (by rw [e0]; exact hqn)
      have hkind := row_kind hL.own g rfl
      obtain ⟨kc, kf, hkc⟩ := hkind
      have hown2 := hL.own
      rcases hown2.2 with ⟨_, hz⟩ | ⟨g', cp, cur, hvv, _, hcc, _⟩
      · omega
      simp at hvv
      obtain ⟨rfl, _⟩ := hvv
      have W13 := (unhide HW12).trans W3
      have c3 : w3.cell? ⟨g, qn, none⟩ = some (vs.getD qn undef) := (World.cell?_of_block (w := w1) (a := ⟨g, qn, none⟩) (W13.other ⟨cur, hcc⟩ (by decide))).trans c0
      have hr3 := RowI.wrote hrow W13
      have hlen8 := hrow8 qn hqn
      have e1 : ((ls.map intsOf).getD qn []) = intsOf (ls.getD qn []) := by simp [List.getD, hqn]
      rw [e1] at hr3
      obtain ⟨ra, rc, hrv, _⟩ := RowI.set hr3 (by simp [intsOf]; simp at hlen8; omega)
      rw [hrv] at c3 hr3
      have hl8 : (intsOf (ls.getD qn [])).length ≤ 8 := by simpa [intsOf] using hlen8
      generalize intsOf (ls.getD qn []) = row at c3 hr3 hl8
      have HRW := hide hr3
      have HWW := hide ((unhide HW2).trans W3)
      have HRR := hide R3
      clear hr3 hrow hL hown2 hcc W13 W3 R3 hrv e1 hlen8 c0 hkc
      go_wp2_with fail
      go_ret
      exact ⟨⟨_, rfl, row, (unhide HRW).low (Nat.zero_le _), by omega⟩, (unhide HRR).more (by omega), unhide HWW⟩
    · have hrb : ¬ 0 < r := hr
      have HRS := hide R2
      have HWS := hide ((unhide HW1).trans W2)
      have HXB := hide ((W2.other ⟨_, hxb⟩ (by decide)).trans hxb)
      clear R2 W2 hxb
      go_wp2_with fail
      go_loopw [6, 7] (fun v i wr => ∃ (k : Nat) (set : List Int), k ≤ l.length + 1 ∧ i = .int .i64 k ∧ set.length ≤ k ∧ Hid (RowI w.heap.size wr v set) ∧ Hid (Rd B wr rb ((m + 1) + k)) ∧ Hid (Wrote B isRd w wr) ∧ Hid (wr.heap[w.heap.size]? = some (.cells #[.slice a l.length cap, .int .i64 room] 25 (0, 0)))) (fun _ i _ => l.length + 1 - (intOf i).toNat)
      case atStart =>
        refine ⟨0, [], Nat.zero_le _, rfl, Nat.le_refl _, ?_, ((unhide HRS).alloc _).more (by simp), (unhide HWS).trans (Wrote.of_below ((Below.refl _ _).alloc (Nat.le_refl _) _)), (blk_alloc_lt _ _ _ (by omega)).trans (unhide HXB)⟩
        exact (RowI.nil w2).low (by omega)
      case round =>
        rename World => wo
        obtain ⟨k, set, hk, rfl, hsk, HO, HR, HW, HX⟩ := hrel
        have x0 : wo.cell? ⟨w.heap.size, 0, none⟩ = some (.slice a l.length cap) := by simp [World.cell?, unhide HX]
        have hws : w.heap.size ≤ wo.heap.size := (unhide HW).size
        have hwlt : w.heap.size < wo.heap.size := (Array.getElem?_eq_some_iff.1 (unhide HX)).1
        have hadd : IntKind.i64.wrap ((l.length : Int) + 1) = (l.length : Int) + 1 := by rw [IntKind.wrap_i64]; omega
        by_cases hlt : k < l.length + 1
        · have j1 : (k : Int) < (l.length : Int) + 1 := by omega
          go_wp2_with fail
          refine (pick_any B rb _ 3 _ (unhide HR) (by omega) (by omega) (by omega)).mono ?_
          rintro e w2 ⟨⟨r, rfl, hr0, hr1⟩, R2, W2⟩
          have HO2 := hide (RowI.wrote (unhide HO) W2)
          have HW2 := hide ((unhide HW).trans W2)
          have HX2 := hide ((W2.other ⟨_, unhide HX⟩ (by decide)).trans (unhide HX))
          have HR2 := hide R2
          have hzW := W2.size
          clear HO HW HX HR R2 W2 x0
          by_cases hr : r = 0
          · subst hr
            have hown := unhide HO2
            go_wp2_with (first
              | (at_builtin; refine wpList_append_own _ rfl _ _ 26 rfl w.heap.size 3 i0 (.int .i64 0) 1 8 Tryz.underlying26 hi hz0 hz1 hz2 rfl (by decide) _ _ _ rfl (hown.alloc _) ⟨w2.heap.size, 0, none⟩ 1 1 [.int .i64 k] rfl rfl ?q1 ?q2 ?q3 ?q4 ?q5 ?_))
            case q1 =>
              intro j u hj
              match j, hj with
              | 0, hj => simp at hj; subst hj; simp [Addr.add]
            case q2 => intro u hu; simp at hu; subst hu; rfl
            case q3 => unfold maxLen; omega
            case q4 => omega
            case q5 => simp; omega
            intro v' w3 hown' hgrow _
            have HO3 : Hid (RowI w.heap.size w3 v' (set ++ [(k : Int)])) := by
              show RowI _ _ _ _
              unfold RowI
              simpa using hown'
            have hblk : ∀ j, u6.ownBlock = some j → w.heap.size ≤ j := fun j hj => (World.ownsRow.lt hown j hj).1
            have HW3 := hide (((unhide HW2).trans (Wrote.of_below ((Below.refl _ _).alloc (Nat.le_refl _) (.cells #[.int .i64 k] 3)))).grown hgrow hblk)
            have HR3 := hide (((unhide HR2).alloc (.cells #[.int .i64 k] 3)).grown hgrow (fun j hj => by have := hblk j hj; omega))
            have HX3 := hide ((hgrow.block w.heap.size (by simp; omega) (fun e => by
              obtain ⟨c, f, ec⟩ := row_kind (hown.alloc (.cells #[.int .i64 k] 3)) w.heap.size e.symm
              rw [blk_alloc_lt _ _ _ (by omega), unhide HX2] at ec
              simp at ec)).trans ((blk_alloc_lt _ _ _ (by omega)).trans (unhide HX2)))
            clear hown hown' hgrow
            go_wp2_with fail
            go_roundw
            case rel => exact ⟨k + 1, set ++ [(k : Int)], by omega, by go_num, by simp; omega, HO3, (unhide HR3).more (by omega), HW3, HX3⟩
            case measure => simp [intOf]; omega
          · have hrb : (r == 0) = false := by simp [hr]
            go_wp2_with fail
            go_roundw
            case rel => exact ⟨k + 1, set, by omega, by go_num, by omega, HO2, (unhide HR2).more (by omega), HW2, HX2⟩
            case measure => simp [intOf]; omega
        · have j1 : ¬ (k : Int) < (l.length : Int) + 1 := by omega
          obtain ⟨ua, uc, hu, _⟩ := RowI.set (unhide HO) (by omega)
          subst hu
          by_cases h2 : 1 < set.length
          · have hg2 : (1 : Int) < (set.length : Int) := by omega
            go_wp2_with fail
            refine (pick_any B rb _ 8 _ (unhide HR) (by omega) (by omega) (by omega)).mono ?_
            rintro e w2 ⟨⟨r, rfl, hr0, hr1⟩, R2, W2⟩
            have HO2 := hide (RowI.wrote (unhide HO) W2)
            have HW2 := hide ((unhide HW).trans W2)
            have HR2 := hide R2
            clear HO HW HX HR R2 W2 x0
            by_cases hr : r = 0
            · subst hr
              have hown := unhide HO2
              rcases hown.2 with ⟨_, hz⟩ | ⟨g, cp, cur, hvv, hgB, hcc, hcap, hmx, hsz, hx⟩
              · omega
              simp at hvv
              obtain ⟨rfl, rfl⟩ := hvv
              have hc1 : w2.cell? ⟨g, 1, none⟩ = some (.int .i64 (set.getD 1 0)) := by
                have e1 : cur.toList[1]? = (set.map fun i => Value.int .i64 i)[1]? := by
                  have : (cur.toList.take (set.length * 1))[1]? = (set.map fun i => Value.int .i64 i)[1]? := by rw [hx]
                  rwa [List.getElem?_take, if_pos (by omega)] at this
                simp only [World.cell?, hcc]
                have e2 : (set.map fun i => Value.int .i64 i)[1]? = some (.int .i64 (set.getD 1 0)) := by simp [List.getD, h2]
                rw [e2] at e1
                simpa using e1
              have hc0 : ∃ u, w2.cell? ⟨g, 0, none⟩ = some u := ⟨cur[0]'(by omega), by simp [World.cell?, hcc, show 0 < cur.size by omega]⟩
              obtain ⟨u0, hc0⟩ := hc0
              have hf0 : w2.frozen? ⟨g, 0, none⟩ = false := by simp [World.frozen?, hcc]
              have HST := hide (hown.stored 0 (.int .i64 (set.getD 1 0)))
              have hp1 : 1 < set.length := h2
              have hp0 : 0 < set.length := by omega
              have hq0 : (0 : Int) < (set.length : Int) := by omega
              generalize set.getD 1 0 = z1 at hc1 HST
              clear hown hx hcc
              go_wp2_with fail
              go_ret
              refine ⟨⟨_, rfl, set.set 0 z1, ?_, by simp; omega⟩, ?_, ?_⟩
              · have := (unhide HST).1
                unfold RowI
                refine row_base (B := w.heap.size) ?_ (Nat.zero_le _)
                rw [List.length_set, List.map_set]
                exact this
              · exact ((unhide HR2).set (by omega) (by omega) _ _).more (by omega)
              · exact (unhide HW2).own (Below.setCell (Below.refl _ _) (by exact hgB) _)
            · have hrb : (r == 0) = false := by simp [hr]
              go_wp2_with fail
              go_ret
              exact ⟨⟨_, rfl, set, (unhide HO2).low (Nat.zero_le _), by omega⟩, (unhide HR2).more (by omega), unhide HW2⟩
          · have hg2 : ¬ (1 : Int) < (set.length : Int) := by omega
            go_wp2_with fail
            go_ret
            exact ⟨⟨_, rfl, set, (unhide HO).low (Nat.zero_le _), by omega⟩, (unhide HR).more (by omega), unhide HW⟩
end Go.Proofs.YthkhaemlcmkkjasGreat

namespace Go.Proofs.YthkhaemlcmkkjasGreat
set_option linter.unusedVariables false
set_option linter.unusedSimpArgs false
open Go.RowKit Go.Deep

theorem RowI.repo {B : Nat} {w : World} {v u0 u1 : Value} {l : List Int} {rs : Nat} (h : RowI B w v l) (hres : w.heap[rs]? = some (.cells #[u0, u1] 25 (0, 0))) (a b : Value) : RowI B ((w.setCell ⟨rs, 0, none⟩ a).setCell ⟨rs, 1, none⟩ b) v l := by
  obtain ⟨h1, h2⟩ := h
  refine ⟨h1, h2.imp id ?_⟩
  rintro ⟨g, cap, cur, hv, hg, hc, r⟩
  have hne : g ≠ rs := fun e => by subst e; rw [hres] at hc; simp at hc
  exact ⟨g, cap, cur, hv, hg, ((blk_setCell_other _ _ _ _ hne).trans (blk_setCell_other _ _ _ _ hne)).trans hc, r⟩
end Go.Proofs.YthkhaemlcmkkjasGreat
