/- DrawWhyNot: the drawn packs, and which are there. -/
import Derived.Test.YtcmgddkifhcmlanDrawU
namespace Go.Proofs.Ytcmgddkifhcmlan
set_option linter.unusedVariables false
set_option linter.unusedSimpArgs false
open Go.RowKit Go.Deep

theorem set_drawnW {B rb s n cap : Nat} {m : Int} {w : World} {a : Option Addr} (room : Int) (hV : V2 s w 60000 (.slice a n cap)) (hn : n ≤ 70000) (h : Rd B w rb m) (hm : m ≤ 500000) :
    Calls Try.prog 19 #[.pointer (some ⟨rb, 0, none⟩), .agg #[.slice a n cap, .int .i64 room]] w fun e w' => (∃ v, e = .returned v ∧ ∃ set, RowI 0 w' v set ∧ set.length ≤ 100000) ∧ Rd B w' rb (m + 80000) ∧ Wrote B isRd w w' := by
  obtain ⟨l4, hl4, hP4⟩ := V2.packs hV
  rw [← hl4]
  exact l71Set_V B rb m a l4 cap room w h hm hP4 (by omega)
set_option maxRecDepth 100000 in
set_option maxHeartbeats 8000000 in
theorem DrawWhyNot_V (a : Option Addr) (n c : Nat) (w : World) (h : CodeAt w.heap.size w a n) (hn : n ≤ 1048576) (hc : n ≤ c) (hc2 : c ≤ maxLen) :
    Calls Try.prog 7 #[.slice a n c] w fun e w' => (∃ (v : Value) (room : Int) (u : Value), e = .returned (.tuple #[.agg #[v, .int .i64 room], u]) ∧ V2 w.heap.size w' 60000 v ∧ ∃ set, RowI 0 w' u set ∧ set.length ≤ 200002) ∧ Below w.heap.size w w' := by
  obtain ⟨i0, hi, hz0, hz1i, hz2i⟩ := info_parts Try.infoInt'
  have b0 := (Below.refl w.heap.size w).alloc (Nat.le_refl _) (.cells #[.slice none 0 0, .int .i64 0] 25)
  have hcode := h.below b0 (Nat.le_refl _)
  have HF0 := hide (show (w.alloc (.cells #[.slice none 0 0, .int .i64 0] 25)).heap[w.heap.size]? = some (repoCells (.slice none 0 0) 0) from blk_alloc_new _ _)
  go_enter Try.func7, Try.ntmps7
  go_wp2_with fail
  refine (l6Open_any a n c _ hcode hn hc hc2).mono ?_
  rintro e w1 ⟨rfl, R1, b1⟩
  simp only [nblk_alloc] at R1 b1
  have hz1 := b1.size
  simp at hz1
  have res1 := (b1.block w.heap.size (by omega)).trans (unhide HF0)
  have B1 : Below w.heap.size w w1 := b0.trans (b1.mono (by omega))
  have hrl := R1.lt
  clear b0 b1 hcode HF0
  go_wp2_with fail
  refine (l71Any_V (w.heap.size + 1) (w.heap.size + 1) 0 6 _ R1 (by omega) (by omega)).mono ?_
  rintro e w2 ⟨⟨v, room, rfl, hV⟩, R2, W2⟩
  obtain ⟨va, vn, vc, rfl, _, hvN, _⟩ := SlBy.slice hV
  have hz2 := W2.size
  have res2 := W2.blk res1 repoNotRd
  have B2 := B1.trans (W2.bel (B' := w.heap.size) (by omega) (by omega))
  have bp := (Below.refl w2.heap.size w2).alloc (Nat.le_refl _) (.cells #[.slice va vn vc, .int .i64 room] 25)
  have pv2 : (w2.alloc (.cells #[.slice va vn vc, .int .i64 room] 25)).heap[w2.heap.size]? = some (repoCells (.slice va vn vc) room) := blk_alloc_new _ _
  have res3 := (bp.block w.heap.size (by omega)).trans res2
  have R3 := R2.below bp
  have V3 := V2.ev hV (Ev.of_below (B := 0) (s := w1.heap.size) (N := 60000) bp)
  have B3 := B2.trans (bp.mono (by omega))
  obtain ⟨l, hll, hP3⟩ := V2.packs V3
  subst hll
  have HR3 := hide R3
  have HV3 := hide V3
  have HB3 := hide B3
  have HRS3 := hide res3
  have HPV3 := hide pv2
  have HP3 := hide hP3
  have hz3 : w2.heap.size < (w2.alloc (.cells #[.slice va l.length vc, .int .i64 room] 25)).heap.size := by simp
  clear R1 W2 res1 B1 hV R2 res2 B2 bp pv2 res3 R3 V3 B3 hP3
  go_upto_region 3 with fail
  generalize hw3 : w2.alloc (.cells #[.slice va l.length vc, .int .i64 room] 25) = w3 at HR3 HV3 HB3 HRS3 HPV3 HP3 hz3 ⊢
  clear hw3
  go_wp2_with fail
  refine (pick_any (w.heap.size + 1) (w.heap.size + 1) _ 3 _ (unhide HR3) (by omega) (by omega) (by omega)).mono ?_
  rintro e w4 ⟨⟨r, rfl, hr0, hr1⟩, R4, W4⟩
  have hz4 := W4.size
  have HV4 := hide (V2.ev (unhide HV3) (Ev.of_wrote (s := w1.heap.size) (N := 60000) W4))
  have HRS4 := hide (W4.blk (unhide HRS3) repoNotRd)
  have HPV4 := hide (W4.blk (unhide HPV3) repoNotRd)
  have HB4 := hide ((unhide HB3).trans (W4.bel (B' := w.heap.size) (by omega) (by have := (unhide HB3).size; omega)))
  have HR4 := hide R4
  clear R4 W4 HR3 HV3 HB3 HRS3 HPV3
  by_cases hr : r = 0
  · subst hr
    go_upto_region 4 with fail
    clear HP3
    refine wp_region_mix (k := 100) 4 [3] [.agg #[.slice va l.length vc, .int .i64 room], .pointer (some ⟨w.heap.size + 1, 0, none⟩), .agg #[.slice va l.length vc, .int .i64 room], undef] (CU w4 (w.heap.size + 1) (w.heap.size + 1) 0) (by kernel_rfl) (by kernel_rfl) (by kernel_rfl) (by kernel_rfl) (by kernel_rfl) (by kernel_rfl) ⟨fun _ => (Below.refl _ _).drew, Wrote.of_below (Below.refl _ _).drew, (fun y h => by cases h)⟩ ?_ ?_ ?_
    · intro full hfull i oo hi hns ho x fl us hC hb
      simp [putAll, slotOf, Act.put] at hfull
      subst hfull
      obtain ⟨p0, p1, _⟩ := two (hC.wrote.blk (unhide HPV4) repoNotRd)
      have hC0 := hC.flag (b' := fl)
      match i with
      | 0 => simp at ho; subst ho; simp [gwp, Region.wanted, yielded]; go_simp; first | done | exact hC0 | exact ⟨rfl, hC0⟩
      | 1 => simp at ho; subst ho; simp [gwp, Region.wanted, yielded]; go_simp; first | done | exact hC0 | exact ⟨rfl, hC0⟩
      | 2 => simp at ho; subst ho; simp [gwp, Region.wanted, yielded]; go_simp; first | done | exact hC0 | exact ⟨rfl, hC0⟩
      | 3 => simp at hns
      | i + 4 => omega
    · intro full hfull us j hj oo ho x fl hC
      simp [putAll, slotOf, Act.put] at hfull
      subst hfull
      match us with
      | [] =>
        simp at hj
        subst hj
        simp at ho
        subst ho
        simp [gwp, Region.wanted, yielded, putP]
        go_simp
        have hbx := hC.ahead rfl
        refine (set_drawnW room (V2.ev (unhide HV4) (Ev.of_below (B := 0) (s := w1.heap.size) (N := 60000) hbx)) (by omega) ((unhide HR4).below hbx) (by omega)).mono ?_
        rintro e w' ⟨⟨u, rfl, set, hrow, hsl⟩, _, W5⟩
        go_simp
        refine ⟨fun h => (by simp at h), hC.wrote.trans W5, fun z hz => ?_⟩
        cases hz
        exact ⟨set, hrow, by omega⟩
      | _ :: _ => simp at hj
    · intro full hfull us x hus hC
      simp [putAll, slotOf, Act.put] at hfull
      subst hfull
      match us, hus with
      | [yv], _ =>
      obtain ⟨s2, hrow2, hlen2⟩ := hC.row yv rfl
      have W5 := hC.wrote
      obtain ⟨ya, yc, hy, _⟩ := RowI.set hrow2 (by omega)
      subst hy
      have res7 := W5.blk (unhide HRS4) repoNotRd
      have V7 := V2.ev (unhide HV4) (Ev.of_wrote (s := w1.heap.size) (N := 60000) W5)
      have B7 := (unhide HB4).trans (W5.bel (B' := w.heap.size) (by omega) (by have := (unhide HB4).size; omega))
      obtain ⟨r0, r1, rf⟩ := two res7
      have rf0 := rf 0
      have rf1 := rf 1
      have HFO := hide (fin_own (room := room) res7 V7 B7 (Nat.le_refl _))
      have HRO := hide (RowI.repo hrow2 res7 (.slice va l.length vc) (.int .i64 room))
      clear rf hC W5 res7 V7 B7 hrow2
      simp [putP, slotOf, Act.put]
      go_wp2_with fail
      obtain ⟨f1, f2, f3, f4⟩ := unhide HFO
      exact bodyPost_ret (v := .tuple #[.agg #[.slice va l.length vc, .int .i64 room], .slice ya s2.length yc]) (by simp [results, Try.results7, go_sem, f3, f4]) rfl ⟨⟨_, _, _, rfl, V2.down f1 (by omega), s2, unhide HRO, by omega⟩, f2⟩
  · have hrb : (r == 0) = false := by simp [hr]
    obtain ⟨q0, q1, _⟩ := two (unhide HPV4)
    clear HP3
    go_wp2_with fail
    go_loopw [6, 7] (fun v i wr => ∃ (k : Nat) (set : List Int), k ≤ l.length ∧ i = .int .i64 k ∧ set.length ≤ k ∧ Hid (RowI w4.heap.size wr v set) ∧ Hid (Rd (w.heap.size + 1) wr (w.heap.size + 1) (200000 + k)) ∧ Hid (Wrote (w.heap.size + 1) isRd w4 wr)) (fun _ i _ => l.length - (intOf i).toNat)
    case atStart =>
      exact ⟨0, [], Nat.zero_le _, rfl, Nat.le_refl _, RowI.nil w4, ((unhide HR4).alloc _).more (by omega), Wrote.of_below ((Below.refl _ _).alloc (Nat.le_refl _) _)⟩
    case round =>
      rename World => wo
      obtain ⟨k, set, hk, rfl, hsk, HO, HR, HW⟩ := hrel
      have hx := (unhide HW).blk (unhide HPV4) repoNotRd
      obtain ⟨y0, y1, _⟩ := two hx
      have hws : w4.heap.size ≤ wo.heap.size := (unhide HW).size
      by_cases hlt : k < l.length
      · have j1 : (k : Int) < (l.length : Int) := by omega
        clear hx
        go_wp2_with fail
        refine (pick_any (w.heap.size + 1) (w.heap.size + 1) _ 2 _ (unhide HR) (by omega) (by omega) (by omega)).mono ?_
        rintro e w5 ⟨⟨r5, rfl, hr50, hr51⟩, R5, W5⟩
        have HO2 := hide (RowI.wrote (unhide HO) W5)
        have HW2 := hide ((unhide HW).trans W5)
        have HR2 := hide R5
        have hzW := W5.size
        clear HO HW HR R5 W5 y0 y1
        by_cases hr5 : r5 = 0
        · subst hr5
          have hown := unhide HO2
          go_wp2_with (first
            | (at_builtin; refine wpList_append_own _ rfl _ _ 26 rfl w4.heap.size 3 i0 (.int .i64 0) 1 8 Try.underlying26 hi hz0 hz1i hz2i rfl (by decide) _ _ _ rfl (hown.alloc _) ⟨w5.heap.size, 0, none⟩ 1 1 [.int .i64 k] rfl rfl ?p1 ?p2 ?p3 ?p4 ?p5 ?_))
          case p1 =>
            intro j u hj
            match j, hj with
            | 0, hj => simp at hj; subst hj; simp [Addr.add]
          case p2 => intro u hu; simp at hu; subst hu; rfl
          case p3 => unfold maxLen; omega
          case p4 => omega
          case p5 => simp; omega
          intro v' w6 hown' hgrow _
          have HO3 : Hid (RowI w4.heap.size w6 v' (set ++ [(k : Int)])) := by
            show RowI _ _ _ _
            unfold RowI
            simpa using hown'
          have hblk : ∀ j, u6.ownBlock = some j → w4.heap.size ≤ j := fun j hj => (World.ownsRow.lt hown j hj).1
          have HW3 := hide (((unhide HW2).trans (Wrote.of_below ((Below.refl _ _).alloc (Nat.le_refl _) (.cells #[.int .i64 k] 3)))).grown hgrow (fun j hj => by have := hblk j hj; omega))
          have HR3 := hide (((unhide HR2).alloc (.cells #[.int .i64 k] 3)).grown hgrow (fun j hj => by have := hblk j hj; omega))
          clear hown hown' hgrow
          go_wp2_with fail
          go_roundw
          case rel => exact ⟨k + 1, set ++ [(k : Int)], by omega, by go_num, by simp; omega, HO3, (unhide HR3).more (by omega), HW3⟩
          case measure => simp [intOf]; omega
        · have hrb5 : (r5 == 0) = false := by simp [hr5]
          go_wp2_with fail
          go_roundw
          case rel => exact ⟨k + 1, set, by omega, by go_num, by omega, HO2, (unhide HR2).more (by omega), HW2⟩
          case measure => simp [intOf]; omega
      · have j1 : ¬ (k : Int) < (l.length : Int) := by omega
        obtain ⟨ua, uc, hu, _⟩ := RowI.set (unhide HO) (by omega)
        subst hu
        have W5 := unhide HW
        have res7 := W5.blk (unhide HRS4) repoNotRd
        have V7 := V2.ev (unhide HV4) (Ev.of_wrote (s := w1.heap.size) (N := 60000) W5)
        have B7 := (unhide HB4).trans (W5.bel (B' := w.heap.size) (by omega) (by have := (unhide HB4).size; omega))
        obtain ⟨r0, r1, rf⟩ := two res7
        have rf0 := rf 0
        have rf1 := rf 1
        have HFO := hide (fin_own (room := room) res7 V7 B7 (Nat.le_refl _))
        have HRO := hide (RowI.repo (row_base (unhide HO) (Nat.zero_le _)) res7 (.slice va l.length vc) (.int .i64 room))
        clear rf W5 res7 V7 B7 hx HO HW HR
        go_wp2_with fail
        obtain ⟨f1, f2, f3, f4⟩ := unhide HFO
        exact bodyPost_ret (v := .tuple #[.agg #[.slice va l.length vc, .int .i64 room], .slice ua set.length uc]) (by simp [results, Try.results7, go_sem, f3, f4]) rfl ⟨⟨_, _, _, rfl, V2.down f1 (by omega), set, unhide HRO, by omega⟩, f2⟩
end Go.Proofs.Ytcmgddkifhcmlan
