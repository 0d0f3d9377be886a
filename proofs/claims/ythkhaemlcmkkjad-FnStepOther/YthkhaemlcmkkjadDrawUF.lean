/- DrawStepFrom: the drawn packs and a drawn state. -/
import Derived.Test.YthkhaemlcmkkjadGDrawS
namespace Go.Proofs.Ythkhaemlcmkkjad
set_option linter.unusedVariables false
set_option linter.unusedSimpArgs false
open Go.RowKit Go.Deep

/-- The class of worlds: ahead of l71Set nothing that was there is written; behind it the reader alone. -/
structure CU (W : World) (B rb : Nat) (m : Int) (b : Bool) (us : List Value) (x : World) : Prop where
  ahead : us = [] → Below W.heap.size W x
  wrote : Wrote B isRd W x
  row : ∀ y, us = [y] → ∃ s, RowI 0 x y s ∧ s.length ≤ 200002
theorem CU.flag {W : World} {B rb : Nat} {m : Int} {b b' : Bool} {us : List Value} {x : World} (h : CU W B rb m b us x) : CU W B rb m b' us x := ⟨h.ahead, h.wrote, h.row⟩

set_option maxRecDepth 100000 in
set_option maxHeartbeats 8000000 in
theorem DrawStepFrom_V (a : Option Addr) (n c : Nat) (w : World) (h : CodeAt w.heap.size w a n) (hn : n ≤ 1048576) (hc : n ≤ c) (hc2 : c ≤ maxLen) :
    Calls Try.prog 16 #[.slice a n c] w fun e w' => (∃ (v : Value) (room : Int) (u : Value), e = .returned (.tuple #[.agg #[v, .int .i64 room], u]) ∧ V2 w.heap.size w' 60000 v ∧ ∃ set, RowI 0 w' u set ∧ set.length ≤ 200002) ∧ Below w.heap.size w w' := by
  have b0 := (Below.refl w.heap.size w).alloc (Nat.le_refl _) (.cells #[.slice none 0 0, .int .i64 0] 25)
  have hcode := h.below b0 (Nat.le_refl _)
  have HF0 := hide (show (w.alloc (.cells #[.slice none 0 0, .int .i64 0] 25)).heap[w.heap.size]? = some (repoCells (.slice none 0 0) 0) from blk_alloc_new _ _)
  go_enter Try.func16, Try.ntmps16
  go_wp2_with fail
  refine (l6Open_any a n c _ hcode hn hc hc2).mono ?_
  rintro e w1 ⟨rfl, R1, b1⟩
  simp only [nblk_alloc] at R1 b1
  have hz1 := b1.size
  simp at hz1
  have res1 := (b1.block w.heap.size (by omega)).trans (unhide HF0)
  have B1 : Below w.heap.size w w1 := b0.trans (b1.mono (by omega))
  have hrl := R1.lt
  clear b0 b1 hcode HF0
  go_wp2_with fail
  refine (l71Any_V (w.heap.size + 1) (w.heap.size + 1) 0 6 _ R1 (by omega) (by omega)).mono ?_
  rintro e w2 ⟨⟨v, room, rfl, hV⟩, R2, W2⟩
  obtain ⟨va, vn, vc, rfl, _, hvN, _⟩ := SlBy.slice hV
  have hz2 := W2.size
  have res2 := W2.blk res1 repoNotRd
  have B2 := B1.trans (W2.bel (B' := w.heap.size) (by omega) (by omega))
  have bp := (Below.refl w2.heap.size w2).alloc (Nat.le_refl _) (.cells #[.slice va vn vc, .int .i64 room] 25)
  have pv2 : (w2.alloc (.cells #[.slice va vn vc, .int .i64 room] 25)).heap[w2.heap.size]? = some (repoCells (.slice va vn vc) room) := blk_alloc_new _ _
  have res3 := (bp.block w.heap.size (by omega)).trans res2
  have R3 := R2.below bp
  have V3 := V2.ev hV (Ev.of_below (B := 0) (s := w1.heap.size) (N := 60000) bp)
  have B3 := B2.trans (bp.mono (by omega))
  obtain ⟨l, hll, hP3⟩ := V2.packs V3
  subst hll
  have HR3 := hide R3
  have HV3 := hide V3
  have HB3 := hide B3
  have HRS3 := hide res3
  have HPV3 := hide pv2
  have HP3 := hide hP3
  have hz3 : w2.heap.size < (w2.alloc (.cells #[.slice va l.length vc, .int .i64 room] 25)).heap.size := by simp
  clear R1 W2 res1 B1 hV R2 res2 B2 bp pv2 res3 R3 V3 B3 hP3
  go_upto_region 3 with fail
  generalize hw3 : w2.alloc (.cells #[.slice va l.length vc, .int .i64 room] 25) = w3 at HR3 HV3 HB3 HRS3 HPV3 HP3 hz3 ⊢
  clear hw3
  refine wp_region_mix (k := 100) 4 [3] [.agg #[.slice va l.length vc, .int .i64 room], .pointer (some ⟨w.heap.size + 1, 0, none⟩), .agg #[.slice va l.length vc, .int .i64 room], undef] (CU w3 (w.heap.size + 1) (w.heap.size + 1) 0) (by kernel_rfl) (by kernel_rfl) (by kernel_rfl) (by kernel_rfl) (by kernel_rfl) (by kernel_rfl) ⟨fun _ => (Below.refl _ _).drew, Wrote.of_below (Below.refl _ _).drew, (fun y h => by cases h)⟩ ?_ ?_ ?_
  · intro full hfull i oo hi hns ho x fl us hC hb
    simp [putAll, slotOf, Act.put] at hfull
    subst hfull
    obtain ⟨p0, p1, _⟩ := two (hC.wrote.blk (unhide HPV3) repoNotRd)
    have hC0 := hC.flag (b' := fl)
    match i with
    | 0 => simp at ho; subst ho; simp [gwp, Region.wanted, yielded]; go_simp; first | done | exact hC0 | exact ⟨rfl, hC0⟩
    | 1 => simp at ho; subst ho; simp [gwp, Region.wanted, yielded]; go_simp; first | done | exact hC0 | exact ⟨rfl, hC0⟩
    | 2 => simp at ho; subst ho; simp [gwp, Region.wanted, yielded]; go_simp; first | done | exact hC0 | exact ⟨rfl, hC0⟩
    | 3 => simp at hns
    | i + 4 => omega
  · intro full hfull us j hj oo ho x fl hC
    simp [putAll, slotOf, Act.put] at hfull
    subst hfull
    match us with
    | [] =>
      simp at hj
      subst hj
      simp at ho
      subst ho
      simp [gwp, Region.wanted, yielded, putP]
      go_simp
      have hbx := hC.ahead rfl
      refine (l71Set_V (w.heap.size + 1) (w.heap.size + 1) _ va l vc room x ((unhide HR3).below hbx) (by omega) ((unhide HP3).on hbx) (by omega)).mono ?_
      rintro e w' ⟨⟨u, rfl, set, hrow, hsl⟩, _, W4⟩
      go_simp
      refine ⟨fun h => (by simp at h), hC.wrote.trans W4, fun z hz => ?_⟩
      cases hz
      exact ⟨set, hrow, by omega⟩
    | _ :: _ => simp at hj
  · intro full hfull us x hus hC
    simp [putAll, slotOf, Act.put] at hfull
    subst hfull
    match us, hus with
    | [yv], _ =>
    obtain ⟨s2, hrow2, hlen2⟩ := hC.row yv rfl
    have W4 := hC.wrote
    obtain ⟨ya, yc, hy, _⟩ := RowI.set hrow2 (by omega)
    subst hy
    have res7 := W4.blk (unhide HRS3) repoNotRd
    have V7 := V2.ev (unhide HV3) (Ev.of_wrote (s := w1.heap.size) (N := 60000) W4)
    have B7 := (unhide HB3).trans (W4.bel (B' := w.heap.size) (by omega) (by have := (unhide HB3).size; omega))
    obtain ⟨r0, r1, rf⟩ := two res7
    have rf0 := rf 0
    have rf1 := rf 1
    have HFO := hide (fin_own (room := room) res7 V7 B7 (Nat.le_refl _))
    have HRO := hide (RowI.repo hrow2 res7 (.slice va l.length vc) (.int .i64 room))
    clear rf hC W4 res7 V7 B7 hrow2
    simp [putP, slotOf, Act.put]
    go_wp2_with fail
    obtain ⟨f1, f2, f3, f4⟩ := unhide HFO
    exact bodyPost_ret (v := .tuple #[.agg #[.slice va l.length vc, .int .i64 room], .slice ya s2.length yc]) (by simp [results, Try.results16, go_sem, f3, f4]) rfl ⟨⟨_, _, _, rfl, V2.down f1 (by omega), s2, unhide HRO, by omega⟩, f2⟩
end Go.Proofs.Ythkhaemlcmkkjad
