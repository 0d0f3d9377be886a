/- The walk of the law FnCostOf: of every code it answers true, and writes nothing that was there. -/
import Derived.Test.YthkhaemlcmkkjaoDrawCO
import Derived.Test.YthkhaemlcmkkjaoCostA
import Derived.Test.YthkhaemlcmkkjaoCostS
namespace Go.Proofs.Ythkhaemlcmkkjao
set_option linter.unusedVariables false
set_option linter.unusedSimpArgs false
open Go.RowKit Go.Deep

set_option maxRecDepth 100000 in
set_option maxHeartbeats 8000000 in
theorem costof_law (a : Option Addr) (n c : Nat) (w : World) (h : CodeAt w.heap.size w a n) (hc : n ≤ c) (hc2 : c ≤ maxLen) :
    Calls Try.prog 4 #[.slice a n c] w fun e w' => e = .returned (.bool true) ∧ Below w.heap.size w w' := by
  have hmx := hc2
  unfold maxLen at hmx
  by_cases hbig : 1048576 < n
  · have hb' : (1048576 : Int) < (n : Int) := by omega
    go_enter Try.func4, Try.ntmps4
    go_wp2_with fail
    go_ret
    exact ⟨rfl, Below.refl _ _⟩
  have hb' : ¬ (1048576 : Int) < (n : Int) := by omega
  go_enter Try.func4, Try.ntmps4
  go_wp2_with fail
  refine (DrawCostOf_V a n c w h (by omega) hc hc2).mono ?_
  rintro e w1 ⟨⟨v, room, s, rfl, hV⟩, b1⟩
  obtain ⟨va, vn, vc, rfl, _⟩ := SlBy.slice hV
  obtain ⟨l, rfl, hP⟩ := V2.packs hV
  have HP1 := hide hP
  have HB1 := hide b1
  clear hV hP b1 h
  go_upto_region 4 with fail
  obtain ⟨w2, hw2⟩ : ∃ w2, w2 = (w1.alloc (.cells #[.slice va l.length vc, .int .i64 room] 25)).alloc (.cells #[.int .i64 s.kind, .int .i64 s.inn, .int .i64 s.out] 41) := ⟨_, rfl⟩
  rw [← hw2]
  have b2 : Below w1.heap.size w1 w2 := by rw [hw2]; exact ((Below.refl _ _).alloc (Nat.le_refl _) _).alloc (by simp) _
  have x0 : w2.cell? ⟨w1.heap.size, 0, none⟩ = some (.slice va l.length vc) := by rw [hw2]; simp
  have x1 : w2.cell? ⟨w1.heap.size, 1, none⟩ = some (.int .i64 room) := by rw [hw2]; simp
  have y0 : w2.cell? ⟨w1.heap.size + 1, 0, none⟩ = some (.int .i64 s.kind) := by rw [hw2]; simp
  have y1 : w2.cell? ⟨w1.heap.size + 1, 1, none⟩ = some (.int .i64 s.inn) := by rw [hw2]; simp
  have y2 : w2.cell? ⟨w1.heap.size + 1, 2, none⟩ = some (.int .i64 s.out) := by rw [hw2]; simp
  have hlt2 : w1.heap.size + 1 < w2.heap.size := by rw [hw2]; simp
  have HP2 := hide ((unhide HP1).on b2)
  have HB2 := hide ((unhide HB1).trans (b2.mono (unhide HB1).size))
  clear hw2 b2 HP1 HB1
  have hbd := costZ_bound l room s
  go_wp2_with fail
  refine (implCostOf_any va l vc room s w2 (unhide HP2)).mono ?_
  rintro e w3 ⟨rfl, b3⟩
  have HP3 := hide ((unhide HP2).on b3)
  have HB3 := hide ((unhide HB2).trans (b3.mono (unhide HB2).size))
  have hlt3 : w1.heap.size + 1 < w3.heap.size := Nat.lt_of_lt_of_le hlt2 b3.size
  rw [← b3.cell (p := ⟨w1.heap.size, _, none⟩) (show w1.heap.size < w2.heap.size by omega)] at x0 x1
  rw [← b3.cell (p := ⟨w1.heap.size + 1, _, none⟩) hlt2] at y0 y1 y2
  clear HB2 b3 hlt2 HP2
  go_wp2_with fail
  refine (specCostOf_any va l vc room s w3 (unhide HP3)).mono ?_
  rintro e w4 ⟨rfl, b4⟩
  have HP4 := hide ((unhide HP3).on b4)
  have HB4 := hide ((unhide HB3).trans (b4.mono (unhide HB3).size))
  have hlt4 : w1.heap.size + 1 < w4.heap.size := Nat.lt_of_lt_of_le hlt3 b4.size
  rw [← b4.cell (p := ⟨w1.heap.size, _, none⟩) (show w1.heap.size < w3.heap.size by omega)] at x0 x1
  rw [← b4.cell (p := ⟨w1.heap.size + 1, _, none⟩) hlt3] at y0 y1 y2
  clear HB3 b4 hlt3 HP3
  obtain ⟨cz, hcz⟩ : ∃ cz, cz = costZ l room s := ⟨_, rfl⟩
  have HCZ := hide hcz
  have HS4 := hide (specCostOf_any va l vc room s w4 (unhide HP4))
  rw [← hcz] at HS4 hbd ⊢
  clear hcz
  by_cases hneg : cz < 0
  · clear HCZ
    go_wp2_with fail
    refine (unhide HS4).mono ?_
    rintro e w5 ⟨rfl, b5⟩
    have HB5 := hide ((unhide HB4).trans (b5.mono (unhide HB4).size))
    clear b5 HB4
    go_wp2_with fail
    go_ret
    exact ⟨by simp, unhide HB5⟩
  clear HS4
  obtain ⟨hr, hk⟩ := cost_kind (cost_any (l := l) (room := room) (s := s) (by rw [← unhide HCZ]; omega))
  rw [← unhide HCZ] at hk
  have hok := OkL.of hr
  rcases hk with ⟨i, hi, rfl, hc⟩ | ⟨i, hi, rfl, hc⟩ | ⟨i, o, hi, ho, rfl, hc⟩
  · have hi0 : (0 : Int) ≤ (i : Int) := by omega
    have hi1 : (i : Int) < (l.length : Int) := by omega
    rcases (unhide HP4).2 with hnil | ⟨pb, po, rfl, hpS, hpk⟩
    · rw [hnil] at hi; simp at hi
    obtain ⟨_, _, _, _, _, _, hce, _⟩ := hpk i hi
    have n2 := hce.size
    have hz := sizeAt_bound hok i
    unfold sizeAt at hc hz
    simp only at y0 y1 y2
    subst hc
    generalize (l.getD i dPack).size = psz at n2 hz hneg hbd ⊢
    have hwr : IntKind.i64.wrap psz = psz := by rw [IntKind.wrap_i64]; omega
    have hwr0 : IntKind.i64.wrap (psz + 0) = psz := by rw [IntKind.wrap_i64]; omega
    clear hce hpk hok HCZ hr hpS HP4
    go_wp2_with fail
    go_ret
    exact ⟨by simp, unhide HB4⟩
  · have hi0 : (0 : Int) ≤ (i : Int) := by omega
    have hi1 : (i : Int) < (l.length : Int) := by omega
    rcases (unhide HP4).2 with hnil | ⟨pb, po, rfl, hpS, hpk⟩
    · rw [hnil] at hi; simp at hi
    obtain ⟨_, _, _, _, _, _, hce, _⟩ := hpk i hi
    have n2 := hce.size
    have hz := sizeAt_bound hok i
    unfold sizeAt at hc hz
    simp only at y0 y1 y2
    subst hc
    generalize (l.getD i dPack).size = psz at n2 hz hneg hbd ⊢
    have hwr : IntKind.i64.wrap psz = psz := by rw [IntKind.wrap_i64]; omega
    have hwr0 : IntKind.i64.wrap (0 + psz) = psz := by rw [IntKind.wrap_i64]; omega
    clear hce hpk hok HCZ hr hpS HP4
    go_wp2_with fail
    go_ret
    exact ⟨by simp, unhide HB4⟩
  · have hi0 : (0 : Int) ≤ (i : Int) := by omega
    have hi1 : (i : Int) < (l.length : Int) := by omega
    rcases (unhide HP4).2 with hnil | ⟨pb, po, rfl, hpS, hpk⟩
    · rw [hnil] at hi; simp at hi
    obtain ⟨_, _, _, _, _, _, hce, _⟩ := hpk i hi
    have n2 := hce.size
    have hz := sizeAt_bound hok i
    unfold sizeAt at hc hz
    simp only at y0 y1 y2
    obtain ⟨_, _, _, _, _, _, hce2, _⟩ := hpk o ho
    have n3 := hce2.size
    have hz2 := sizeAt_bound hok o
    unfold sizeAt at hz2
    have ho0 : (0 : Int) ≤ (o : Int) := by omega
    have ho1 : (o : Int) < (l.length : Int) := by omega
    subst hc
    generalize (l.getD i dPack).size = psz at n2 hz hneg hbd ⊢
    generalize (l.getD o dPack).size = psy at n3 hz2 hneg hbd ⊢
    have hwr : IntKind.i64.wrap (psz + psy) = psz + psy := by rw [IntKind.wrap_i64]; omega
    clear hce hce2 hpk hok HCZ hr hpS HP4
    go_wp2_with fail
    go_ret
    exact ⟨by simp, unhide HB4⟩
end Go.Proofs.Ythkhaemlcmkkjao
