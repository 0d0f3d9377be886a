/- The walk of the law FnCostBack: of every code it answers true, and writes nothing that was there. -/
import Derived.Test.YthkhaemlcmkkjasDrawCO
import Derived.Test.YthkhaemlcmkkjasCostA
import Derived.Test.YthkhaemlcmkkjasCostS
namespace Go.Proofs.Ythkhaemlcmkkjas
set_option linter.unusedVariables false
set_option linter.unusedSimpArgs false
open Go.RowKit Go.Deep

theorem cost_step {l : List PackD} {room : Int} (h : repoB ⟨l, room⟩ = true) {i : Nat} (hi : i < l.length) : costZ l room ⟨1, i, 0⟩ = sizeAt l i ∧ costZ l room ⟨2, 0, i⟩ = sizeAt l i := by
  have h8 := repo_l8 h
  have m1 : MvD.put i ∈ movesL l := by unfold movesL; exact List.mem_append.2 (Or.inl (List.mem_map.2 ⟨i, List.mem_range.2 hi, rfl⟩))
  have m2 : MvD.take i ∈ movesL l := by unfold movesL; exact List.mem_append.2 (Or.inr (List.mem_append.2 (Or.inl (List.mem_map.2 ⟨i, List.mem_range.2 hi, rfl⟩))))
  have f1 := find_of m1
  have f2 := find_of m2
  refine ⟨?_, ?_⟩
  · rw [costZ_ok _ h, show (⟨1, (i : Int), 0⟩ : StepD) = (MvD.put i).step from rfl, f1]
    exact cost_put (by omega)
  · rw [costZ_ok _ h, show (⟨2, 0, (i : Int)⟩ : StepD) = (MvD.take i).step from rfl, f2]
    exact cost_take (by omega)
set_option maxRecDepth 100000 in
set_option maxHeartbeats 8000000 in
theorem costback_law (a : Option Addr) (n c : Nat) (w : World) (h : CodeAt w.heap.size w a n) (hc : n ≤ c) (hc2 : c ≤ maxLen) :
    Calls Try.prog 3 #[.slice a n c] w fun e w' => e = .returned (.bool true) ∧ Below w.heap.size w w' := by
  have hmx := hc2
  unfold maxLen at hmx
  by_cases hbig : 1048576 < n
  · have hb' : (1048576 : Int) < (n : Int) := by omega
    go_enter Try.func3, Try.ntmps3
    go_wp2_with fail
    go_ret
    exact ⟨rfl, Below.refl _ _⟩
  have hb' : ¬ (1048576 : Int) < (n : Int) := by omega
  go_enter Try.func3, Try.ntmps3
  go_wp2_with fail
  refine (DrawCostOf_V a n c w h (by omega) hc hc2).mono ?_
  rintro e w1 ⟨⟨v, room, s, rfl, hV⟩, b1⟩
  obtain ⟨va, vn, vc, rfl, _⟩ := SlBy.slice hV
  obtain ⟨l, rfl, hP⟩ := V2.packs hV
  have HP1 := hide hP
  have HB1 := hide b1
  clear hV hP b1 h
  go_upto_region 4 with fail
  obtain ⟨w2, hw2⟩ : ∃ w2, w2 = (w1.alloc (.cells #[.slice va l.length vc, .int .i64 room] 25)).alloc (.cells #[.int .i64 s.kind, .int .i64 s.inn, .int .i64 s.out] 27) := ⟨_, rfl⟩
  rw [← hw2]
  have b2 : Below w1.heap.size w1 w2 := by rw [hw2]; exact ((Below.refl _ _).alloc (Nat.le_refl _) _).alloc (by simp) _
  have x0 : w2.cell? ⟨w1.heap.size, 0, none⟩ = some (.slice va l.length vc) := by rw [hw2]; simp
  have x1 : w2.cell? ⟨w1.heap.size, 1, none⟩ = some (.int .i64 room) := by rw [hw2]; simp
  have y0 : w2.cell? ⟨w1.heap.size + 1, 0, none⟩ = some (.int .i64 s.kind) := by rw [hw2]; simp
  have y1 : w2.cell? ⟨w1.heap.size + 1, 1, none⟩ = some (.int .i64 s.inn) := by rw [hw2]; simp
  have y2 : w2.cell? ⟨w1.heap.size + 1, 2, none⟩ = some (.int .i64 s.out) := by rw [hw2]; simp
  have hlt2 : w1.heap.size + 1 < w2.heap.size := by rw [hw2]; simp
  have HP2 := hide ((unhide HP1).on b2)
  have HB2 := hide ((unhide HB1).trans (b2.mono (unhide HB1).size))
  clear hw2 b2 HP1 HB1
  have hbd := costZ_bound l room s
  go_wp2_with fail
  refine (implCostOf_any va l vc room s w2 (unhide HP2)).mono ?_
  rintro e w3 ⟨rfl, b3⟩
  have HP3 := hide ((unhide HP2).on b3)
  have HB3 := hide ((unhide HB2).trans (b3.mono (unhide HB2).size))
  have hlt3 : w1.heap.size + 1 < w3.heap.size := Nat.lt_of_lt_of_le hlt2 b3.size
  rw [← b3.cell (p := ⟨w1.heap.size, _, none⟩) (show w1.heap.size < w2.heap.size by omega)] at x0 x1
  rw [← b3.cell (p := ⟨w1.heap.size + 1, _, none⟩) hlt2] at y0 y1 y2
  clear HB2 b3 hlt2 HP2
  go_wp2_with fail
  refine (specCostOf_any va l vc room s w3 (unhide HP3)).mono ?_
  rintro e w4 ⟨rfl, b4⟩
  have HP4 := hide ((unhide HP3).on b4)
  have HB4 := hide ((unhide HB3).trans (b4.mono (unhide HB3).size))
  have hlt4 : w1.heap.size + 1 < w4.heap.size := Nat.lt_of_lt_of_le hlt3 b4.size
  rw [← b4.cell (p := ⟨w1.heap.size, _, none⟩) (show w1.heap.size < w3.heap.size by omega)] at x0 x1
  rw [← b4.cell (p := ⟨w1.heap.size + 1, _, none⟩) hlt3] at y0 y1 y2
  clear HB3 b4 hlt3 HP3
  obtain ⟨cz, hcz⟩ : ∃ cz, cz = costZ l room s := ⟨_, rfl⟩
  have HCZ := hide hcz
  have HS4 := hide (specCostOf_any va l vc room s w4 (unhide HP4))
  rw [← hcz] at HS4 hbd ⊢
  clear hcz
  by_cases hneg : cz < 0
  · clear HCZ
    go_wp2_with fail
    refine (unhide HS4).mono ?_
    rintro e w5 ⟨rfl, b5⟩
    have HB5 := hide ((unhide HB4).trans (b5.mono (unhide HB4).size))
    clear b5 HB4
    go_wp2_with fail
    go_ret
    exact ⟨by simp, unhide HB5⟩
  clear HS4
  obtain ⟨hr, hk⟩ := cost_kind (cost_any (l := l) (room := room) (s := s) (by rw [← unhide HCZ]; omega))
  rw [← unhide HCZ] at hk
  have hok := OkL.of hr
  have hRB := hr
  have H1 := hide (fun (t : StepD) (x : World) (h : PacksAt (Old x) x va l) => implCostOf_any va l vc room t x h)
  rcases hk with ⟨i, hi, rfl, hc⟩ | ⟨i, hi, rfl, hc⟩ | ⟨i, o, hi, ho, rfl, hc⟩
  · simp only at y0 y1 y2
    obtain ⟨c1, c2⟩ := cost_step hRB hi
    have hz := sizeAt_bound hok i
    have hb5 := costZ_bound l room ⟨1, (i : Int), 0⟩
    have hb6 := costZ_bound l room ⟨2, 0, 0⟩
    have HA5 := hide (unhide H1 ⟨1, (i : Int), 0⟩ w4 (unhide HP4))
    go_wp2_with fail
    refine (unhide HA5).mono ?_
    rintro e w5 ⟨rfl, b5⟩
    have HP5 := hide ((unhide HP4).on b5)
    have HB5 := hide ((unhide HB4).trans (b5.mono (unhide HB4).size))
    have hlt5 : w1.heap.size + 1 < w5.heap.size := Nat.lt_of_lt_of_le hlt4 b5.size
    rw [← b5.cell (p := ⟨w1.heap.size, _, none⟩) (show w1.heap.size < w4.heap.size by omega)] at x0 x1
    rw [← b5.cell (p := ⟨w1.heap.size + 1, _, none⟩) hlt4] at y0 y1 y2
    clear HB4 b5 hlt4 HP4
    have HA6 := hide (unhide H1 ⟨2, 0, 0⟩ w5 (unhide HP5))
    clear HA5
    go_wp2_with fail
    refine (unhide HA6).mono ?_
    rintro e w6 ⟨rfl, b6⟩
    have HP6 := hide ((unhide HP5).on b6)
    have HB6 := hide ((unhide HB5).trans (b6.mono (unhide HB5).size))
    have hlt6 : w1.heap.size + 1 < w6.heap.size := Nat.lt_of_lt_of_le hlt5 b6.size
    rw [← b6.cell (p := ⟨w1.heap.size, _, none⟩) (show w1.heap.size < w5.heap.size by omega)] at x0 x1
    rw [← b6.cell (p := ⟨w1.heap.size + 1, _, none⟩) hlt5] at y0 y1 y2
    clear HB5 b6 hlt5 HP5
    clear HA6
    have HA7 := hide (unhide H1 ⟨2, 0, (i : Int)⟩ w6 (unhide HP6))
    rw [c2, ← hc] at HA7
    go_wp2_with fail
    refine (unhide HA7).mono ?_
    rintro e w7 ⟨rfl, b7⟩
    have HB7 := hide ((unhide HB6).trans (b7.mono (unhide HB6).size))
    clear b7 HB6 HA7
    go_wp2_with fail
    go_ret
    exact ⟨by simp, unhide HB7⟩
  · simp only at y0 y1 y2
    obtain ⟨c1, c2⟩ := cost_step hRB hi
    have hz := sizeAt_bound hok i
    have hb5 := costZ_bound l room ⟨1, 0, 0⟩
    have hb6 := costZ_bound l room ⟨2, 0, (i : Int)⟩
    have HA5 := hide (unhide H1 ⟨1, 0, 0⟩ w4 (unhide HP4))
    go_wp2_with fail
    refine (unhide HA5).mono ?_
    rintro e w5 ⟨rfl, b5⟩
    have HP5 := hide ((unhide HP4).on b5)
    have HB5 := hide ((unhide HB4).trans (b5.mono (unhide HB4).size))
    have hlt5 : w1.heap.size + 1 < w5.heap.size := Nat.lt_of_lt_of_le hlt4 b5.size
    rw [← b5.cell (p := ⟨w1.heap.size, _, none⟩) (show w1.heap.size < w4.heap.size by omega)] at x0 x1
    rw [← b5.cell (p := ⟨w1.heap.size + 1, _, none⟩) hlt4] at y0 y1 y2
    clear HB4 b5 hlt4 HP4
    have HA6 := hide (unhide H1 ⟨2, 0, (i : Int)⟩ w5 (unhide HP5))
    clear HA5
    go_wp2_with fail
    refine (unhide HA6).mono ?_
    rintro e w6 ⟨rfl, b6⟩
    have HP6 := hide ((unhide HP5).on b6)
    have HB6 := hide ((unhide HB5).trans (b6.mono (unhide HB5).size))
    have hlt6 : w1.heap.size + 1 < w6.heap.size := Nat.lt_of_lt_of_le hlt5 b6.size
    rw [← b6.cell (p := ⟨w1.heap.size, _, none⟩) (show w1.heap.size < w5.heap.size by omega)] at x0 x1
    rw [← b6.cell (p := ⟨w1.heap.size + 1, _, none⟩) hlt5] at y0 y1 y2
    clear HB5 b6 hlt5 HP5
    clear HA6
    have HA7 := hide (unhide H1 ⟨1, (i : Int), 0⟩ w6 (unhide HP6))
    rw [c1, ← hc] at HA7
    go_wp2_with fail
    refine (unhide HA7).mono ?_
    rintro e w7 ⟨rfl, b7⟩
    have HB7 := hide ((unhide HB6).trans (b7.mono (unhide HB6).size))
    clear b7 HB6 HA7
    go_wp2_with fail
    go_ret
    exact ⟨by simp, unhide HB7⟩
  · simp only at y0 y1 y2
    obtain ⟨c1, c2⟩ := cost_step hRB hi
    have hz := sizeAt_bound hok i
    obtain ⟨d1, d2⟩ := cost_step hRB ho
    have hz2 := sizeAt_bound hok o
    have hb5 := costZ_bound l room ⟨1, (i : Int), 0⟩
    have hb6 := costZ_bound l room ⟨2, 0, (o : Int)⟩
    have HA5 := hide (unhide H1 ⟨1, (i : Int), 0⟩ w4 (unhide HP4))
    go_wp2_with fail
    refine (unhide HA5).mono ?_
    rintro e w5 ⟨rfl, b5⟩
    have HP5 := hide ((unhide HP4).on b5)
    have HB5 := hide ((unhide HB4).trans (b5.mono (unhide HB4).size))
    have hlt5 : w1.heap.size + 1 < w5.heap.size := Nat.lt_of_lt_of_le hlt4 b5.size
    rw [← b5.cell (p := ⟨w1.heap.size, _, none⟩) (show w1.heap.size < w4.heap.size by omega)] at x0 x1
    rw [← b5.cell (p := ⟨w1.heap.size + 1, _, none⟩) hlt4] at y0 y1 y2
    clear HB4 b5 hlt4 HP4
    have HA6 := hide (unhide H1 ⟨2, 0, (o : Int)⟩ w5 (unhide HP5))
    clear HA5
    go_wp2_with fail
    refine (unhide HA6).mono ?_
    rintro e w6 ⟨rfl, b6⟩
    have HP6 := hide ((unhide HP5).on b6)
    have HB6 := hide ((unhide HB5).trans (b6.mono (unhide HB5).size))
    have hlt6 : w1.heap.size + 1 < w6.heap.size := Nat.lt_of_lt_of_le hlt5 b6.size
    rw [← b6.cell (p := ⟨w1.heap.size, _, none⟩) (show w1.heap.size < w5.heap.size by omega)] at x0 x1
    rw [← b6.cell (p := ⟨w1.heap.size + 1, _, none⟩) hlt5] at y0 y1 y2
    clear HB5 b6 hlt5 HP5
    clear HA6
    rw [d2]
    clear c1 c2 d1 d2 hb5 hb6 HCZ H1
    have hwr : IntKind.i64.wrap (sizeAt l i + sizeAt l o) = sizeAt l i + sizeAt l o := by rw [IntKind.wrap_i64]; omega
    go_wp2_with fail
    go_ret
    exact ⟨by simp, unhide HB6⟩
end Go.Proofs.Ythkhaemlcmkkjas
