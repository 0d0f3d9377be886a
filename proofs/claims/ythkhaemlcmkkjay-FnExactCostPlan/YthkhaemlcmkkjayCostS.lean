/- The specification's CostOf and CostPlan. -/
import Derived.Test.YthkhaemlcmkkjayCostP
import Derived.Test.YthkhaemlcmkkjayGSp
import Derived.Test.YthkhaemlcmkkjayGMw
import Derived.Deep.QuietTactic
namespace Go.Proofs.Ythkhaemlcmkkjay
set_option linter.unusedVariables false
set_option linter.unusedSimpArgs false
open Go.RowKit Go.Deep

set_option maxRecDepth 100000 in
set_option maxHeartbeats 4000000 in
theorem specCostOf_any (a : Option Addr) (l : List PackD) (cap : Nat) (room : Int) (s : StepD) (w : World) (h : PacksAt (Old w) w a l) :
    Calls Try.prog 18 #[.agg #[.slice a l.length cap, .int .i64 room], .agg #[.int .i64 s.kind, .int .i64 s.inn, .int .i64 s.out]] w fun e w' => e = .returned (.int .i64 (costZ l room s)) ∧ Below w.heap.size w w' := by
  obtain ⟨w0, hw0⟩ : ∃ w0, w0 = (w.alloc (.cells #[.slice a l.length cap, .int .i64 room] 31)).alloc (.cells #[.int .i64 s.kind, .int .i64 s.inn, .int .i64 s.out] 44) := ⟨_, rfl⟩
  have b0 : Below w.heap.size w w0 := by rw [hw0]; exact ((Below.refl _ _).alloc (Nat.le_refl _) _).alloc (by simp) _
  have z0 : w.heap.size + 1 < w0.heap.size := by rw [hw0]; simp
  have x0 : w0.cell? ⟨w.heap.size, 0, none⟩ = some (.slice a l.length cap) := by rw [hw0]; simp
  have x1 : w0.cell? ⟨w.heap.size, 1, none⟩ = some (.int .i64 room) := by rw [hw0]; simp
  have s0 : w0.cell? ⟨w.heap.size + 1, 0, none⟩ = some (.int .i64 s.kind) := by rw [hw0]; simp
  have s1 : w0.cell? ⟨w.heap.size + 1, 1, none⟩ = some (.int .i64 s.inn) := by rw [hw0]; simp
  have s2 : w0.cell? ⟨w.heap.size + 1, 2, none⟩ = some (.int .i64 s.out) := by rw [hw0]; simp
  have HB0 := hide b0
  have HP0 := hide (h.on b0)
  clear h b0
  go_enter Try.func18, Try.ntmps18
  go_upto_region 1 with fail
  rw [← hw0]
  clear hw0
  go_wp2_with fail
  refine (l3Step_any a l cap room s w0 (unhide HP0)).mono ?_
  rintro e w1 ⟨rfl, b1⟩
  have z1 := b1.size
  have HB1 := hide ((unhide HB0).trans (b1.mono (unhide HB0).size))
  have HP1 := hide ((unhide HP0).on b1)
  rw [← b1.cell (p := ⟨w.heap.size, _, none⟩) (by simp; omega)] at x0 x1
  rw [← b1.cell (p := ⟨w.heap.size + 1, _, none⟩) (by simp; omega)] at s0 s1 s2
  clear b1 HB0 HP0
  cases han : (stepsL l room).any (fun t => eqS t s) with
  | false =>
    have HCZ := hide (cost_none han)
    clear han
    go_wp2_with fail
    go_ret
    exact ⟨retI (unhide HCZ).symm, unhide HB1⟩
  | true =>
    obtain ⟨hr, hk⟩ := cost_kind han
    have hok := OkL.of hr
    clear han hr
    rcases hk with ⟨i, hi, rfl, hc⟩ | ⟨i, hi, rfl, hc⟩ | ⟨i, o, hi, ho, rfl, hc⟩
    all_goals (
      have HCZ := hide hc
      clear hc
      have hi0 : (0 : Int) ≤ (i : Int) := by omega
      have hi1 : (i : Int) < (l.length : Int) := by omega
      rcases (unhide HP1).2 with hnil | ⟨pb, po, rfl, hpS, hpk⟩
      · rw [hnil] at hi; simp at hi
      obtain ⟨_, _, _, _, _, _, hce, _⟩ := hpk i hi
      have n2 := hce.size
      have hz := sizeAt_bound hok i
      unfold sizeAt at HCZ hz
      simp only at s0 s1 s2)
    · generalize (l.getD i dPack).size = psz at n2 hz HCZ
      have hwr : IntKind.i64.wrap (0 + psz) = psz := by rw [IntKind.wrap_i64]; omega
      have hwr2 : IntKind.i64.wrap psz = psz := by rw [IntKind.wrap_i64]; omega
      clear hce hpk hok HP1
      go_wp2_with fail
      go_ret
      exact ⟨retI (unhide HCZ).symm, unhide HB1⟩
    · generalize (l.getD i dPack).size = psz at n2 hz HCZ
      have hwr : IntKind.i64.wrap (0 + psz) = psz := by rw [IntKind.wrap_i64]; omega
      have hwr2 : IntKind.i64.wrap psz = psz := by rw [IntKind.wrap_i64]; omega
      clear hce hpk hok HP1
      go_wp2_with fail
      go_ret
      exact ⟨retI (unhide HCZ).symm, unhide HB1⟩
    · obtain ⟨_, _, _, _, _, _, hce2, _⟩ := hpk o ho
      have n3 := hce2.size
      have hz2 := sizeAt_bound hok o
      unfold sizeAt at hz2
      have ho0 : (0 : Int) ≤ (o : Int) := by omega
      have ho1 : (o : Int) < (l.length : Int) := by omega
      generalize (l.getD i dPack).size = psz at n2 hz HCZ
      generalize (l.getD o dPack).size = psy at n3 hz2 HCZ
      have hwr : IntKind.i64.wrap (0 + psz) = psz := by rw [IntKind.wrap_i64]; omega
      have hwr2 : IntKind.i64.wrap psz = psz := by rw [IntKind.wrap_i64]; omega
      have hwr3 : IntKind.i64.wrap (psz + psy) = psz + psy := by rw [IntKind.wrap_i64]; omega
      clear hce hce2 hpk hok HP1
      go_wp2_with fail
      go_ret
      exact ⟨retI (unhide HCZ).symm, unhide HB1⟩
end Go.Proofs.Ythkhaemlcmkkjay
