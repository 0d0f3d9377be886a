/- DrawCostPlan: the drawn packs and drawn steps. -/
import Derived.Test.YthkhaemlcmkkjaoDrawZ
namespace Go.Proofs.Ythkhaemlcmkkjao
set_option linter.unusedVariables false
set_option linter.unusedSimpArgs false
open Go.RowKit Go.Deep

/-- What DrawCostPlan answers. -/
def DrawnCosts (w w' : World) (e : Ending) : Prop := ∃ (v : Value) (room : Int) (q : Value), e = .returned (.tuple #[.agg #[v, .int .i64 room], q]) ∧ V2 w.heap.size w' 60000 v ∧ ∃ ss : List StepD, w'.ownsRow 0 41 3 q ss.length (stepVs ss) ∧ ss.length ≤ 400
set_option maxRecDepth 100000 in
set_option maxHeartbeats 8000000 in
theorem DrawCostPlan_V (a : Option Addr) (n c : Nat) (w : World) (h : CodeAt w.heap.size w a n) (hn : n ≤ 1048576) (hc : n ≤ c) (hc2 : c ≤ maxLen) :
    Calls Try.prog 14 #[.slice a n c] w fun e w' => DrawnCosts w w' e ∧ Below w.heap.size w w' := by
  obtain ⟨w0, hw0⟩ : ∃ w0, w0 = w.alloc (.cells #[.slice none 0 0, .int .i64 0] 25) := ⟨_, rfl⟩
  have b0 : Below w.heap.size w w0 := by rw [hw0]; exact (Below.refl _ _).alloc (Nat.le_refl _) _
  have z0 : w0.heap.size = w.heap.size + 1 := by rw [hw0]; simp
  have f0 : w0.heap[w.heap.size]? = some (repoCells (.slice none 0 0) 0) := by rw [hw0]; exact blk_alloc_new _ _
  have hcode := h.below b0 (by omega)
  have HD := hide (DrawPlanDo_V a n c w0 (hcode.up (by omega)) hn hc hc2)
  have HB0 := hide b0
  clear b0 hcode h
  go_enter Try.func14, Try.ntmps14
  go_upto_region 1 with fail
  rw [← hw0]
  clear hw0
  go_wp2_with fail
  refine (unhide HD).mono ?_
  rintro e w1 ⟨⟨v, room, u, qv, rfl, hV, ⟨set, hrow, hsl⟩, ss, hst, hss⟩, b1⟩
  obtain ⟨va, vn, vc, rfl, _⟩ := SlBy.slice hV
  obtain ⟨ua, un, uc, hu⟩ : ∃ ua un uc, u = .slice ua un uc := by
    obtain ⟨sa, sc, hu, _⟩ := RowI.set hrow (by omega)
    exact ⟨_, _, _, hu⟩
  subst hu
  obtain ⟨qa, qc, hq, _⟩ := StepsAt.of_row hst (by omega)
  subst hq
  have z1 := b1.size
  have g0 := (b1.block w.heap.size (by omega)).trans f0
  have B1 := (unhide HB0).trans (b1.mono (by omega))
  clear hrow HD HB0
  go_upto_region 2 with fail
  obtain ⟨w2, hw2⟩ : ∃ w2, w2 = w1.alloc (.cells #[.slice va vn vc, .int .i64 room] 25) := ⟨_, rfl⟩
  rw [← hw2]
  have b2 : Below w1.heap.size w1 w2 := by rw [hw2]; exact (Below.refl _ _).alloc (Nat.le_refl _) _
  have x0 : w2.cell? ⟨w1.heap.size, 0, none⟩ = some (.slice va vn vc) := by rw [hw2]; simp
  have x1 : w2.cell? ⟨w1.heap.size, 1, none⟩ = some (.int .i64 room) := by rw [hw2]; simp
  have res2 := (b2.block w.heap.size (by omega)).trans g0
  have V2' := V2.ev hV (Ev.of_below (B := 0) (s := w0.heap.size) (N := 60000) b2)
  have B2 := B1.trans (b2.mono (by omega))
  obtain ⟨r0, r1, rf⟩ := two res2
  have rf0 := rf 0
  have rf1 := rf 1
  have HFO := hide (fin_own (room := room) res2 V2' B2 (Nat.le_refl _))
  have HCt := hide (steps_repo (ownsRow_on hst b2) res2 (.slice va vn vc) (.int .i64 room))
  clear hw2 b2 res2 V2' B2 hV b1 g0 B1 rf f0 hst
  go_wp2_with fail
  obtain ⟨f1, f2, f3, f4⟩ := unhide HFO
  exact bodyPost_ret (v := .tuple #[.agg #[.slice va vn vc, .int .i64 room], .slice qa ss.length qc]) (by simp [results, Try.results14, go_sem, f3, f4]) rfl ⟨⟨_, _, _, rfl, V2.down f1 (by omega), ss, unhide HCt, hss⟩, f2⟩
end Go.Proofs.Ythkhaemlcmkkjao
