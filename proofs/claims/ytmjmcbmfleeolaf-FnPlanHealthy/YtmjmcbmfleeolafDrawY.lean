/- DrawPlanOk: the drawn packs, two drawn states and drawn steps. -/
import Derived.Test.YtmjmcbmfleeolafDrawX
namespace Go.Proofs.Ytmjmcbmfleeolaf
set_option linter.unusedVariables false
set_option linter.unusedSimpArgs false
open Go.RowKit Go.Deep

theorem set_drawn {B rb s n cap : Nat} {m : Int} {w : World} {a : Option Addr} (room : Int) (hV : V2 s w 60000 (.slice a n cap)) (hn : n ≤ 70000) (h : Rd B w rb m) (hm : m ≤ 500000) :
    Calls Try.prog 11 #[.pointer (some ⟨rb, 0, none⟩), .agg #[.slice a n cap, .int .i64 room]] w fun e w' => (∃ v, e = .returned v ∧ ∃ set, RowI 0 w' v set ∧ set.length ≤ 100000) ∧ Rd B w' rb (m + 80000) ∧ Wrote B isRd w w' := by
  obtain ⟨l4, hl4, hP4⟩ := V2.packs hV
  rw [← hl4]
  exact l71Set_V B rb m a l4 cap room w h hm hP4 (by omega)
theorem steps_repo {B : Nat} {w : World} {v u0 u1 : Value} {n : Nat} {xs : List Value} {rs : Nat} (h : w.ownsRow B 43 3 v n xs) (hres : w.heap[rs]? = some (.cells #[u0, u1] 25 (0, 0))) (a b : Value) : ((w.setCell ⟨rs, 0, none⟩ a).setCell ⟨rs, 1, none⟩ b).ownsRow B 43 3 v n xs := by
  obtain ⟨h1, h2⟩ := h
  refine ⟨h1, h2.imp id ?_⟩
  rintro ⟨g, cap, cur, hv, hg, hc, r⟩
  have hne : g ≠ rs := fun e => by subst e; rw [hres] at hc; simp at hc
  exact ⟨g, cap, cur, hv, hg, ((blk_setCell_other _ _ _ _ hne).trans (blk_setCell_other _ _ _ _ hne)).trans hc, r⟩
/-- What DrawPlanOk answers. -/
def DrawnPlan (w w' : World) (e : Ending) : Prop := ∃ (v : Value) (room : Int) (u to_ q : Value), e = .returned (.tuple #[.agg #[v, .int .i64 room], u, to_, q]) ∧ V2 w.heap.size w' 60000 v ∧ (∃ set, RowI 0 w' u set ∧ set.length ≤ 200002) ∧ (∃ set, RowI 0 w' to_ set ∧ set.length ≤ 300000) ∧ ∃ ss : List StepD, w'.ownsRow 0 43 3 q ss.length (stepVs ss) ∧ ss.length ≤ 100

end Go.Proofs.Ytmjmcbmfleeolaf
