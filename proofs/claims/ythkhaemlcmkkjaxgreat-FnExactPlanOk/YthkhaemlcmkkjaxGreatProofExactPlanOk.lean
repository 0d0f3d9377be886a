/- Proved: at every packs, numbers, numbers and steps whatever, FnExactPlanOk (PlanOk answers as its model, and writes into no argument) returns true, and its arguments read behind the call as they read before. No condition. -/
import Derived.Test.YthkhaemlcmkkjaxGreatRows
import Derived.Test.YthkhaemlcmkkjaxGreatLawExactPlanOk
import Derived.Test.YthkhaemlcmkkjaxGreatOpen
import Derived.Test.YthkhaemlcmkkjaxGreatOpenI
import Derived.Test.YthkhaemlcmkkjaxGreatOpenS
import Derived.ShutString
import Derived.Below
namespace Go.Proofs.YthkhaemlcmkkjaxGreat.exactPlanOk
set_option linter.unusedVariables false
set_option linter.unusedSimpArgs false
open Go.ChangeShapes Go.WideShapes Go.ChangeAt Go.RowKit Go.Joins
set_option linter.unusedVariables false

theorem own : ownKnob Tryz.prog.godebug = none := by kernel_rfl
theorem laidOut : laidOutB Tryz.prog = true := by kernel_rfl

set_option maxRecDepth 100000 in
theorem lifted (os : Os) (started : os.Started) (H : Type) (enc : TypeId × Value → H) :
    ReturnsInHanded {} Tryz.checked os 5 .any (Rows.fnExactPlanOkSpec.pre6 enc Tryz.prog Tryz.f5 Rows.fnExactPlanOkRow.domain false) (Rows.fnExactPlanOkSpec.post enc Tryz.prog Tryz.f5 false true false false) := by
  refine returnsInHanded_of_change (C := Tryz.checked) own started (by kernel_rfl) Tryz.func5
    (ChangeSpec.witness6 (enc := enc) (C := Tryz.checked) false ⟨#[], #[.agg #[.slice none 0 0, .int .i64 0], .slice none 0 0, .slice none 0 0, .slice none 0 0], []⟩ 8 (by kernel_rfl) (by kernel_rfl) (by kernel_rfl) (by kernel_rfl)) ?_
  intro W base args ds gs before hval0 hW hcnd _
  have hval : ∀ (j : Nat) t v, Tryz.f5.params[j]? = some t → args[j]? = some v → Value.okWide Tryz.prog W .any base t v := hval0
  have hW' := hW
  obtain ⟨p, q, hA0, hV, rfl, hfz, hnd⟩ := hW
  have hA : DataW.TrodAll enc Tryz.prog W 0 (fun _ => true) true Tryz.f5.params.toList args.toList ds p := hA0
  rw [Tryz.params5] at hA hval
  obtain ⟨v0, vs0, d0, ds0, p0, q0, hargs, rfl, rfl, h0, r0⟩ := trodAll_cons hA
  obtain ⟨v1, vs1, d1, ds1, p1, q1, rfl, rfl, rfl, h1, r1⟩ := trodAll_cons r0
  obtain ⟨v2, vs2, d2, ds2, p2, q2, rfl, rfl, rfl, h2, r2⟩ := trodAll_cons r1
  obtain ⟨v3, vs3, d3, ds3, p3, q3, rfl, rfl, rfl, h3, r3⟩ := trodAll_cons r2
  obtain ⟨rfl, rfl, rfl⟩ := trodAll_nil r3
  obtain rfl : args = #[v0, v1, v2, v3] := by cases args; simp_all
  obtain ⟨rfl, rfl⟩ := trodVars_none hV
  have k0 := h0
  have k1 := h1
  have k2 := h2
  have k3 := h3
  have lt0 : ∀ x ∈ p0, x.block < W.heap.size := by obtain ⟨m, hm⟩ := k0; exact DataW.trod_lt m _ _ _ hm
  have lt1 : ∀ x ∈ p1, x.block < W.heap.size := by obtain ⟨m, hm⟩ := k1; exact DataW.trod_lt m _ _ _ hm
  have lt2 : ∀ x ∈ p2, x.block < W.heap.size := by obtain ⟨m, hm⟩ := k2; exact DataW.trod_lt m _ _ _ hm
  have lt3 : ∀ x ∈ p3, x.block < W.heap.size := by obtain ⟨m, hm⟩ := k3; exact DataW.trod_lt m _ _ _ hm
  obtain ⟨u0, u1, y0, y1, m, hv, _, _, ht0, ht1⟩ := open_agg2 Tryz.underlying24 (by kernel_rfl) Tryz.cellsLRepo (hval 0 24 v0 rfl rfl) h0
  obtain ⟨a, l, cap, hu0, hl⟩ := open_packs ht0
  obtain ⟨room, hu1, _, _⟩ := DataW.trod_int Tryz.underlying3 ht1
  simp at hu1
  obtain ⟨sa0, sl0, sc0, rfl⟩ := okWide_slice Tryz.underlying25 (hval 1 25 v1 rfl rfl)
  obtain ⟨m1, hm1⟩ := h1
  obtain ⟨sa, set, sc, he, hsl, hset⟩ := open_ints hm1
  simp at he
  obtain ⟨rfl, rfl, rfl⟩ := he
  obtain ⟨ra0, rl0, rc0, rfl⟩ := okWide_slice Tryz.underlying25 (hval 2 25 v2 rfl rfl)
  obtain ⟨m2, hm2⟩ := h2
  obtain ⟨ra, too, rc, he2, hrl, hrset⟩ := open_ints hm2
  simp at he2
  obtain ⟨rfl, rfl, rfl⟩ := he2
  obtain ⟨ta0, tl0, tc0, rfl⟩ := okWide_slice Tryz.underlying43 (hval 3 43 v3 rfl rfl)
  obtain ⟨m3, hm3⟩ := h3
  obtain ⟨ta, ss, tc, he3, hts1, hts⟩ := open_steps hm3
  simp at he3
  obtain ⟨rfl, rfl, rfl⟩ := he3
  subst hu0 hu1 hv
  clear hA0 hval0
  refine (law_any a l cap room sa0 set sc0 ra0 too rc0 ta0 ss tc0 W hl hsl hset hrl hrset hts1 hts).mono fun e W' ⟨he, bel⟩ => ?_
  subst he
  exact ⟨_, rfl, _, _, _, [], _, [], hW', trodAll_mk1 (shut_bool Tryz.underlying4 _), (trodAll_cons_mk (Below.trod laidOut (by kernel_rfl) (of_decide_eq_true (by kernel_rfl)) k0 bel lt0) (trodAll_cons_mk (Below.trod laidOut (by kernel_rfl) (of_decide_eq_true (by kernel_rfl)) k1 bel lt1) (trodAll_cons_mk (Below.trod laidOut (by kernel_rfl) (of_decide_eq_true (by kernel_rfl)) k2 bel lt2) (trodAll_cons_mk (Below.trod laidOut (by kernel_rfl) (of_decide_eq_true (by kernel_rfl)) k3 bel lt3) trodAll_mk0)))), rfl, bel.frame _, fun h => by cases h⟩

theorem over : Rows.fnExactPlanOkRow.holds Tryz.pinned (OpenSpec.ofChange Rows.fnExactPlanOkSpec) :=
  OpenClaim.holds_of_wide 5 Tryz.f5 rfl rfl rfl rfl rfl rfl rfl ⟨rfl, rfl, rfl, rfl, rfl⟩ rfl rfl rfl rfl rfl (by kernel_rfl) Tryz.func5 (by kernel_rfl)
    (of_decide_eq_true (by kernel_rfl)) (by unfold Func.isWrapper; first | (rw [if_pos (by decide +kernel)]; kernel_rfl) | (rw [if_neg (by decide +kernel)]; exact ⟨rfl, rfl⟩))
    (fun os started H enc _ => lifted os started H enc)

end Go.Proofs.YthkhaemlcmkkjaxGreat.exactPlanOk
namespace Go.Proofs.YthkhaemlcmkkjaxGreat
theorem exactPlanOk_holds : Rows.FnExactPlanOkSaid := exactPlanOk.over
#print axioms exactPlanOk_holds
end Go.Proofs.YthkhaemlcmkkjaxGreat
