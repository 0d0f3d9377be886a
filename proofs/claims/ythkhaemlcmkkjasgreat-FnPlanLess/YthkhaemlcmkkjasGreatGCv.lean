/- The room of drawn packs' rows. DrawStepDo: the drawn packs, a drawn state and a drawn step. -/
import Derived.Test.YthkhaemlcmkkjasGreatGDrawK
import Derived.Test.YthkhaemlcmkkjasGreatGSp
import Derived.Test.YthkhaemlcmkkjasGreatGDrawS
import Derived.Test.YthkhaemlcmkkjasGreatSpF
import Derived.Test.YthkhaemlcmkkjasGreatGStL
import Derived.Test.YthkhaemlcmkkjasGreatGRn
import Derived.Test.YthkhaemlcmkkjasGreatGReg
namespace Go.Proofs.YthkhaemlcmkkjasGreat
set_option linter.unusedVariables false
set_option linter.unusedSimpArgs false
open Go.RowKit Go.Deep

theorem V2.caps {s N c : Nat} {w : World} {a : Option Addr} {l : List PackD} (h : V2 s w N (.slice a l.length c)) (hP : PacksAt (Old w) w a l) : CapsAt w a l := fun b o ha i hi => by
  obtain ⟨g, C, e, _⟩ := SlBy.addr h (show 0 < l.length by omega)
  subst ha
  simp at e
  obtain ⟨rfl, rfl⟩ := e
  rcases hP.2 with hnil | ⟨b', o', e, hS, hpk⟩
  · rw [hnil] at hi; simp at hi
  simp at e
  obtain ⟨rfl, rfl⟩ := e
  obtain ⟨a1, d1, a2, d2, a3, d3, hce, hpv⟩ := hpk i hi
  have n4 := hce.pres
  obtain ⟨x, y, z, v1, v2, v3, k0, k1, k2, k3, k4, k5, hQ⟩ := V2.pack h hi
  obtain ⟨a2', n2, c2, e2, h1, _, h3⟩ := SlBy.slice hQ.pres
  rw [Nat.zero_add] at n4
  rw [k4, e2] at n4
  simp at n4
  obtain ⟨rfl, rfl, rfl⟩ := n4
  refine ⟨hS, a2', c2, ?_, h1, h3⟩
  rw [Nat.zero_add, k4, e2]
  rfl
end Go.Proofs.YthkhaemlcmkkjasGreat

namespace Go.Proofs.YthkhaemlcmkkjasGreat
set_option linter.unusedVariables false
set_option linter.unusedSimpArgs false
open Go.RowKit Go.Deep

def stepCells (s : StepD) : Obj := .cells #[.int .i64 s.kind, .int .i64 s.inn, .int .i64 s.out] 50 (0, 0)
theorem stepNotRd : (50 : TypeId) ≠ 70 := by decide
theorem steps_wrote {B B' : Nat} {w w' : World} {v : Value} {n : Nat} {xs : List Value} (h : w.ownsRow B 50 3 v n xs) (hw : Wrote B' isRd w w') : w'.ownsRow B 50 3 v n xs := by
  obtain ⟨h1, h2⟩ := h
  refine ⟨h1, h2.imp id ?_⟩
  rintro ⟨g, cap, cur, hv, hg, hc, r⟩
  exact ⟨g, cap, cur, hv, hg, (hw.other ⟨cur, hc⟩ stepNotRd).trans hc, r⟩
theorem V2.kept {s N : Nat} {W x : World} {v : Value} (h : V2 s W N v) (keep : ∀ (b : Nat) (t : TypeId), CellsOf W b t → t ≠ 25 → t ≠ 70 → x.heap[b]? = W.heap[b]?) : V2 s x N v := by
  have g0 : ∀ b n, G0 s W b n → G0 s x b n := fun b n h => GoodBy.mono h (keep _ _ (GoodBy.cells h) (by decide) (by decide)) fun _ _ h => h
  have g1 : ∀ b n, G1 s W N b n → G1 s x N b n := fun b n h => GoodBy.mono h (keep _ _ (GoodBy.cells h) (by decide) (by decide)) fun _ _ h => SlBy.mono h g0 (Nat.le_refl _)
  exact SlBy.mono h (fun b n h => GoodBy.mono h (keep _ _ (GoodBy.cells h) (by decide) (by decide)) fun _ _ h => ⟨h.name, h.nums, fun e => SlBy.mono (h.deps e) g1 (Nat.le_refl _), fun e => SlBy.mono (h.reqs e) g0 (Nat.le_refl _)⟩) (Nat.le_refl _)
section
variable {W x y : World} {B rb rs n : Nat} {m : Int}
theorem Rd.repo {a : Option Addr} {k c : Nat} {r : Int} (h : Rd B x rb m) (hres : x.heap[rs]? = some (repoCells (.slice a k c) r)) (hne : rs ≠ rb) (u v : Value) : Rd B ((x.setCell ⟨rs, 0, none⟩ u).setCell ⟨rs, 1, none⟩ v) rb m := by
  have ho : ∀ b, b ≠ rs → ((x.setCell ⟨rs, 0, none⟩ u).setCell ⟨rs, 1, none⟩ v).heap[b]? = x.heap[b]? := fun b hb => (blk_setCell_other _ _ _ _ hb).trans (blk_setCell_other _ _ _ _ hb)
  obtain ⟨hB, a', n', c', p, hh, h0, h1, h2, hc⟩ := h
  refine ⟨hB, a', n', c', p, (ho rb (fun e => hne e.symm)).trans hh, h0, h1, h2, ?_⟩
  rcases hc with hc | ⟨b, o, ha, hb1, hb2, hc⟩
  · exact Or.inl hc
  · by_cases hn : n' = 0
    · exact Or.inl hn
    · have hb : b ≠ rs := fun e => by
        subst e
        obtain ⟨z, hz, _⟩ := hc 0 (by omega)
        simp only [World.cell?, hres, repoCells] at hz
        match o with
        | 0 => simp at hz
        | 1 => simp at hz
        | o + 2 => simp at hz
      refine Or.inr ⟨b, o, ha, hb1, by simpa [nblk_setCell] using hb2, fun i hi => ?_⟩
      obtain ⟨z, hz⟩ := hc i hi
      exact ⟨z, by rw [World.cell?_of_block (w := x) (a := ⟨b, o + i, none⟩) (ho b hb)]; exact hz⟩
end
end Go.Proofs.YthkhaemlcmkkjasGreat
