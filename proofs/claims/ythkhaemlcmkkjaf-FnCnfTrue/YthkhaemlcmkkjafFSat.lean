/- The first model, or a refutation: the program's SatFind. -/
import Derived.Test.YthkhaemlcmkkjafGFs
import Derived.Test.YthkhaemlcmkkjafGDcn
namespace Go.Proofs.Ythkhaemlcmkkjaf
set_option linter.unusedVariables false
set_option linter.unusedSimpArgs false
open Go.RowKit Go.Deep

/-- What SatFind answers, in memory. -/
def SatOut (B : Nat) (w' : World) (R : SatR) (e : Ending) : Prop := ∃ mv pv vs, e = .returned (.tuple #[.int .i64 R.1, mv, pv]) ∧ w'.ownsRow B 4 1 mv R.2.1.length (bV R.2.1) ∧ LstI B w' pv R.2.2 vs
theorem SatOut.none {B : Nat} {w' : World} {R : SatR} {k : Int} (h : R = (k, [], [])) : SatOut B w' R (.returned (.tuple #[.int .i64 k, .slice none 0 0, .slice none 0 0])) := by
  subst h
  exact ⟨_, _, [], rfl, World.ownsRow_nil _ _ _ _, LstI.zero _ _⟩
theorem lst_base {B B' : Nat} {w : World} {v : Value} {l : List (List Int)} {vs : List Value} (h : LstI B w v l vs) (hb : B' ≤ B) : LstI B' w v l vs := ⟨h.len, own_mono h.own hb, fun i hi => own_mono (h.row i hi) hb, h.apart⟩
/-- The first choice of a variable. -/
theorem good_more {vars : Nat} {st : List Int} {K : Nat → Int} {tr : List Int} (h : GoodC vars st) (ht : TrailK vars K tr) (hs : ∀ x, x ∈ st → x ∈ tr) {v : Nat} (hv0 : v ≠ 0) (hv : v ≤ vars) (hk : K v = 0) : GoodC vars (-(v : Int) :: st) := by
  refine ⟨?_, fun x hx => ?_⟩
  · rw [List.map_cons, List.nodup_cons]
    refine ⟨fun hm => ?_, h.1⟩
    obtain ⟨x, hx, e⟩ := List.mem_map.1 hm
    rw [Int.natAbs_neg, Int.natAbs_natCast] at e
    have hxm := hs x hx
    have h1 := (ht.mem x (ht.rng x hxm).1).2 hxm
    unfold valK at h1
    rw [e, hk] at h1
    split at h1 <;> omega
  · rcases List.mem_cons.1 hx with rfl | hx
    · omega
    · exact h.2 x hx

end Go.Proofs.Ythkhaemlcmkkjaf
