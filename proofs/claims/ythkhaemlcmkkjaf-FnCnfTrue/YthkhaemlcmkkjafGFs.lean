/- A search in memory: its choices and its refutation beside what is known; the program's choose, takeBack. The program's takeBack, turn. Behind choices that cannot be the last one is made the other way: the program's turn. -/
import Derived.Test.YthkhaemlcmkkjafGFu
import Derived.Test.YthkhaemlcmkkjafGDcn
import Derived.BigRegion
namespace Go.Proofs.Ythkhaemlcmkkjaf
set_option linter.unusedVariables false
set_option linter.unusedSimpArgs false
open Go.RowKit Go.Deep

theorem own_kept {w w' : World} {B sz n : Nat} {e : TypeId} {v : Value} {xs : List Value} (h : w.ownsRow B e sz v n xs) (hb : ∀ g, v.ownBlock = some g → w'.heap[g]? = w.heap[g]?) : w'.ownsRow B e sz v n xs := by
  refine ⟨h.1, h.2.imp id ?_⟩
  rintro ⟨g, cap, cur, hv, hB, hc, r⟩
  exact ⟨g, cap, cur, hv, hB, (hb g (by rw [hv]; rfl)).trans hc, r⟩
theorem own_type {w : World} {B sz n : Nat} {e : TypeId} {v : Value} {xs : List Value} (h : w.ownsRow B e sz v n xs) {g : Nat} (hg : v.ownBlock = some g) : ∃ cur, w.heap[g]? = some (.cells cur e (0, 0)) := by
  rcases h.2 with ⟨hv, _⟩ | ⟨g', cap, cur, hv, hB, hc, r⟩
  · rw [hv] at hg; cases hg
  · rw [hv] at hg
    simp only [Value.ownBlock, Option.some.injEq] at hg
    exact ⟨cur, by rw [← hg]; exact hc⟩
theorem own_other {w : World} {B sz n B2 sz2 n2 : Nat} {e e2 : TypeId} {v v2 : Value} {xs xs2 : List Value} (h : w.ownsRow B e sz v n xs) (h2 : w.ownsRow B2 e2 sz2 v2 n2 xs2) (he : e ≠ e2) {g : Nat} (hg : v.ownBlock = some g) : some g ≠ v2.ownBlock := fun e' => by
  obtain ⟨c1, h1⟩ := own_type h hg
  obtain ⟨c2, h3⟩ := own_type h2 e'.symm
  rw [h1] at h3
  simp only [Option.some.injEq, Obj.cells.injEq] at h3
  exact he h3.2.1
theorem lst_kept {B : Nat} {w w' : World} {v : Value} {l : List (List Int)} {vs : List Value} (h : LstI B w v l vs) (h1 : ∀ g, v.ownBlock = some g → w'.heap[g]? = w.heap[g]?) (h2 : ∀ i g, i < l.length → (vs.getD i undef).ownBlock = some g → w'.heap[g]? = w.heap[g]?) : LstI B w' v l vs :=
  ⟨h.len, own_kept h.own h1, fun i hi => own_kept (h.row i hi) (h2 i · hi), h.apart⟩
/-- The marks of choices, the last one first. -/
def mkR : List LvD → List (Nat × List Int)
  | [] => []
  | d :: r => (d.m, litsOf r.reverse) :: mkR r
section
variable {w0 : World} {cb : Nat} {C : Array Value} {w w' : World} {F : Nat} {rl rl' : Rl} {S S' : FSt} {V V' : FV} {r : List LvD} {P : List (List Int)}
theorem own_lt {w : World} {B sz n : Nat} {e : TypeId} {v : Value} {xs : List Value} (h : w.ownsRow B e sz v n xs) {g : Nat} (hg : v.ownBlock = some g) : g < w.heap.size := (World.ownsRow.lt h g hg).2
theorem FAt.setX {w : World} {B F : Nat} {rl : Rl} {x : Option Role} {S : FSt} {V : FV} (h : FAt w B F rl x S V) {i : Nat} (hi : 1205 ≤ i) (v : Value) : FAt (w.setCell ⟨F, i, none⟩ v) B F rl x S V := by
  have c := h.cells
  refine h.setF i v ⟨fun u hu => ?_, ?_, ?_, ?_, fun l h1 h2 => ?_, fun j => ?_⟩ h.rows
  · rw [setF_other (by omega)]; exact c.kn u hu
  · rw [setF_other (by omega)]; exact c.tc
  · rw [setF_other (by omega)]; exact c.ac
  · rw [setF_other (by omega)]; exact c.cc
  · rw [setF_other (by unfold wPlace; omega)]; exact c.wc l h1 h2
  · rw [setF_frozen]; exact c.fz j
theorem fresh_role {w : World} {B F : Nat} {rl : Rl} {x : Option Role} {S : FSt} {V : FV} (h : FAt w B F rl x S V) {g : Nat} (hg : w.heap.size ≤ g) : rl g = none := by
  cases e : rl g with
  | none => rfl
  | some q => have := (h.low g q e).2; omega
end
end Go.Proofs.Ythkhaemlcmkkjaf

namespace Go.Proofs.Ythkhaemlcmkkjaf
set_option linter.unusedVariables false
set_option linter.unusedSimpArgs false
open Go.RowKit Go.Deep

end Go.Proofs.Ythkhaemlcmkkjaf

namespace Go.Proofs.Ythkhaemlcmkkjaf
set_option linter.unusedVariables false
set_option linter.unusedSimpArgs false
open Go.RowKit Go.Deep

/-- How much is left to try behind choices. -/
def wt1 (x : Int) : Nat := if x < 0 then 2 else 1
def wtS (st : List Int) : Nat := (st.map wt1).sum
theorem wtS_cons (x : Int) (st : List Int) : wtS (x :: st) = wt1 x + wtS st := by simp [wtS]
/-- Choices are of different variables. -/
def GoodC (vars : Nat) (st : List Int) : Prop := (st.map Int.natAbs).Nodup ∧ ∀ x, x ∈ st → x ≠ 0 ∧ -(vars : Int) ≤ x ∧ x ≤ vars
theorem GoodC.len {vars : Nat} {st : List Int} (h : GoodC vars st) : st.length ≤ vars := by
  have hp : ∀ l : List Nat, l.Nodup → (∀ x, x ∈ l → 0 < x) → (l.map (· - 1)).Nodup := fun l => by
    induction l with
    | nil => intro _ _; exact List.nodup_nil
    | cons x l ih =>
      intro hd hs
      rw [List.nodup_cons] at hd
      rw [List.map_cons, List.nodup_cons]
      refine ⟨fun hm => ?_, ih hd.2 (fun y hy => hs y (by simp [hy]))⟩
      obtain ⟨y, hy, e⟩ := List.mem_map.1 hm
      have h1 := hs x (by simp)
      have h2 := hs y (by simp [hy])
      have : y = x := by omega
      rw [this] at hy
      exact hd.1 hy
  have h1 := nodup_len vars ((st.map Int.natAbs).map (· - 1)) (hp _ h.1 (fun x hx => by
    obtain ⟨y, hy, rfl⟩ := List.mem_map.1 hx
    have := (h.2 y hy).1
    omega)) (fun x hx => by
    obtain ⟨z, hz, rfl⟩ := List.mem_map.1 hx
    obtain ⟨y, hy, rfl⟩ := List.mem_map.1 hz
    have := h.2 y hy
    omega)
  simpa using h1
theorem GoodC.tail {vars : Nat} {x : Int} {st : List Int} (h : GoodC vars (x :: st)) : GoodC vars st := ⟨(List.nodup_cons.1 h.1).2, fun y hy => h.2 y (by simp [hy])⟩
theorem GoodC.flip {vars : Nat} {x : Int} {st : List Int} (h : GoodC vars (x :: st)) : GoodC vars (-x :: st) := by
  refine ⟨by have := h.1; simpa using this, fun y hy => ?_⟩
  rcases List.mem_cons.1 hy with rfl | hy
  · have := h.2 x (by simp); omega
  · exact h.2 y (by simp [hy])
theorem lits_rev (r : List LvD) : litsOf r.reverse = (litsOf r).reverse := by simp [litsOf, List.map_reverse]
theorem lits_len (r : List LvD) : (litsOf r).length = r.length := by simp [litsOf]
/-- The weights of the choices in memory. -/
def lvW (F : Nat) (w : World) : Nat := match w.cell? ⟨F, 1205, none⟩ with
  | some (.slice (some ad) n _) => ((List.range n).map fun i => match w.cell? ⟨ad.block, i * 2, none⟩ with
    | some (.int _ z) => wt1 z
    | _ => 0).sum
  | _ => 0
theorem sum_range {α : Type} (l : List α) (f : α → Nat) (g : Nat → Nat) (h : ∀ i a, l[i]? = some a → g i = f a) : ((List.range l.length).map g).sum = (l.map f).sum := by
  congr 1
  apply List.ext_getElem?
  intro i
  by_cases hi : i < l.length
  · rw [List.getElem?_map, List.getElem?_map, List.getElem?_range hi, List.getElem?_eq_getElem hi]
    simp only [Option.map_some]
    rw [h i l[i] (List.getElem?_eq_getElem hi)]
  · rw [List.getElem?_eq_none (by simp; omega), List.getElem?_eq_none (by simp; omega)]
/-- The class of worlds while a clause comes to the refutation. -/
structure CR (w : World) (B F : Nat) (pv : Value) (n : Nat) (vs : List Value) (c : List Int) (b : Bool) (us : List Value) (x : World) : Prop where
  cell : x.cell? ⟨F, 1206, none⟩ = some pv
  fz : x.frozen? ⟨F, 1206, none⟩ = false
  zero : us = [] → Below w.heap.size w x
  one : ∀ u, us = [u] → Below w.heap.size w x ∧ RowI w.heap.size x u c
  two : ∀ u v, us = [u, v] → Below w.heap.size w x ∧ RowI w.heap.size x u c ∧ ∃ g, v = .slice (some ⟨g, 0, none⟩) 1 1 ∧ x.heap[g]? = some (.cells #[u] 26 (0, 0))
  three : ∀ u v q, us = [u, v, q] → ∃ x1, Below w.heap.size w x1 ∧ RowI w.heap.size x1 u c ∧ x1.grownBy x pv.ownBlock ∧ x.ownsRow B 26 1 q (n + 1) (vs ++ [u]) ∧ (q.ownBlock = pv.ownBlock ∨ q.ownBlock = some x1.heap.size)
theorem CR.flag {w : World} {B F : Nat} {pv : Value} {n : Nat} {vs : List Value} {c : List Int} {b b' : Bool} {us : List Value} {x : World} (h : CR w B F pv n vs c b us x) : CR w B F pv n vs c b' us x := ⟨h.cell, h.fz, h.zero, h.one, h.two, h.three⟩
end Go.Proofs.Ythkhaemlcmkkjaf
