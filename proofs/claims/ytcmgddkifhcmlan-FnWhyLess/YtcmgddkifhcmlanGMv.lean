/- Moves: what they are, and all that there might be. All moves that there might be. A move as it is told outside. What comes in and what goes out by a move. -/
import Derived.Test.YtcmgddkifhcmlanGSv
namespace Go.Proofs.Ytcmgddkifhcmlan
set_option linter.unusedVariables false
set_option linter.unusedSimpArgs false
open Go.RowKit Go.Deep

/-- A step, as it is told outside. -/
structure StepD where
  kind : Int
  inn : Int
  out : Int
/-- A move. -/
inductive MvD where
  | put (i : Nat)
  | take (o : Nat)
  | swap (i o : Nat)
def eqS (a b : StepD) : Bool := a.kind == b.kind && a.inn == b.inn && a.out == b.out
theorem eqS_iff (a b : StepD) : eqS a b = true ↔ a = b := by
  cases a; cases b
  simp [eqS, and_assoc]
def MvD.step : MvD → StepD
  | .put i => ⟨1, i, 0⟩
  | .take o => ⟨2, 0, o⟩
  | .swap i o => ⟨3, i, o⟩
def MvD.comes : MvD → Nat
  | .put i => 2 ^ i
  | .take _ => 0
  | .swap i _ => 2 ^ i
def MvD.goes : MvD → Nat
  | .put _ => 0
  | .take o => 2 ^ o
  | .swap _ o => 2 ^ o
def swapsAt (l : List PackD) (i : Nat) : List MvD := (placesTo (twN l i) 8).map fun j => .swap j i
def movesL (l : List PackD) : List MvD := (List.range l.length).map MvD.put ++ ((List.range l.length).map MvD.take ++ (List.range l.length).flatMap (swapsAt l))
theorem range_map_succ {α : Type} (f : Nat → α) (k : Nat) : (List.range (k + 1)).map f = (List.range k).map f ++ [f k] := by rw [List.range_succ, List.map_append]; rfl
theorem range_flat_succ {α : Type} (f : Nat → List α) (k : Nat) : (List.range (k + 1)).flatMap f = (List.range k).flatMap f ++ f k := by rw [List.range_succ, List.flatMap_append]; simp
theorem swaps_le (l : List PackD) (i : Nat) : (swapsAt l i).length ≤ 8 := by unfold swapsAt; rw [List.length_map]; exact places_le _ _
theorem flat_le (l : List PackD) : ∀ k, ((List.range k).flatMap (swapsAt l)).length ≤ 8 * k
  | 0 => by simp
  | k + 1 => by
    have := flat_le l k
    have := swaps_le l k
    rw [range_flat_succ, List.length_append]
    omega
theorem moves_le (l : List PackD) : (movesL l).length ≤ 10 * l.length := by
  have := flat_le l l.length
  unfold movesL
  simp only [List.length_append, List.length_map, List.length_range]
  omega
theorem twN_small (l : List PackD) (i : Nat) (hl : l.length ≤ 8) : twN l i < 65536 := by
  have h : twN l i < 2 ^ l.length := by
    apply Nat.lt_pow_two_of_testBit
    intro j hj
    unfold twN
    rw [test_bitsTo]
    have : decide (j < l.length) = false := by simpa using hj
    simp [this]
  have : 2 ^ l.length ≤ 2 ^ 8 := Nat.pow_le_pow_right (by omega) hl
  omega
end Go.Proofs.Ytcmgddkifhcmlan

namespace Go.Proofs.Ytcmgddkifhcmlan
set_option linter.unusedVariables false
set_option linter.unusedSimpArgs false
open Go.RowKit Go.Deep

theorem row_ty {w : World} {B : Nat} {e : TypeId} {s : Nat} {v : Value} {n : Nat} {xs : List Value} (h : w.ownsRow B e s v n xs) (g : Nat) (hg : v.ownBlock = some g) : ∃ c, w.heap[g]? = some (.cells c e (0, 0)) := by
  rcases h.2 with ⟨hv, _⟩ | ⟨g', cap, cur, hv, _, hc, _⟩
  · rw [hv] at hg; cases hg
  · rw [hv] at hg
    simp [Value.ownBlock] at hg
    subst hg
    exact ⟨cur, hc⟩
theorem row_down {B B' : Nat} {w : World} {e : TypeId} {s : Nat} {v : Value} {n : Nat} {xs : List Value} (h : w.ownsRow B e s v n xs) (hb : B' ≤ B) : w.ownsRow B' e s v n xs := by
  obtain ⟨h1, h2⟩ := h
  refine ⟨h1, h2.imp id ?_⟩
  rintro ⟨g, cap, cur, hv, hg, r⟩
  exact ⟨g, cap, cur, hv, Nat.le_trans hb hg, r⟩
theorem row_other {w w' : World} {B : Nat} {e : TypeId} {s : Nat} {u : Value} {n : Nat} {xs : List Value} {r : Option Nat} (h : w.ownsRow B e s u n xs) (hg : w.grownBy w' r) (hne : ∀ g, u.ownBlock = some g → r ≠ some g) : w'.ownsRow B e s u n xs := by
  obtain ⟨h1, h2⟩ := h
  refine ⟨h1, h2.imp id ?_⟩
  rintro ⟨g, cap, cur, hv, hg2, hc, r⟩
  refine ⟨g, cap, cur, hv, hg2, ?_, r⟩
  rw [hg.block g (Array.getElem?_eq_some_iff.1 hc).1 (fun e => hne g (by rw [hv]; rfl) e.symm)]
  exact hc
theorem row_types {w w' : World} {B B' : Nat} {e e' : TypeId} {s s' : Nat} {u v : Value} {n n' : Nat} {xs ys : List Value} (h : w.ownsRow B e s u n xs) (hv : w.ownsRow B' e' s' v n' ys) (hne : e ≠ e') (hg : w.grownBy w' v.ownBlock) : w'.ownsRow B e s u n xs :=
  row_other h hg fun g hu hvg => by
    obtain ⟨c, h1⟩ := row_ty h g hu
    obtain ⟨c', h2⟩ := row_ty hv g hvg
    rw [h1] at h2
    simp at h2
    exact hne h2.2
theorem nums_cell {w : World} {B : Nat} {v : Value} {l : List Nat} (h : w.ownsRow B 3 1 v l.length (natVs l)) {j : Nat} (hj : j < l.length) : ∃ g cap, v = .slice (some ⟨g, 0, none⟩) l.length cap ∧ g < w.heap.size ∧ w.cell? ⟨g, j, none⟩ = some (.int .i64 ((l.getD j 0 : Nat) : Int)) := by
  rcases h.2 with ⟨hv, h0⟩ | ⟨g, cap, cur, hv, _, hc, _, _, hsz, hx⟩
  · omega
  · refine ⟨g, cap, hv, (Array.getElem?_eq_some_iff.1 hc).1, ?_⟩
    rw [cell_of_row w g j cur _ _ hc]
    have : (cur.toList.take (l.length * 1))[j]? = (natVs l)[j]? := by rw [hx]
    rw [List.getElem?_take, if_pos (by omega)] at this
    simp [natVs, List.getD, hj] at this ⊢
    exact this

end Go.Proofs.Ytcmgddkifhcmlan

namespace Go.Proofs.Ytcmgddkifhcmlan
set_option linter.unusedVariables false
set_option linter.unusedSimpArgs false
open Go.RowKit Go.Deep

def stepV (s : StepD) : Value := .agg #[.int .i64 s.kind, .int .i64 s.inn, .int .i64 s.out]
end Go.Proofs.Ytcmgddkifhcmlan

namespace Go.Proofs.Ytcmgddkifhcmlan
set_option linter.unusedVariables false
set_option linter.unusedSimpArgs false
open Go.RowKit Go.Deep

def MvD.fine (m : MvD) : Prop := match m with
  | .put i => i < 16
  | .take o => o < 16
  | .swap i o => i < 16 ∧ o < 16
theorem first_below (w : World) (o : Obj) : Below w.heap.size w (w.alloc o) := (Below.refl _ _).alloc (Nat.le_refl _) _
theorem fine_bits {m : MvD} (hm : m.fine) : m.goes < 65536 ∧ m.comes < 65536 := by
  cases m with
  | put i => exact ⟨by show 0 < 65536; omega, pow_small i hm⟩
  | take o => exact ⟨pow_small o hm, by show 0 < 65536; omega⟩
  | swap i o => exact ⟨pow_small o hm.2, pow_small i hm.1⟩
def outN (s g : Nat) : Nat := s &&& (18446744073709551615 - g)
theorem outN_lt {s g : Nat} (h : s < 65536) : outN s g < 65536 := Nat.lt_of_le_of_lt Nat.and_le_left h
def behindN (s : Nat) (m : MvD) : Nat := outN s m.goes ||| m.comes
theorem or_lt {a b : Nat} (ha : a < 65536) (hb : b < 65536) : a ||| b < 65536 := Nat.or_lt_two_pow (n := 16) ha hb
theorem behindN_lt {s : Nat} {m : MvD} (h : s < 65536) (hm : m.fine) : behindN s m < 65536 := or_lt (outN_lt h) (fine_bits hm).2
end Go.Proofs.Ytcmgddkifhcmlan
