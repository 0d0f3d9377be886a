/- Health of a state, by bits. The program's states in form. The program's StateSize and StateOk. -/
import Derived.Test.YthkhaemlcmkkjasGStO
import Derived.Test.YthkhaemlcmkkjasGImpl
import Derived.Test.YthkhaemlcmkkjasGReg
import Derived.Test.YthkhaemlcmkkjasGStA
namespace Go.Proofs.Ythkhaemlcmkkjas
set_option linter.unusedVariables false
set_option linter.unusedSimpArgs false
open Go.RowKit Go.Deep

/-- A set of bits meets others. -/
def meetB (s n : Nat) : Bool := decide (s &&& n ≠ 0)
/-- What packs that are ok have. -/
structure OkL (l : List PackD) : Prop where
  l8 : l.length ≤ 8
  size : ∀ q, q < l.length → 0 ≤ (l.getD q dPack).size ∧ (l.getD q dPack).size ≤ 999
  ver : ∀ q, q < l.length → inB (l.getD q dPack).ver 0 99 = true
  reqs : ∀ q, q < l.length → (l.getD q dPack).deps.length ≤ 4 ∧ (l.getD q dPack).pres.length ≤ 4
theorem OkL.of {l : List PackD} {room : Int} (h : repoB ⟨l, room⟩ = true) : OkL l := by
  simp only [repoB, Bool.and_eq_true, decide_eq_true_eq] at h
  obtain ⟨⟨⟨h1, h2⟩, h3⟩, h4⟩ := h
  have hp : ∀ q, q < l.length → packB (l.getD q dPack) = true := fun q hq => List.all_eq_true.1 h3 _ (getD_mem hq)
  refine ⟨h1, fun q hq => ?_, fun q hq => ?_, fun q hq => ?_⟩
  · have := hp q hq
    simp only [packB, inB, reqsB, Bool.and_eq_true, decide_eq_true_eq] at this
    omega
  · have := hp q hq
    simp only [packB, Bool.and_eq_true] at this
    exact this.1.1.1.1.1.2
  · have := hp q hq
    simp only [packB, reqsB, Bool.and_eq_true, decide_eq_true_eq] at this
    exact ⟨this.1.1.1.2, this.1.2.1⟩
/-- A pack has all that it asks for. -/
def servedB (l : List PackD) (s p : Nat) : Bool := !meetB s (twN l p) && !meetB s (bnN l p) && ((l.getD p dPack).deps.map (rowN l)).all (meetB s)
/-- The room of a state, by bits. -/
def bitSize (l : List PackD) (s : Nat) : Int := sumP l (placesTo s 8) (placesTo s 8).length
def healthB (l : List PackD) (room : Int) (s : Nat) : Bool := decide (bitSize l s ≤ room) && (placesTo s 8).all (servedB l s)
end Go.Proofs.Ythkhaemlcmkkjas

namespace Go.Proofs.Ythkhaemlcmkkjas
set_option linter.unusedVariables false
set_option linter.unusedSimpArgs false
open Go.RowKit Go.Deep

/-- The bits of a state in form. -/
def setBits (set : List Int) : Nat := bitsOf (set.map Int.toNat)
/-- A variable ahead of the asks is written: they stay. -/
theorem AsksAt.var {l : List PackD} {v : Value} {x y : World} {rb B : Nat} (h : AsksAt x v l) (hf : AsksFrom B v l) (hg : x.grownBy y (some rb)) (hr : rb < B) : AsksAt y v l := by
  refine ⟨h.1, fun hn => ?_⟩
  obtain ⟨ag, ac, C, e1, e2, e3, e4⟩ := h.2 hn
  have hlt := hf hn ag ac e1
  exact ⟨ag, ac, C, e1, (hg.block ag (Array.getElem?_eq_some_iff.1 e2).1 (by simp; omega)).trans e2, e3, fun j hj => (e4 j hj).far hg (by omega)⟩

end Go.Proofs.Ythkhaemlcmkkjas

namespace Go.Proofs.Ythkhaemlcmkkjas
set_option linter.unusedVariables false
set_option linter.unusedSimpArgs false
open Go.RowKit Go.Deep

/-- A state in form ascends. -/
theorem form_asc {l : List PackD} {room : Int} {set : List Int} (h : formB l room set = true) : ∀ {i j : Nat}, i < j → j < set.length → set.getD i 0 < set.getD j 0 := by
  intro i j hij hj
  have step : ∀ k, 0 < k → k < set.length → set.getD (k - 1) 0 < set.getD k 0 := fun k hk hkl => by
    simp only [formB, Bool.and_eq_true] at h
    have := List.all_eq_true.1 h.1 k (List.mem_range.2 hkl)
    simp only [placeB, Bool.and_eq_true, Bool.or_eq_true, beq_iff_eq, decide_eq_true_eq] at this
    rcases this.2 with h0 | h0
    · omega
    · exact h0
  induction j with
  | zero => omega
  | succ j ih =>
    have h1 := step (j + 1) (by omega) hj
    simp only [Nat.add_sub_cancel] at h1
    rcases Nat.lt_or_ge i j with h2 | h2
    · exact Int.lt_trans (ih h2 (by omega)) h1
    · have : i = j := by omega
      subst this
      exact h1
theorem getD_map_toNat (set : List Int) (i : Nat) : (set.map Int.toNat).getD i 0 = (set.getD i 0).toNat := by
  simp only [List.getD, List.getElem?_map]
  cases set[i]? <;> rfl
theorem set_pairwise {l : List PackD} {room : Int} {set : List Int} (h : formB l room set = true) : (set.map Int.toNat).Pairwise (· < ·) := by
  rw [List.pairwise_iff_getElem]
  intro i j hi hj hij
  simp at hi hj
  have h1 := form_asc h hij hj
  have h2 := (form_place h hi).1
  simp [List.getD, hi, hj] at h1 h2
  simp
  omega
theorem form_l8 {l : List PackD} {room : Int} {set : List Int} (h : formB l room set = true) : l.length ≤ 8 := by
  simp only [formB, repoB, Bool.and_eq_true, decide_eq_true_eq] at h
  exact h.2.1.1.1
theorem form_ok {l : List PackD} {room : Int} {set : List Int} (h : formB l room set = true) : OkL l := by
  simp only [formB, Bool.and_eq_true] at h
  exact OkL.of h.2
theorem set_lt {l : List PackD} {room : Int} {set : List Int} (h : formB l room set = true) : ∀ x ∈ set.map Int.toNat, x < l.length := by
  intro x hx
  obtain ⟨z, hz, rfl⟩ := List.mem_map.1 hx
  obtain ⟨i, hi, rfl⟩ := List.getElem_of_mem hz
  have := form_place h hi
  simp [List.getD, hi] at this
  omega
/-- The places of the bits are the state. -/
theorem set_places {l : List PackD} {room : Int} {set : List Int} (h : formB l room set = true) : placesTo (setBits set) 8 = set.map Int.toNat := by
  unfold setBits
  exact places_bits _ (set_pairwise h) fun x hx => Nat.lt_of_lt_of_le (set_lt h x hx) (form_l8 h)
theorem sum_same (l : List PackD) (set : List Int) : ∀ k, sumP l (set.map Int.toNat) k = sumTo l set k
  | 0 => rfl
  | k + 1 => by
    simp only [sumP, sumTo, sum_same l set k, getD_map_toNat]
theorem size_bits {l : List PackD} {room : Int} {set : List Int} (h : formB l room set = true) : bitSize l (setBits set) = sumTo l set set.length := by
  unfold bitSize
  rw [set_places h, sum_same]
  simp

/-- Whether a state is healthy. -/
def okZ (l : List PackD) (room : Int) (set : List Int) : Bool := formB l room set && healthB l room (setBits set)

end Go.Proofs.Ythkhaemlcmkkjas
