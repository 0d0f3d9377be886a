/- Health of a state, by bits. The program's states in form. The program's StateSize and StateOk. -/
import Derived.Test.YthkhaemlcmkkjaxGreatGStO
import Derived.Test.YthkhaemlcmkkjaxGreatGImpl
import Derived.Test.YthkhaemlcmkkjaxGreatGReg
import Derived.Test.YthkhaemlcmkkjaxGreatGStA
namespace Go.Proofs.YthkhaemlcmkkjaxGreat
set_option linter.unusedVariables false
set_option linter.unusedSimpArgs false
open Go.RowKit Go.Deep

/-- A set of bits meets others. -/
def meetB (s n : Nat) : Bool := decide (s &&& n ≠ 0)
/-- What packs that are ok have. -/
structure OkL (l : List PackD) : Prop where
  l8 : l.length ≤ 8
  size : ∀ q, q < l.length → 0 ≤ (l.getD q dPack).size ∧ (l.getD q dPack).size ≤ 999
  ver : ∀ q, q < l.length → inB (l.getD q dPack).ver 0 99 = true
  reqs : ∀ q, q < l.length → (l.getD q dPack).deps.length ≤ 4 ∧ (l.getD q dPack).pres.length ≤ 4
theorem OkL.of {l : List PackD} {room : Int} (h : repoB ⟨l, room⟩ = true) : OkL l := by
  simp only [repoB, Bool.and_eq_true, decide_eq_true_eq] at h
  obtain ⟨⟨⟨h1, h2⟩, h3⟩, h4⟩ := h
  have hp : ∀ q, q < l.length → packB (l.getD q dPack) = true := fun q hq => List.all_eq_true.1 h3 _ (getD_mem hq)
  refine ⟨h1, fun q hq => ?_, fun q hq => ?_, fun q hq => ?_⟩
  · have := hp q hq
    simp only [packB, inB, reqsB, Bool.and_eq_true, decide_eq_true_eq] at this
    omega
  · have := hp q hq
    simp only [packB, Bool.and_eq_true] at this
    exact this.1.1.1.1.1.2
  · have := hp q hq
    simp only [packB, reqsB, Bool.and_eq_true, decide_eq_true_eq] at this
    exact ⟨this.1.1.1.2, this.1.2.1⟩
theorem twN_lt {l : List PackD} (hl : l.length ≤ 8) (i : Nat) : twN l i < 65536 := by
  have h1 := bitsTo_lt (fun j => fitsB ⟨(l.getD i dPack).name, 0, 99⟩ (l.getD j dPack) && decide (j ≠ i)) l.length
  have h2 : 2 ^ l.length ≤ 2 ^ 8 := Nat.pow_le_pow_right (by omega) hl
  unfold twN
  omega
theorem bnN_lt {l : List PackD} (hl : l.length ≤ 8) (i : Nat) : bnN l i < 65536 := by
  have h1 := bitsTo_lt (fun j => anyB (l.getD i dPack).bans (l.getD j dPack) && decide (j ≠ i)) l.length
  have h2 : 2 ^ l.length ≤ 2 ^ 8 := Nat.pow_le_pow_right (by omega) hl
  unfold bnN
  omega
/-- A pack has all that it asks for. -/
def servedB (l : List PackD) (s p : Nat) : Bool := !meetB s (twN l p) && !meetB s (bnN l p) && ((l.getD p dPack).deps.map (rowN l)).all (meetB s)
/-- The room of a state, by bits. -/
def bitSize (l : List PackD) (s : Nat) : Int := sumP l (placesTo s 8) (placesTo s 8).length
def healthB (l : List PackD) (room : Int) (s : Nat) : Bool := decide (bitSize l s ≤ room) && (placesTo s 8).all (servedB l s)
end Go.Proofs.YthkhaemlcmkkjaxGreat

namespace Go.Proofs.YthkhaemlcmkkjaxGreat
set_option linter.unusedVariables false
set_option linter.unusedSimpArgs false
open Go.RowKit Go.Deep

/-- The bits of a state in form. -/
def setBits (set : List Int) : Nat := bitsOf (set.map Int.toNat)
def emptyStock : Value := .agg #[.slice none 0 0, .int .i64 0, .map none, .slice none 0 0]
theorem setBits_succ (set : List Int) (k : Nat) (h : k < set.length) : setBits (set.take (k + 1)) = setBits (set.take k) ||| 2 ^ (set.getD k 0).toNat := by
  unfold setBits
  rw [List.take_succ_eq_append_getElem h, List.map_append]
  have : set.getD k 0 = set[k] := by simp [List.getD, h]
  rw [this]
  exact bits_snoc _ _
theorem bitsOf_lt : ∀ (l : List Nat) (s : Nat), s < 65536 → (∀ p ∈ l, p < 16) → l.foldl (fun s p => s ||| 2 ^ p) s < 65536
  | [], s, h, _ => h
  | p :: l, s, h, hl => by
    rw [List.foldl_cons]
    refine bitsOf_lt l _ ?_ (fun q hq => hl q (by simp [hq]))
    exact Nat.or_lt_two_pow (n := 16) h (by have := pow_small p (hl p (by simp)); exact this)
/-- The least place that may come next. -/
def leastZ (set : List Int) (k : Nat) : Int := if k = 0 then 0 else set.getD (k - 1) 0 + 1
theorem place_step {n : Nat} {set : List Int} {k : Nat} (h : (List.range k).all (placeB n set) = true) : inB (set.getD k 0) (leastZ set k) ((n : Int) - 1) = placeB n set k := by
  unfold placeB leastZ inB
  by_cases hk : k = 0
  · subst hk; simp
  · have h1 := List.all_eq_true.1 h (k - 1) (List.mem_range.2 (by omega))
    unfold placeB inB at h1
    simp only [Bool.and_eq_true, decide_eq_true_eq] at h1
    rw [if_neg hk]
    generalize set.getD k 0 = z at h1 ⊢
    generalize set.getD (k - 1) 0 = y at h1 ⊢
    rw [Bool.eq_iff_iff]
    simp [hk]
    omega
theorem place_in {n : Nat} {set : List Int} {k i : Nat} (h : (List.range k).all (placeB n set) = true) (hi : i < k) : 0 ≤ set.getD i 0 ∧ set.getD i 0 < n := by
  have h1 := List.all_eq_true.1 h i (List.mem_range.2 hi)
  unfold placeB inB at h1
  simp only [Bool.and_eq_true, decide_eq_true_eq] at h1
  omega
theorem setBits_lt {n : Nat} {set : List Int} {k : Nat} (h : (List.range k).all (placeB n set) = true) (hk : k ≤ set.length) (hn : n ≤ 8) : setBits (set.take k) < 65536 := by
  refine bitsOf_lt _ 0 (by omega) (fun p hp => ?_)
  obtain ⟨z, hz, rfl⟩ := List.mem_map.1 hp
  obtain ⟨i, hi, rfl⟩ := List.getElem_of_mem hz
  rw [List.length_take] at hi
  have := place_in h (i := i) (by omega)
  have e : (set.take k)[i] = set.getD i 0 := by
    have : i < set.length := by omega
    simp [List.getD, this]
  rw [e]
  omega

/-- Four cells written. -/
def set4 (w : World) (rb : Nat) (v0 v1 v2 v3 : Value) : World := (((w.setCell ⟨rb, 0, none⟩ v0).setCell ⟨rb, 1, none⟩ v1).setCell ⟨rb, 2, none⟩ v2).setCell ⟨rb, 3, none⟩ v3
theorem set4_facts {w : World} {rb : Nat} {T : TypeId} {r0 r1 r2 r3 : Value} (h : w.heap[rb]? = some (.cells #[r0, r1, r2, r3] T (0, 0))) (v0 v1 v2 v3 : Value) :
    (set4 w rb v0 v1 v2 v3).cell? ⟨rb, 0, none⟩ = some v0 ∧ (set4 w rb v0 v1 v2 v3).cell? ⟨rb, 1, none⟩ = some v1 ∧ (set4 w rb v0 v1 v2 v3).cell? ⟨rb, 2, none⟩ = some v2 ∧ (set4 w rb v0 v1 v2 v3).cell? ⟨rb, 3, none⟩ = some v3 ∧ w.grownBy (set4 w rb v0 v1 v2 v3) (some rb) := by
  have hB : (set4 w rb v0 v1 v2 v3).heap[rb]? = some (.cells #[v0, v1, v2, v3] T (0, 0)) := by
    unfold set4
    rw [blk_set (blk_set (blk_set (blk_set h 0 _) 1 _) 2 _) 3 _]
    rfl
  refine ⟨by simp [World.cell?, hB], by simp [World.cell?, hB], by simp [World.cell?, hB], by simp [World.cell?, hB], rfl, rfl, rfl, by simp [set4], fun b hb hne => ?_⟩
  have hb1 : b ≠ rb := fun e => hne (by rw [e])
  unfold set4
  rw [blk_setCell_other _ _ _ _ hb1, blk_setCell_other _ _ _ _ hb1, blk_setCell_other _ _ _ _ hb1, blk_setCell_other _ _ _ _ hb1]
theorem cells4 {w : World} {rb : Nat} {T : TypeId} {r0 r1 r2 r3 : Value} (h : w.heap[rb]? = some (.cells #[r0, r1, r2, r3] T (0, 0))) : w.cell? ⟨rb, 0, none⟩ = some r0 ∧ w.cell? ⟨rb, 1, none⟩ = some r1 ∧ w.cell? ⟨rb, 2, none⟩ = some r2 ∧ w.cell? ⟨rb, 3, none⟩ = some r3 ∧ w.frozen? ⟨rb, 0, none⟩ = false ∧ w.frozen? ⟨rb, 1, none⟩ = false ∧ w.frozen? ⟨rb, 2, none⟩ = false ∧ w.frozen? ⟨rb, 3, none⟩ = false := by
  refine ⟨by simp [World.cell?, h], by simp [World.cell?, h], by simp [World.cell?, h], by simp [World.cell?, h], by simp [World.frozen?, h], by simp [World.frozen?, h], by simp [World.frozen?, h], by simp [World.frozen?, h]⟩
theorem below_var {w w1 W : World} {rb : Nat} (h : Below w.heap.size w w1) (hr : w.heap.size ≤ rb) (hg : w1.grownBy W (some rb)) : Below w.heap.size w W :=
  h.trans ⟨hg.os, hg.tape, hg.output, hg.size, fun b hb => hg.block b (Nat.lt_of_lt_of_le hb h.size) (by simp; omega)⟩
/-- A variable ahead of the asks is written: they stay. -/
theorem AsksAt.var {l : List PackD} {v : Value} {x y : World} {rb B : Nat} (h : AsksAt x v l) (hf : AsksFrom B v l) (hg : x.grownBy y (some rb)) (hr : rb < B) : AsksAt y v l := by
  refine ⟨h.1, fun hn => ?_⟩
  obtain ⟨ag, ac, C, e1, e2, e3, e4⟩ := h.2 hn
  have hlt := hf hn ag ac e1
  exact ⟨ag, ac, C, e1, (hg.block ag (Array.getElem?_eq_some_iff.1 e2).1 (by simp; omega)).trans e2, e3, fun j hj => (e4 j hj).far hg (by omega)⟩

end Go.Proofs.YthkhaemlcmkkjaxGreat

namespace Go.Proofs.YthkhaemlcmkkjaxGreat
set_option linter.unusedVariables false
set_option linter.unusedSimpArgs false
open Go.RowKit Go.Deep

/-- A state in form ascends. -/
theorem form_asc {l : List PackD} {room : Int} {set : List Int} (h : formB l room set = true) : ∀ {i j : Nat}, i < j → j < set.length → set.getD i 0 < set.getD j 0 := by
  intro i j hij hj
  have step : ∀ k, 0 < k → k < set.length → set.getD (k - 1) 0 < set.getD k 0 := fun k hk hkl => by
    simp only [formB, Bool.and_eq_true] at h
    have := List.all_eq_true.1 h.1 k (List.mem_range.2 hkl)
    simp only [placeB, Bool.and_eq_true, Bool.or_eq_true, beq_iff_eq, decide_eq_true_eq] at this
    rcases this.2 with h0 | h0
    · omega
    · exact h0
  induction j with
  | zero => omega
  | succ j ih =>
    have h1 := step (j + 1) (by omega) hj
    simp only [Nat.add_sub_cancel] at h1
    rcases Nat.lt_or_ge i j with h2 | h2
    · exact Int.lt_trans (ih h2 (by omega)) h1
    · have : i = j := by omega
      subst this
      exact h1
theorem getD_map_toNat (set : List Int) (i : Nat) : (set.map Int.toNat).getD i 0 = (set.getD i 0).toNat := by
  simp only [List.getD, List.getElem?_map]
  cases set[i]? <;> rfl
theorem set_pairwise {l : List PackD} {room : Int} {set : List Int} (h : formB l room set = true) : (set.map Int.toNat).Pairwise (· < ·) := by
  rw [List.pairwise_iff_getElem]
  intro i j hi hj hij
  simp at hi hj
  have h1 := form_asc h hij hj
  have h2 := (form_place h hi).1
  simp [List.getD, hi, hj] at h1 h2
  simp
  omega
theorem form_l8 {l : List PackD} {room : Int} {set : List Int} (h : formB l room set = true) : l.length ≤ 8 := by
  simp only [formB, repoB, Bool.and_eq_true, decide_eq_true_eq] at h
  exact h.2.1.1.1
theorem form_ok {l : List PackD} {room : Int} {set : List Int} (h : formB l room set = true) : OkL l := by
  simp only [formB, Bool.and_eq_true] at h
  exact OkL.of h.2
theorem set_lt {l : List PackD} {room : Int} {set : List Int} (h : formB l room set = true) : ∀ x ∈ set.map Int.toNat, x < l.length := by
  intro x hx
  obtain ⟨z, hz, rfl⟩ := List.mem_map.1 hx
  obtain ⟨i, hi, rfl⟩ := List.getElem_of_mem hz
  have := form_place h hi
  simp [List.getD, hi] at this
  omega
/-- The places of the bits are the state. -/
theorem set_places {l : List PackD} {room : Int} {set : List Int} (h : formB l room set = true) : placesTo (setBits set) 8 = set.map Int.toNat := by
  unfold setBits
  exact places_bits _ (set_pairwise h) fun x hx => Nat.lt_of_lt_of_le (set_lt h x hx) (form_l8 h)
theorem setBits_small {l : List PackD} {room : Int} {set : List Int} (h : formB l room set = true) : setBits set < 65536 := by
  have h1 : (List.range set.length).all (placeB l.length set) = true := by
    simp only [formB, Bool.and_eq_true] at h
    exact h.1
  have := setBits_lt h1 (Nat.le_refl _) (form_l8 h)
  rwa [List.take_length] at this
theorem sum_same (l : List PackD) (set : List Int) : ∀ k, sumP l (set.map Int.toNat) k = sumTo l set k
  | 0 => rfl
  | k + 1 => by
    simp only [sumP, sumTo, sum_same l set k, getD_map_toNat]
theorem size_bits {l : List PackD} {room : Int} {set : List Int} (h : formB l room set = true) : bitSize l (setBits set) = sumTo l set set.length := by
  unfold bitSize
  rw [set_places h, sum_same]
  simp

/-- Whether a state is healthy. -/
def okZ (l : List PackD) (room : Int) (set : List Int) : Bool := formB l room set && healthB l room (setBits set)

end Go.Proofs.YthkhaemlcmkkjaxGreat
