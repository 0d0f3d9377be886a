/- The list of states: all that are healthy, each once. -/
import Derived.Test.YtnegiggafgfmkabGStM
import Derived.Test.YtnegiggafgfmkabGLd
namespace Go.Proofs.Ytnegiggafgfmkab
set_option linter.unusedVariables false
set_option linter.unusedSimpArgs false
open Go.RowKit Go.Deep

def statesI (l : List PackD) (room : Int) : List (List Int) := (stateL l room).map intsOf
theorem bits_lt_pow {l : List PackD} {room : Int} {set : List Int} (h : formB l room set = true) : setBits set < 2 ^ l.length := by
  apply Nat.lt_pow_two_of_testBit
  intro i hi
  unfold setBits
  rw [test_bits, decide_eq_false_iff_not]
  intro hm
  have := set_lt h i hm
  omega
theorem mem_statesTo (l : List PackD) (room : Int) (n : Nat) (r : List Nat) : r ∈ statesTo l room n ↔ ∃ s, s < n ∧ healthB l room s = true ∧ placesTo s 8 = r := by
  unfold statesTo
  rw [List.mem_map]
  constructor
  · rintro ⟨s, hs, rfl⟩
    rw [List.mem_filter, List.mem_range] at hs
    exact ⟨s, hs.1, hs.2, rfl⟩
  · rintro ⟨s, h1, h2, rfl⟩
    exact ⟨s, List.mem_filter.2 ⟨List.mem_range.2 h1, h2⟩, rfl⟩
theorem intsOf_set {l : List PackD} {room : Int} {set : List Int} (h : formB l room set = true) : intsOf (set.map Int.toNat) = set := by
  unfold intsOf
  rw [List.map_map]
  conv => rhs; rw [← List.map_id set]
  apply List.map_congr_left
  intro z hz
  obtain ⟨i, hi, rfl⟩ := List.getElem_of_mem hz
  have := (form_place h hi).1
  simp [List.getD, hi] at this
  simp
  omega
theorem form_repo {l : List PackD} {room : Int} {set : List Int} (h : formB l room set = true) : repoB ⟨l, room⟩ = true := by
  unfold formB at h
  rw [Bool.and_eq_true] at h
  exact h.2
theorem statesI_mem (l : List PackD) (room : Int) (set : List Int) : set ∈ statesI l room ↔ okZ l room set = true := by
  unfold statesI stateL
  rw [List.mem_map]
  constructor
  · rintro ⟨r, hr, rfl⟩
    cases hrb : repoB ⟨l, room⟩ with
    | false => rw [hrb] at hr; simp at hr
    | true =>
      rw [hrb, if_pos rfl, mem_statesTo] at hr
      obtain ⟨s, hs, hh, rfl⟩ := hr
      rw [ok_places hrb hs]
      exact hh
  · intro h
    have hf := ok_form h
    have hrb := form_repo hf
    refine ⟨set.map Int.toNat, ?_, intsOf_set hf⟩
    rw [hrb, if_pos rfl, mem_statesTo]
    refine ⟨setBits set, bits_lt_pow hf, ?_, set_places hf⟩
    unfold okZ at h
    rw [hf, Bool.true_and] at h
    exact h
theorem statesI_nodup (l : List PackD) (room : Int) : (statesI l room).Nodup := by
  unfold statesI stateL
  cases hrb : repoB ⟨l, room⟩ with
  | false => simp
  | true =>
    rw [if_pos rfl]
    have hl8 : l.length ≤ 8 := by
      simp only [repoB, Bool.and_eq_true, decide_eq_true_eq] at hrb
      exact hrb.1.1.1
    unfold statesTo
    rw [List.map_map]
    unfold List.Nodup
    rw [List.pairwise_map]
    have hnd : ((List.range (2 ^ l.length)).filter (healthB l room)).Pairwise (· ≠ ·) := List.Pairwise.filter _ List.nodup_range
    refine List.Pairwise.imp_of_mem ?_ hnd
    intro a b ha hb hne e
    have hp := shl_one _ hl8
    have ha := List.mem_range.1 (List.mem_filter.1 ha).1
    have hb := List.mem_range.1 (List.mem_filter.1 hb).1
    have e2 : placesTo a 8 = placesTo b 8 := by
      have := congrArg (List.map Int.toNat) e
      simp only [Function.comp, intsOf_toNat] at this
      exact this
    apply hne
    rw [← bits_places (s := a) (n := 8) (by omega), ← bits_places (s := b) (n := 8) (by omega), e2]
theorem statesI_len (l : List PackD) (room : Int) : (statesI l room).length ≤ 256 := by
  unfold statesI stateL
  cases hrb : repoB ⟨l, room⟩ with
  | false => simp
  | true =>
    have hl8 : l.length ≤ 8 := by
      simp only [repoB, Bool.and_eq_true, decide_eq_true_eq] at hrb
      exact hrb.1.1.1
    rw [if_pos rfl, List.length_map]
    exact Nat.le_trans (states_le l room _) (shl_one _ hl8)
end Go.Proofs.Ytnegiggafgfmkab
