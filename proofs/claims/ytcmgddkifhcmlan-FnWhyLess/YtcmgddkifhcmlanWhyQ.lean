/- Both WhyNots answer the same. -/
import Derived.Test.YtcmgddkifhcmlanWhyS
import Derived.Test.YtcmgddkifhcmlanGPure
namespace Go.Proofs.Ytcmgddkifhcmlan
set_option linter.unusedVariables false
set_option linter.unusedSimpArgs false
open Go.RowKit Go.Deep

theorem places_and (a b k : Nat) : placesTo (a &&& b) k = (placesTo a k).filter (fun q => b.testBit q) := by
  unfold placesTo
  rw [List.filter_filter]
  apply List.filter_congr
  intro q _
  rw [has_test, has_test, Nat.testBit_and, Bool.and_comm]
/-- What a loop over the first of some gathers. -/
theorem coll_filter (Z : List Nat) (P : Nat → Bool) (f : Nat → StepD) (F : Nat → Option StepD) : ∀ i, i ≤ Z.length → (∀ k, k < i → F k = if P (Z.getD k 0) then some (f (Z.getD k 0)) else none) → coll F i = ((Z.take i).filter P).map f
  | 0, _, _ => by simp [coll]
  | i + 1, hi, h => by
    rw [coll_succ, coll_filter Z P f F i (by omega) (fun k hk => h k (by omega)), h i (by omega), List.take_succ_eq_append_getElem (show i < Z.length by omega), List.filter_append, List.map_append]
    have e : Z.getD i 0 = Z[i] := by simp [List.getD, show i < Z.length by omega]
    rw [e]
    cases hp : P Z[i] <;> simp [hp]
theorem filter_below {Z : List Nat} (hZ : Z.Pairwise (· < ·)) {i : Nat} (hi : i < Z.length) : Z.filter (fun q => decide (q < Z[i])) = Z.take i := by
  have e : Z = Z.take i ++ Z[i] :: Z.drop (i + 1) := by rw [List.getElem_cons_drop]; exact (List.take_append_drop i Z).symm
  have h2 := hZ
  rw [e, List.pairwise_append] at h2
  obtain ⟨_, hr, hx⟩ := h2
  rw [List.pairwise_cons] at hr
  have h1 : (Z.take i).filter (fun q => decide (q < Z[i])) = Z.take i := by
    rw [List.filter_eq_self]
    intro q hq
    have := hx q hq Z[i] (List.mem_cons_self ..)
    simpa using this
  have h3 : (Z[i] :: Z.drop (i + 1)).filter (fun q => decide (q < Z[i])) = [] := by
    rw [List.filter_eq_nil_iff]
    intro q hq
    rcases List.mem_cons.1 hq with rfl | hq
    · simp
    · have := hr.1 q hq
      simp
      omega
  calc Z.filter (fun q => decide (q < Z[i])) = (Z.take i ++ Z[i] :: Z.drop (i + 1)).filter (fun q => decide (q < Z[i])) := by rw [← e]
    _ = Z.take i := by rw [List.filter_append, h1, h3, List.append_nil]
theorem flat_range {α : Type} (Z : List Nat) (f : Nat → List α) : Z.flatMap f = (List.range Z.length).flatMap (fun i => f (Z.getD i 0)) := by
  induction Z with
  | nil => rfl
  | cons z Z ih =>
    rw [List.flatMap_cons, ih, List.length_cons, List.range_succ_eq_map, List.flatMap_cons, List.flatMap_map]
    rfl
theorem flat_congr {α : Type} {f g : Nat → List α} : ∀ (xs : List Nat), (∀ x ∈ xs, f x = g x) → xs.flatMap f = xs.flatMap g
  | [], _ => rfl
  | x :: xs, h => by
    rw [List.flatMap_cons, List.flatMap_cons, h x (by simp), flat_congr xs (fun y hy => h y (by simp [hy]))]
section
variable {l : List PackD} {room : Int} {set : List Int}
theorem set_asc (h : formB l room set = true) : (set.map Int.toNat).Pairwise (· < ·) := set_pairwise h
theorem set_nat (h : formB l room set = true) {k : Nat} (hk : k < set.length) : set.getD k 0 = (((set.map Int.toNat).getD k 0 : Nat) : Int) := by
  have := form_place h hk
  have e : (set.map Int.toNat).getD k 0 = (set.getD k 0).toNat := by simp [List.getD, hk]
  rw [e]
  omega
theorem tw_test (h : formB l room set = true) {p q : Nat} (hp : p < l.length) (hq : q < l.length) : (twN l p).testBit q = (((l.getD q dPack).name.toList == (l.getD p dPack).name.toList) && decide (q ≠ p)) := by
  unfold twN
  rw [test_bitsTo]
  unfold fitsB
  rw [(form_ok h).ver q hq]
  simp [hq]
theorem twice_same (h : formB l room set = true) {i : Nat} (hi : i < set.length) : twiceL l (setBits set) ((set.map Int.toNat).getD i 0) = coll (twF l set i) i := by
  have hz := set_nat h hi
  have hpl := form_place h hi
  have hil : i < (set.map Int.toNat).length := by simpa using hi
  have hasc := set_asc h
  have hlt := set_lt h
  rw [coll_filter (set.map Int.toNat) (fun q => (l.getD q dPack).name.toList == (l.getD ((set.map Int.toNat).getD i 0) dPack).name.toList) (fun q => ⟨2, ((set.map Int.toNat).getD i 0 : Nat), (q : Int)⟩) (twF l set i) i (by omega) (fun k hk => ?_)]
  · unfold twiceL whysWith
    rw [places_and, places_and, set_places h]
    congr 1
    have e : (set.map Int.toNat).getD i 0 = (set.map Int.toNat)[i] := by simp [List.getD, hi]
    have h1 : (set.map Int.toNat).filter (fun q => (2 ^ (set.map Int.toNat).getD i 0 - 1).testBit q) = (set.map Int.toNat).take i := by
      rw [← filter_below hasc hil, e]
      apply List.filter_congr
      intro q _
      rw [Nat.testBit_two_pow_sub_one]
    rw [h1]
    apply List.filter_congr
    intro q hq
    have hqm : q ∈ set.map Int.toNat := List.mem_of_mem_take hq
    rw [tw_test h (hlt _ (by rw [e]; exact List.getElem_mem _)) (hlt q hqm)]
    have hne : q ≠ (set.map Int.toNat).getD i 0 := by
      intro e2
      have h3 : q < (set.map Int.toNat)[i] := by
        have h4 : q ∈ (set.map Int.toNat).filter (fun q => decide (q < (set.map Int.toNat)[i])) := by rw [filter_below hasc hil]; exact hq
        have := (List.mem_filter.1 h4).2
        simpa using this
      omega
    rw [decide_eq_true hne, Bool.and_true]
  · unfold twF packOf
    rw [set_nat h (show k < set.length by omega), hz]
    simp
theorem lack_coll (s : Nat) (p : Int) (ns : List Nat) (F : Nat → Option StepD) : ∀ k, (∀ j, j < k → F j = if meetB s (ns.getD j 0) then none else some ⟨3, p, (j : Int)⟩) → lackRows s p ns k = coll F k
  | 0, _ => by simp [lackRows, coll]
  | k + 1, h => by
    unfold lackRows
    rw [lack_coll s p ns F k (fun j hj => h j (by omega)), coll_succ, h k (by omega)]
    cases meetB s (ns.getD k 0) <;> simp
theorem dep_same (h : formB l room set = true) {i : Nat} (hi : i < set.length) : unfittedL l (setBits set) ((set.map Int.toNat).getD i 0) = coll (dpF l set i) (packOf l set i).deps.length := by
  have hz := set_nat h hi
  have hpo : packOf l set i = l.getD ((set.map Int.toNat).getD i 0) dPack := by unfold packOf; rw [hz]; simp
  unfold unfittedL
  rw [hpo]
  refine lack_coll _ _ _ _ _ (fun j hj => ?_)
  unfold dpF
  rw [hz, hpo]
  generalize l.getD ((set.map Int.toNat).getD i 0) dPack = P at hj ⊢
  have e : (P.deps.map (rowN l)).getD j 0 = rowN l (P.deps.getD j []) := by simp [List.getD, hj]
  rw [e, row_meets h]
theorem bn_test {p q : Nat} (hq : q < l.length) : (bnN l p).testBit q = (anyB (l.getD p dPack).bans (l.getD q dPack) && decide (q ≠ p)) := by
  unfold bnN
  rw [test_bitsTo]
  simp [hq]
theorem some_one (z : Nat) (reqs : List ReqD) : someB l [(z : Int)] reqs (-1) = anyB reqs (l.getD z dPack) := by
  unfold someB
  simp [oneB]
theorem ban_same (h : formB l room set = true) {i : Nat} (hi : i < set.length) : bannedL l (setBits set) ((set.map Int.toNat).getD i 0) = coll (bnF l set i) set.length := by
  have hz := set_nat h hi
  have hil : i < (set.map Int.toNat).length := by simpa using hi
  have hasc := set_asc h
  have hlt := set_lt h
  have hn : set.length = (set.map Int.toNat).length := by simp
  have hpo : packOf l set i = l.getD ((set.map Int.toNat).getD i 0) dPack := by unfold packOf; rw [hz]; simp
  rw [hn, coll_filter (set.map Int.toNat) (fun q => decide (q ≠ (set.map Int.toNat).getD i 0) && anyB (l.getD ((set.map Int.toNat).getD i 0) dPack).bans (l.getD q dPack)) (fun q => ⟨4, ((set.map Int.toNat).getD i 0 : Nat), (q : Int)⟩) (bnF l set i) _ (Nat.le_refl _) (fun k hk => ?_)]
  · unfold bannedL whysWith
    rw [places_and, set_places h, List.take_length]
    congr 1
    apply List.filter_congr
    intro q hq
    rw [bn_test (hlt q hq), Bool.and_comm]
  · have hk' : k < set.length := by omega
    unfold bnF
    rw [set_nat h hk', hz, hpo, some_one]
    have e : decide (k ≠ i) = decide ((set.map Int.toNat).getD k 0 ≠ (set.map Int.toNat).getD i 0) := by
      rw [decide_eq_decide]
      have g1 : (set.map Int.toNat).getD k 0 = (set.map Int.toNat)[k] := by simp [List.getD, hk']
      have g2 : (set.map Int.toNat).getD i 0 = (set.map Int.toNat)[i] := by simp [List.getD, hi]
      rw [g1, g2]
      have hp := List.pairwise_iff_getElem.1 hasc
      constructor
      · intro hne
        rcases Nat.lt_or_gt_of_ne hne with hl | hl
        · have := hp k i hk hil hl; omega
        · have := hp i k hil hk hl; omega
      · intro hne e
        subst e
        exact hne rfl
    rw [e]
/-- Both are one. -/
theorem why_same (l : List PackD) (room : Int) (set : List Int) : whyZ l room set = specWhy l room set := by
  unfold whyZ specWhy
  cases h : formB l room set with
  | false => rfl
  | true =>
    simp only [if_true]
    unfold faultsL
    have h1 : lackingL l room (setBits set) = lackS l room set := by
      unfold lackingL lackS
      have e : sizeZ l room set = bitSize l (setBits set) := by unfold sizeZ; rw [h, if_pos rfl, size_bits h]
      rw [e]
      by_cases hc : room < bitSize l (setBits set)
      · rw [if_pos hc, if_neg (by omega)]
      · rw [if_neg hc, if_pos (by omega)]
    rw [h1, set_places h, flat_range]
    congr 1
    have hn : (set.map Int.toNat).length = set.length := by simp
    rw [hn]
    apply flat_congr
    intro i hi
    have hi := List.mem_range.1 hi
    unfold placeL
    rw [← twice_same h hi, ← dep_same h hi, ← ban_same h hi]
    simp [partL, kindL, List.range_succ]
end
end Go.Proofs.Ytcmgddkifhcmlan
