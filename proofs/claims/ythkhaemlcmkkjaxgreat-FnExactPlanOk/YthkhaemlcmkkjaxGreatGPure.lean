/- Packs in order: without the last one they are ok still; with the first one once more they are not. Health by bits is health by places. -/
import Derived.Test.YthkhaemlcmkkjaxGreatGBase
import Derived.Test.YthkhaemlcmkkjaxGreatGSpecP
namespace Go.Proofs.YthkhaemlcmkkjaxGreat
set_option linter.unusedVariables false
set_option linter.unusedSimpArgs false

theorem less_trans : ∀ (a b c : List UInt8), Op.bytesLess a b = true → Op.bytesLess b c = true → Op.bytesLess a c = true
  | [], [], c, h, _ => by simp [Op.bytesLess] at h
  | [], x :: b, [], _, h => by simp [Op.bytesLess] at h
  | [], x :: b, y :: c, _, _ => by simp [Op.bytesLess]
  | x :: a, [], c, h, _ => by simp [Op.bytesLess] at h
  | x :: a, y :: b, [], _, h => by simp [Op.bytesLess] at h
  | x :: a, y :: b, z :: c, h, k => by
    have ih := less_trans a b c
    simp [Op.bytesLess] at h k ⊢
    rcases h with h | ⟨h1, h2⟩
    · rcases k with k | ⟨k1, k2⟩
      · left; exact UInt8.lt_trans h k
      · left; rw [← k1]; exact h
    · rcases k with k | ⟨k1, k2⟩
      · left; rw [h1]; exact k
      · right; exact ⟨h1.trans k1, ih h2 k2⟩
theorem ahead_trans {a b c : PackD} (h : aheadB a b = true) (k : aheadB b c = true) : aheadB a c = true := by
  simp only [aheadB, Bool.or_eq_true, Bool.and_eq_true, beq_iff_eq, decide_eq_true_eq] at h k ⊢
  rcases h with h | ⟨h1, h2⟩
  · rcases k with k | ⟨k1, k2⟩
    · left; exact less_trans _ _ _ h k
    · left; rw [← k1]; exact h
  · rcases k with k | ⟨k1, k2⟩
    · left; rw [h1]; exact k
    · right; exact ⟨h1.trans k1, by omega⟩
theorem asc_at {l : List PackD} (h : ascB l = true) {i : Nat} (hi : i + 1 < l.length) : aheadB (l.getD i dPack) (l.getD (i + 1) dPack) = true :=
  List.all_eq_true.1 h i (List.mem_range.2 (by omega))
theorem asc_far {l : List PackD} (h : ascB l = true) {i : Nat} : ∀ j, i + j + 1 < l.length → aheadB (l.getD i dPack) (l.getD (i + j + 1) dPack) = true
  | 0, hj => asc_at h hj
  | j + 1, hj => ahead_trans (asc_far h j (by omega)) (asc_at h (i := i + j + 1) (by omega))
end Go.Proofs.YthkhaemlcmkkjaxGreat

namespace Go.Proofs.YthkhaemlcmkkjaxGreat
set_option linter.unusedVariables false
set_option linter.unusedSimpArgs false
open Go.RowKit Go.Deep

theorem meet_iff (s n : Nat) : meetB s n = true ↔ ∃ q, s.testBit q = true ∧ n.testBit q = true := by
  unfold meetB
  rw [decide_eq_true_eq]
  constructor
  · intro h
    obtain ⟨q, hq⟩ := Nat.exists_testBit_of_ne_zero h
    rw [Nat.testBit_and, Bool.and_eq_true] at hq
    exact ⟨q, hq.1, hq.2⟩
  · rintro ⟨q, h1, h2⟩ h0
    have : (s &&& n).testBit q = true := by rw [Nat.testBit_and, h1, h2]; rfl
    rw [h0, Nat.zero_testBit] at this
    cases this
/-- The names of packs in order that are the same have the same between. -/
theorem name_between {l : List PackD} (h : ascB l = true) {i j k : Nat} (hij : i < j) (hjk : j < k) (hk : k < l.length) (he : (l.getD i dPack).name.toList = (l.getD k dPack).name.toList) : (l.getD j dPack).name.toList = (l.getD k dPack).name.toList := by
  have h1 := asc_far h (i := i) (j - i - 1) (by omega)
  have h2 := asc_far h (i := j) (k - j - 1) (by omega)
  rw [show i + (j - i - 1) + 1 = j by omega] at h1
  rw [show j + (k - j - 1) + 1 = k by omega] at h2
  simp only [aheadB, Bool.or_eq_true, Bool.and_eq_true, beq_iff_eq, decide_eq_true_eq] at h1 h2
  rcases h2 with h2 | ⟨h2, _⟩
  · rcases h1 with h1 | ⟨h1, _⟩
    · have := less_trans _ _ _ h1 h2
      rw [he, less_irrefl] at this
      cases this
    · rw [← h1, he, less_irrefl] at h2
      cases h2
  · exact h2

section
variable {l : List PackD} {room : Int} {set : List Int}
theorem bit_iff (h : formB l room set = true) (q : Nat) : (setBits set).testBit q = true ↔ ∃ i, i < set.length ∧ (set.getD i 0).toNat = q := by
  unfold setBits
  rw [test_bits, decide_eq_true_eq, List.mem_map]
  constructor
  · rintro ⟨z, hz, rfl⟩
    obtain ⟨i, hi, rfl⟩ := List.getElem_of_mem hz
    exact ⟨i, hi, by simp [List.getD, hi]⟩
  · rintro ⟨i, hi, rfl⟩
    exact ⟨set.getD i 0, getD_mem hi, rfl⟩
theorem row_meets (h : formB l room set = true) (row : List ReqD) : meetB (setBits set) (rowN l row) = someB l set row (-1) := by
  rw [Bool.eq_iff_iff, meet_iff]
  unfold someB rowN
  rw [List.any_eq_true]
  constructor
  · rintro ⟨q, h1, h2⟩
    obtain ⟨i, hi, rfl⟩ := (bit_iff h q).1 h1
    rw [test_bitsTo, Bool.and_eq_true] at h2
    have hp := form_place h hi
    refine ⟨i, List.mem_range.2 hi, ?_⟩
    unfold oneB
    rw [h2.2, Bool.and_true, decide_eq_true_eq]
    omega
  · rintro ⟨i, hi, hf⟩
    have hi := List.mem_range.1 hi
    have hp := form_place h hi
    unfold oneB at hf
    rw [Bool.and_eq_true] at hf
    refine ⟨(set.getD i 0).toNat, (bit_iff h _).2 ⟨i, hi, rfl⟩, ?_⟩
    rw [test_bitsTo, hf.2, Bool.and_true, decide_eq_true_eq]
    omega
theorem ban_meets (h : formB l room set = true) {k : Nat} (hk : k < set.length) : meetB (setBits set) (bnN l (set.getD k 0).toNat) = someB l set (packOf l set k).bans (set.getD k 0) := by
  rw [Bool.eq_iff_iff, meet_iff]
  unfold someB bnN packOf
  rw [List.any_eq_true]
  have hkp := form_place h hk
  constructor
  · rintro ⟨q, h1, h2⟩
    obtain ⟨i, hi, rfl⟩ := (bit_iff h q).1 h1
    rw [test_bitsTo, Bool.and_eq_true, Bool.and_eq_true, decide_eq_true_eq, decide_eq_true_eq] at h2
    have hp := form_place h hi
    refine ⟨i, List.mem_range.2 hi, ?_⟩
    unfold oneB
    rw [h2.2.1, Bool.and_true, decide_eq_true_eq]
    intro e
    exact h2.2.2 (by rw [e])
  · rintro ⟨i, hi, hf⟩
    have hi := List.mem_range.1 hi
    have hp := form_place h hi
    unfold oneB at hf
    rw [Bool.and_eq_true, decide_eq_true_eq] at hf
    refine ⟨(set.getD i 0).toNat, (bit_iff h _).2 ⟨i, hi, rfl⟩, ?_⟩
    rw [test_bitsTo, hf.2, Bool.true_and, Bool.and_eq_true, decide_eq_true_eq, decide_eq_true_eq]
    omega
theorem twin_meets (h : formB l room set = true) {k : Nat} (hk : k < set.length) : meetB (setBits set) (twN l (set.getD k 0).toNat) = true ↔ ∃ i, i < set.length ∧ i ≠ k ∧ (packOf l set i).name.toList = (packOf l set k).name.toList := by
  rw [meet_iff]
  have hkp := form_place h hk
  have hok := form_ok h
  constructor
  · rintro ⟨q, h1, h2⟩
    obtain ⟨i, hi, rfl⟩ := (bit_iff h q).1 h1
    unfold twN at h2
    rw [test_bitsTo, Bool.and_eq_true, Bool.and_eq_true, decide_eq_true_eq, decide_eq_true_eq] at h2
    unfold fitsB at h2
    rw [Bool.and_eq_true, beq_iff_eq] at h2
    refine ⟨i, hi, fun e => h2.2.2 (by rw [e]), h2.2.1.1⟩
  · rintro ⟨i, hi, hne, he⟩
    have hp := form_place h hi
    refine ⟨(set.getD i 0).toNat, (bit_iff h _).2 ⟨i, hi, rfl⟩, ?_⟩
    unfold twN
    rw [test_bitsTo, Bool.and_eq_true, Bool.and_eq_true, decide_eq_true_eq, decide_eq_true_eq]
    refine ⟨by omega, ?_, ?_⟩
    · unfold fitsB
      rw [Bool.and_eq_true, beq_iff_eq]
      exact ⟨he, hok.ver _ (by omega)⟩
    · intro e
      rcases Nat.lt_or_ge i k with h1 | h1
      · have := form_asc h h1 hk; omega
      · have := form_asc h (show k < i by omega) hi; omega
theorem no_twins (h : formB l room set = true) : (∀ k, k < set.length → meetB (setBits set) (twN l (set.getD k 0).toNat) = false) ↔ ∀ k, k < set.length → twiceB l set k = false := by
  have hasc : ascB l = true := by
    simp only [formB, repoB, Bool.and_eq_true] at h
    exact h.2.2
  constructor
  · intro hn k hk
    cases ht : twiceB l set k with
    | false => rfl
    | true =>
      unfold twiceB at ht
      rw [Bool.and_eq_true, decide_eq_true_eq, beq_iff_eq] at ht
      have := (twin_meets h hk).2 ⟨k - 1, by omega, by omega, ht.2⟩
      rw [hn k hk] at this
      cases this
  · intro hn k hk
    cases ht : meetB (setBits set) (twN l (set.getD k 0).toNat) with
    | false => rfl
    | true =>
      exfalso
      obtain ⟨i, hi, hne, he⟩ := (twin_meets h hk).1 ht
      have key : ∀ i j, i < j → j < set.length → (packOf l set i).name.toList = (packOf l set j).name.toList → False := fun i j hij hj he => by
        have h1 := hn j hj
        unfold twiceB at h1
        rw [Bool.and_eq_false_iff] at h1
        rcases h1 with h1 | h1
        · rw [decide_eq_false_iff_not] at h1; omega
        · rw [beq_eq_false_iff_ne] at h1
          apply h1
          rcases Nat.lt_or_ge i (j - 1) with h2 | h2
          · have a1 := form_asc h h2 (by omega)
            have a2 := form_asc h (show j - 1 < j by omega) hj
            have b0 := form_place h (show i < set.length by omega)
            have b1 := form_place h (show j - 1 < set.length by omega)
            have b2 := form_place h hj
            unfold packOf at he ⊢
            exact name_between hasc (by omega) (by omega) (by omega) he
          · have : i = j - 1 := by omega
            rw [← this]
            exact he
      rcases Nat.lt_or_ge i k with h1 | h1
      · exact key i k h1 hk he
      · exact key k i (by omega) hi he.symm

/-- The specification's health is the program's. -/
theorem spec_okZ (l : List PackD) (room : Int) (set : List Int) : specOk l room set = okZ l room set := by
  unfold specOk okZ
  cases h : formB l room set with
  | false => rfl
  | true =>
    rw [Bool.true_and, Bool.true_and]
    unfold healthB
    rw [size_bits h, set_places h]
    congr 1
    rw [Bool.eq_iff_iff, List.all_eq_true, List.all_eq_true]
    constructor
    · intro ha
      have hall : ∀ k, k < set.length → placeOk l set k = true := fun k hk => ha k (List.mem_range.2 hk)
      have htw := (no_twins h).2 fun k hk => by
        have := hall k hk
        unfold placeOk at this
        simp only [Bool.and_eq_true, Bool.not_eq_true'] at this
        exact this.1.1
      intro p hp
      obtain ⟨z, hz, rfl⟩ := List.mem_map.1 hp
      obtain ⟨k, hk, rfl⟩ := List.getElem_of_mem hz
      have e : set[k] = set.getD k 0 := by simp [List.getD, hk]
      rw [e]
      have hpo := hall k hk
      unfold placeOk at hpo
      simp only [Bool.and_eq_true, Bool.not_eq_true'] at hpo
      unfold servedB
      rw [htw k hk, ban_meets h hk, hpo.1.2]
      simp only [Bool.not_false, Bool.true_and, List.all_map]
      rw [List.all_eq_true]
      intro row hrow
      show meetB _ (rowN l row) = true
      rw [row_meets h row]
      exact List.all_eq_true.1 hpo.2 row hrow
    · intro ha
      have hsv : ∀ k, k < set.length → servedB l (setBits set) (set.getD k 0).toNat = true := fun k hk => ha _ (List.mem_map.2 ⟨set.getD k 0, getD_mem hk, rfl⟩)
      have htw := (no_twins h).1 fun k hk => by
        have := hsv k hk
        unfold servedB at this
        simp only [Bool.and_eq_true, Bool.not_eq_true'] at this
        exact this.1.1
      intro k hk
      have hk := List.mem_range.1 hk
      have hs := hsv k hk
      unfold servedB at hs
      simp only [Bool.and_eq_true, Bool.not_eq_true'] at hs
      unfold placeOk
      rw [htw k hk, ← ban_meets h hk, hs.1.2]
      simp only [Bool.not_false, Bool.true_and]
      rw [List.all_eq_true]
      intro row hrow
      rw [← row_meets h row]
      have := List.all_eq_true.1 hs.2 (rowN l row) (List.mem_map.2 ⟨row, hrow, rfl⟩)
      exact this
end

theorem specStateOk_any (a : Option Addr) (l : List PackD) (cap : Nat) (room : Int) (sa : Option Addr) (set : List Int) (sc : Nat) (w : World) (h : PacksAt (Old w) w a l) (hs : SetAt w sa set) :
    Calls Tryz.prog 32 #[.agg #[.slice a l.length cap, .int .i64 room], .slice sa set.length sc] w fun e w' => e = .returned (.bool (okZ l room set)) ∧ Below w.heap.size w w' := by
  rw [← spec_okZ]
  exact specStateOk_any' a l cap room sa set sc w h hs
end Go.Proofs.YthkhaemlcmkkjaxGreat
