/- Nothing is wrong just with what is healthy. -/
import Derived.Test.YtcmgddkifhcmlanWhyB
import Derived.Test.YtcmgddkifhcmlanGPure
namespace Go.Proofs.Ytcmgddkifhcmlan
set_option linter.unusedVariables false
set_option linter.unusedSimpArgs false
open Go.RowKit Go.Deep

theorem places_none {s n : Nat} (hn : n < 65536) (h8 : ∀ q, n.testBit q = true → q < 8) : placesTo (s &&& n) 8 = [] ↔ meetB s n = false := by
  constructor
  · intro h
    cases hm : meetB s n with
    | false => rfl
    | true =>
      obtain ⟨q, h1, h2⟩ := (meet_iff s n).1 hm
      have : q ∈ placesTo (s &&& n) 8 := (mem_places _ _ _).2 ⟨h8 q h2, by rw [Nat.testBit_and, h1, h2]; rfl⟩
      rw [h] at this
      cases this
  · intro h
    rw [List.eq_nil_iff_forall_not_mem]
    intro q hq
    have := ((mem_places _ _ _).1 hq).2
    rw [Nat.testBit_and, Bool.and_eq_true] at this
    have hm : meetB s n = true := (meet_iff s n).2 ⟨q, this.1, this.2⟩
    rw [h] at hm
    cases hm
theorem lack_nil (s : Nat) (p : Int) (ns : List Nat) : ∀ k, k ≤ ns.length → (lackRows s p ns k = [] ↔ (ns.take k).all (meetB s) = true)
  | 0, _ => by simp [lackRows]
  | k + 1, hk => by
    have ih := lack_nil s p ns k (by omega)
    rw [all_take_succ (d := 0) (show k < ns.length by omega)]
    unfold lackRows
    cases hm : meetB s (ns.getD k 0) with
    | true => simp [ih]
    | false => simp
theorem whys_nil {k p : Int} {qs : List Nat} : whysWith k p qs = [] ↔ qs = [] := by unfold whysWith; rw [List.map_eq_nil_iff]
section
variable {l : List PackD} {room : Int} {set : List Int}
theorem tw_bit8 (hl : l.length ≤ 8) {p q : Nat} (h : (twN l p).testBit q = true) : q < 8 := by
  unfold twN at h
  rw [test_bitsTo, Bool.and_eq_true, decide_eq_true_eq] at h
  omega
theorem bn_bit8 (hl : l.length ≤ 8) {p q : Nat} (h : (bnN l p).testBit q = true) : q < 8 := by
  unfold bnN at h
  rw [test_bitsTo, Bool.and_eq_true, decide_eq_true_eq] at h
  omega
theorem tw_sym (hok : OkL l) {p q : Nat} (hp : p < l.length) (h : (twN l p).testBit q = true) : (twN l q).testBit p = true := by
  unfold twN at h ⊢
  rw [test_bitsTo, Bool.and_eq_true, Bool.and_eq_true, decide_eq_true_eq, decide_eq_true_eq] at h ⊢
  unfold fitsB at h ⊢
  rw [Bool.and_eq_true, beq_iff_eq] at h ⊢
  exact ⟨hp, ⟨h.2.1.1.symm, hok.ver p hp⟩, fun e => h.2.2 e.symm⟩
theorem tw_self {p : Nat} : (twN l p).testBit p = false := by
  unfold twN
  rw [test_bitsTo]
  simp
/-- Of all packs: none is beside another of its name, if none stands ahead of one. -/
theorem twice_nil (s : Nat) (hok : OkL l) (hps : ∀ p ∈ placesTo s 8, p < l.length) : (∀ p ∈ placesTo s 8, twiceL l s p = []) ↔ ∀ p ∈ placesTo s 8, meetB s (twN l p) = false := by
  have hl8 := hok.l8
  have key : ∀ p, twiceL l s p = [] ↔ meetB (s &&& (2 ^ p - 1)) (twN l p) = false := fun p => by
    unfold twiceL
    rw [whys_nil]
    exact places_none (twN_lt hl8 p) (fun q hq => tw_bit8 hl8 hq)
  constructor
  · intro h p hp
    cases hm : meetB s (twN l p) with
    | false => rfl
    | true =>
      obtain ⟨q, h1, h2⟩ := (meet_iff _ _).1 hm
      have hq8 := tw_bit8 hl8 h2
      have hqp : q ∈ placesTo s 8 := (mem_places _ _ _).2 ⟨hq8, h1⟩
      have hpb := ((mem_places _ _ _).1 hp).2
      rcases Nat.lt_trichotomy q p with hlt | heq | hgt
      · have hk := (key p).1 (h p hp)
        have : meetB (s &&& (2 ^ p - 1)) (twN l p) = true := (meet_iff _ _).2 ⟨q, by rw [Nat.testBit_and, h1, Nat.testBit_two_pow_sub_one]; simpa using hlt, h2⟩
        rw [hk] at this
        cases this
      · subst heq
        rw [tw_self] at h2
        cases h2
      · have hk := (key q).1 (h q hqp)
        have : meetB (s &&& (2 ^ q - 1)) (twN l q) = true := (meet_iff _ _).2 ⟨p, by rw [Nat.testBit_and, hpb, Nat.testBit_two_pow_sub_one]; simpa using hgt, tw_sym hok (hps p hp) h2⟩
        rw [hk] at this
        cases this
  · intro h p hp
    rw [key p]
    cases hm : meetB (s &&& (2 ^ p - 1)) (twN l p) with
    | false => rfl
    | true =>
      obtain ⟨q, h1, h2⟩ := (meet_iff _ _).1 hm
      rw [Nat.testBit_and, Bool.and_eq_true] at h1
      have := (meet_iff s (twN l p)).2 ⟨q, h1.1, h2⟩
      rw [h p hp] at this
      cases this
theorem faults_nil (s : Nat) (hok : OkL l) (hps : ∀ p ∈ placesTo s 8, p < l.length) : faultsL l room s = [] ↔ healthB l room s = true := by
  have hl8 := hok.l8
  unfold faultsL healthB
  rw [List.append_eq_nil_iff, Bool.and_eq_true, decide_eq_true_eq, List.flatMap_eq_nil_iff, List.all_eq_true]
  have h1 : lackingL l room s = [] ↔ bitSize l s ≤ room := by
    unfold lackingL
    by_cases hc : bitSize l s - room ≤ 0
    · rw [if_pos hc]; simp; omega
    · rw [if_neg hc]; simp; omega
  have hb : ∀ p, bannedL l s p = [] ↔ meetB s (bnN l p) = false := fun p => by
    unfold bannedL
    rw [whys_nil]
    exact places_none (bnN_lt hl8 p) (fun q hq => bn_bit8 hl8 hq)
  have hu : ∀ p, unfittedL l s p = [] ↔ ((l.getD p dPack).deps.map (rowN l)).all (meetB s) = true := fun p => by
    unfold unfittedL
    have hn : (l.getD p dPack).deps.length = ((l.getD p dPack).deps.map (rowN l)).length := by simp
    rw [hn, lack_nil s _ _ _ (Nat.le_refl _), List.take_length]
  have hpart : ∀ p, partL l s p 3 = [] ↔ twiceL l s p = [] ∧ unfittedL l s p = [] ∧ bannedL l s p = [] := fun p => by
    simp [partL, kindL, List.range_succ]
  have hsv : ∀ p, servedB l s p = true ↔ meetB s (twN l p) = false ∧ meetB s (bnN l p) = false ∧ ((l.getD p dPack).deps.map (rowN l)).all (meetB s) = true := fun p => by
    unfold servedB
    rw [Bool.and_eq_true, Bool.and_eq_true, Bool.not_eq_true', Bool.not_eq_true', and_assoc]
  rw [h1]
  have htw := twice_nil s hok hps
  constructor
  · rintro ⟨ha, hall⟩
    refine ⟨ha, fun p hp => (hsv p).2 ⟨htw.1 (fun q hq => ((hpart q).1 (hall q hq)).1) p hp, (hb p).1 ((hpart p).1 (hall p hp)).2.2, (hu p).1 ((hpart p).1 (hall p hp)).2.1⟩⟩
  · rintro ⟨ha, hall⟩
    refine ⟨ha, fun p hp => (hpart p).2 ⟨htw.2 (fun q hq => ((hsv q).1 (hall q hq)).1) p hp, (hu p).2 ((hsv p).1 (hall p hp)).2.2, (hb p).2 ((hsv p).1 (hall p hp)).2.1⟩⟩
/-- Nothing is wrong just with what is healthy. -/
theorem why_nil (h : formB l room set = true) : (((whyZ l room set).length : Int) == 0) = okZ l room set := by
  have hf := faults_nil (l := l) (room := room) (setBits set) (form_ok h) (by rw [set_places h]; exact set_lt h)
  have e : whyZ l room set = faultsL l room (setBits set) := by unfold whyZ; rw [h]; rfl
  have ok : okZ l room set = healthB l room (setBits set) := by unfold okZ; rw [h]; rfl
  rw [e, ok]
  cases hh : healthB l room (setBits set) with
  | true => rw [hf.2 hh]; rfl
  | false =>
    rw [beq_eq_false_iff_ne]
    intro h0
    have : faultsL l room (setBits set) = [] := List.length_eq_zero_iff.1 (by omega)
    rw [hf.1 this] at hh
    cases hh
end
theorem whyZ_len (l : List PackD) (room : Int) (set : List Int) : (whyZ l room set).length ≤ 400 := by
  unfold whyZ
  cases h : formB l room set with
  | false => simp
  | true =>
    simp only [if_true]
    unfold faultsL
    rw [List.length_append]
    have h1 : (lackingL l room (setBits set)).length ≤ 1 := by unfold lackingL; split <;> simp
    have hok := form_ok h
    have hps : ∀ p ∈ placesTo (setBits set) 8, p < l.length := by rw [set_places h]; exact set_lt h
    have h2 : ∀ (ps : List Nat), (∀ p ∈ ps, p < l.length) → (ps.flatMap fun p => partL l (setBits set) p 3).length ≤ 24 * ps.length := fun ps => by
      induction ps with
      | nil => simp
      | cons p ps ih =>
        intro hp
        have := ih (fun q hq => hp q (by simp [hq]))
        have ha := kind_len 0 l (setBits set) p hok (hp p (by simp))
        have hb := kind_len 1 l (setBits set) p hok (hp p (by simp))
        have hc := kind_len 2 l (setBits set) p hok (hp p (by simp))
        have e : partL l (setBits set) p 3 = kindL l (setBits set) p 0 ++ (kindL l (setBits set) p 1 ++ kindL l (setBits set) p 2) := by simp [partL, List.range_succ]
        rw [List.flatMap_cons, List.length_append, e, List.length_append, List.length_append, List.length_cons]
        omega
    have := h2 _ hps
    have := places_le (setBits set) 8
    omega
end Go.Proofs.Ytcmgddkifhcmlan
