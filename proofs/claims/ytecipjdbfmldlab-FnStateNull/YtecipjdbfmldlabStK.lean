/- The program's numbers of names, all along the packs. -/
import Derived.Test.YtecipjdbfmldlabStG
import Derived.Test.YtecipjdbfmldlabFitA
import Derived.Test.YtecipjdbfmldlabBitB
import Derived.Maps.Views
namespace Go.Proofs.Ytecipjdbfmldlab
set_option linter.unusedVariables false
set_option linter.unusedSimpArgs false
open Go.RowKit Go.Deep Go.Maps

theorem ba_ext {a b : ByteArray} (h : a.data.toList = b.data.toList) : a = b := by
  cases a; cases b
  simp at h
  simp [h]
theorem ba_toList (a : ByteArray) : a.toList = a.data.toList := ByteArray.toList_eq a
theorem nkey_inj {a b : ByteArray} (h : nkey a = nkey b) : a = b := by
  simp at h
  exact ba_ext (by simpa using h)

/-- The first k packs have their numbers. -/
structure NumsOk (l : List PackD) (k : Nat) (D : DataW Unit) (num : List Int) : Prop where
  len : num.length = k
  tidy : Tidy D
  at' : ∀ i, i < k → numOf D (l.getD i dPack).name = num.getD i 0
  pos : ∀ i, i < k → num.getD i 0 ≠ 0
  top : ∀ i, i < k → num.getD i 0 ≤ (Maps.size D : Int)
  has' : ∀ nm, Maps.has D (nkey nm) = true → ∃ i, i < k ∧ (l.getD i dPack).name = nm
  zero : ∀ nm, numOf D nm ≠ 0 → ∃ i, i < k ∧ (l.getD i dPack).name = nm
  inj : ∀ i j, i < k → j < k → num.getD i 0 = num.getD j 0 → (l.getD i dPack).name = (l.getD j dPack).name

theorem numOf_at {D : DataW Unit} {nm : ByteArray} {c : Int} (h : D.atKey (nkey nm) (i64D 0) = i64D c) : numOf D nm = c := by
  unfold numOf; rw [h]

theorem NumsOk.empty (l : List PackD) : NumsOk l 0 (.map []) [] := by
  refine ⟨rfl, tidy_empty, ?_, ?_, ?_, ?_, ?_, ?_⟩
  · intro i hi; omega
  · intro i hi; omega
  · intro i hi; omega
  · intro nm h; simp [Maps.has] at h
  · intro nm h; exact absurd rfl h
  · intro i j hi; omega

theorem getD_snoc_lt {l : List Int} {c : Int} {i : Nat} (h : i < l.length) : (l ++ [c]).getD i 0 = l.getD i 0 := by
  simp [List.getD, List.getElem?_append, h]
theorem getD_snoc_eq {l : List Int} {c : Int} : (l ++ [c]).getD l.length 0 = c := by
  simp [List.getD]

theorem NumsOk.step {l : List PackD} {k : Nat} {D D' : DataW Unit} {num : List Int} {c : Int} (h : NumsOk l k D num) (hs : NumStep D (l.getD k dPack).name c D') (ht : Tidy D') : NumsOk l (k + 1) D' (num ++ [c]) := by
  obtain ⟨h0, h1, h2, h3, h4, h5, h6, h7⟩ := h
  have gl : ∀ i, i < k → (num ++ [c]).getD i 0 = num.getD i 0 := fun i hi => getD_snoc_lt (by omega)
  have ge : (num ++ [c]).getD k 0 = c := by rw [← h0]; exact getD_snoc_eq
  rcases hs with ⟨hc, rfl, hat⟩ | ⟨hat, hc, rfl⟩
  · have hn := numOf_at hat
    obtain ⟨j, hj, hjn⟩ := h6 _ (by rw [hn]; exact hc)
    have hjc : num.getD j 0 = c := by rw [← h2 j hj, hjn, hn]
    refine ⟨by simp [h0], ht, ?_, ?_, ?_, ?_, ?_, ?_⟩
    · intro i hi
      by_cases e : i = k
      · subst e; rw [ge, hn]
      · rw [gl i (by omega)]; exact h2 i (by omega)
    · intro i hi
      by_cases e : i = k
      · subst e; rw [ge]; exact hc
      · rw [gl i (by omega)]; exact h3 i (by omega)
    · intro i hi
      by_cases e : i = k
      · subst e; rw [ge, ← hjc]; exact h4 j hj
      · rw [gl i (by omega)]; exact h4 i (by omega)
    · intro nm hh
      obtain ⟨i, hi, he⟩ := h5 nm hh
      exact ⟨i, by omega, he⟩
    · intro nm hh
      obtain ⟨i, hi, he⟩ := h6 nm hh
      exact ⟨i, by omega, he⟩
    · intro i i' hi hi' he
      by_cases e : i = k
      · subst e
        by_cases e' : i' = i
        · rw [e']
        · rw [ge, gl i' (by omega), ← hjc] at he
          rw [← hjn]
          exact h7 j i' hj (by omega) he
      · by_cases e' : i' = k
        · subst e'
          rw [ge, gl i (by omega), ← hjc] at he
          rw [← hjn]
          exact h7 i j (by omega) hj he
        · rw [gl i (by omega), gl i' (by omega)] at he
          exact h7 i i' (by omega) (by omega) he
  · have hn := numOf_at hat
    have hkey : WideAt.IsKeyLit (nkey (l.getD k dPack).name) := trivial
    have hno : Maps.has D (nkey (l.getD k dPack).name) = false := by
      cases hh : Maps.has D (nkey (l.getD k dPack).name) with
      | false => rfl
      | true =>
        obtain ⟨i, hi, he⟩ := h5 _ hh
        have := h2 i hi
        rw [he, hn] at this
        exact absurd this.symm (h3 i hi)
    have hsz : Maps.size (D.put (nkey (l.getD k dPack).name) (i64D c)) = Maps.size D + 1 := by rw [size_put h1, hno]; rfl
    have hsame : numOf (D.put (nkey (l.getD k dPack).name) (i64D c)) (l.getD k dPack).name = c := numOf_at (atKey_put_same h1.isMap hkey _ _)
    have hother : ∀ nm, nm ≠ (l.getD k dPack).name → numOf (D.put (nkey (l.getD k dPack).name) (i64D c)) nm = numOf D nm := fun nm hne => by
      unfold numOf
      rw [atKey_put_other (fun e => hne (nkey_inj e))]
    have hne : ∀ i, i < k → (l.getD i dPack).name ≠ (l.getD k dPack).name := fun i hi e => by
      have := h2 i hi
      rw [e, hn] at this
      exact h3 i hi this.symm
    refine ⟨by simp [h0], ht, ?_, ?_, ?_, ?_, ?_, ?_⟩
    · intro i hi
      by_cases e : i = k
      · subst e; rw [ge, hsame]
      · rw [gl i (by omega), hother _ (hne i (by omega))]; exact h2 i (by omega)
    · intro i hi
      by_cases e : i = k
      · subst e; rw [ge]; omega
      · rw [gl i (by omega)]; exact h3 i (by omega)
    · intro i hi
      rw [hsz]
      by_cases e : i = k
      · subst e; rw [ge]; omega
      · rw [gl i (by omega)]; have := h4 i (by omega); omega
    · intro nm hh
      by_cases e : nm = (l.getD k dPack).name
      · exact ⟨k, by omega, e.symm⟩
      · rw [has_put_other (fun x => e (nkey_inj x))] at hh
        obtain ⟨i, hi, he⟩ := h5 nm hh
        exact ⟨i, by omega, he⟩
    · intro nm hh
      by_cases e : nm = (l.getD k dPack).name
      · exact ⟨k, by omega, e.symm⟩
      · rw [hother nm e] at hh
        obtain ⟨i, hi, he⟩ := h6 nm hh
        exact ⟨i, by omega, he⟩
    · intro i i' hi hi' he
      by_cases e : i = k
      · subst e
        by_cases e' : i' = i
        · rw [e']
        · rw [ge, gl i' (by omega)] at he
          have := h4 i' (by omega)
          omega
      · by_cases e' : i' = k
        · subst e'
          rw [ge, gl i (by omega)] at he
          have := h4 i (by omega)
          omega
        · rw [gl i (by omega), gl i' (by omega)] at he
          exact h7 i i' (by omega) (by omega) he

/-- By numbers a pack fits just as by names. -/
theorem NumsOk.fits {l : List PackD} {D : DataW Unit} {num : List Int} (h : NumsOk l l.length D num) (q : ReqD) {i : Nat} (hi : i < l.length) : fitP D (fun i => num.getD i 0) l q i = fitsB q (l.getD i dPack) := by
  unfold fitP fitsB
  congr 1
  rw [Bool.eq_iff_iff, decide_eq_true_eq, beq_iff_eq]
  constructor
  · intro e
    obtain ⟨j, hj, hjn⟩ := h.zero q.name (by rw [← e]; exact h.pos i hi)
    rw [← hjn]
    have h2 := h.at' j hj
    rw [hjn, ← e] at h2
    rw [h.inj i j hi hj h2]
  · intro e
    have e1 : (l.getD i dPack).name = q.name := ba_ext (by rw [← ba_toList, ← ba_toList]; exact e)
    rw [← e1, h.at' i hi]

theorem bitsTo_congr {p q : Nat → Bool} : ∀ {k : Nat}, (∀ i, i < k → p i = q i) → bitsTo p k = bitsTo q k
  | 0, _ => rfl
  | k + 1, h => by
    unfold bitsTo
    rw [bitsTo_congr (fun i hi => h i (by omega)), h k (by omega)]
theorem test_bitsTo (p : Nat → Bool) : ∀ (k i : Nat), (bitsTo p k).testBit i = (decide (i < k) && p i)
  | 0, i => by simp [bitsTo]
  | k + 1, i => by
    unfold bitsTo
    split
    · rename_i hk
      rw [Nat.testBit_or, test_bitsTo p k i, Nat.testBit_two_pow]
      by_cases e : k = i
      · subst e; simp [hk]
      · have : (decide (i < k + 1)) = decide (i < k) := by
          rw [decide_eq_decide]; omega
        simp [e, this]
    · rename_i hk
      rw [test_bitsTo p k i]
      by_cases e : k = i
      · subst e; simp at hk; simp [hk]
      · have : (decide (i < k + 1)) = decide (i < k) := by
          rw [decide_eq_decide]; omega
        simp [this]
theorem orTo_bits (f : Nat → Nat → Bool) (n : Nat) : ∀ k, orTo (fun j => bitsTo (f j) n) k = bitsTo (fun i => (List.range k).any fun j => f j i) n
  | 0 => by
    apply Nat.eq_of_testBit_eq
    intro i
    rw [test_bitsTo]
    simp [orTo]
  | k + 1 => by
    apply Nat.eq_of_testBit_eq
    intro i
    unfold orTo
    rw [orTo_bits f n k, Nat.testBit_or, test_bitsTo, test_bitsTo, test_bitsTo, List.range_succ]
    simp only [List.any_append, List.any_cons, List.any_nil, Bool.or_false]
    cases decide (i < n) <;> simp
theorem without_bits (p : Nat → Bool) (n i : Nat) (hn : n ≤ 16) (hi : i < 16) : bitsTo p n &&& (18446744073709551615 - 2 ^ i) = bitsTo (fun j => p j && decide (j ≠ i)) n := by
  apply Nat.eq_of_testBit_eq
  intro j
  rw [Nat.testBit_and, test_bitsTo, test_bitsTo]
  by_cases hj : j < n
  · have e1 : (18446744073709551615 - 2 ^ i).testBit j = decide (j ≠ i) := by
      have hj16 : j < 16 := by omega
      have e2 : 18446744073709551615 - 2 ^ i = 2 ^ 64 - (2 ^ i + 1) := by omega
      rw [e2, Nat.testBit_two_pow_sub_succ (by have := pow_small i hi; omega), Nat.testBit_two_pow]
      have : j < 64 := by omega
      by_cases e : i = j
      · subst e; simp
      · have : ¬ j = i := fun x => e x.symm
        simp [e, this]; omega
    rw [e1, Bool.and_assoc]
  · simp [hj]
/-- One of some requests is fit. -/
def anyB (reqs : List ReqD) (p : PackD) : Bool := reqs.any fun q => fitsB q p
theorem NumsOk.fitsAny {l : List PackD} {D : DataW Unit} {num : List Int} (h : NumsOk l l.length D num) (reqs : List ReqD) : fitAny D (fun i => num.getD i 0) l reqs reqs.length = bitsTo (fun i => anyB reqs (l.getD i dPack)) l.length := by
  unfold fitAny
  rw [orTo_bits]
  apply bitsTo_congr
  intro i hi
  unfold anyB
  rw [Bool.eq_iff_iff, List.any_eq_true, List.any_eq_true]
  constructor
  · rintro ⟨j, hj, hf⟩
    have hj' := List.mem_range.1 hj
    exact ⟨reqs.getD j dReq, getD_mem hj', by rw [← h.fits _ hi]; exact hf⟩
  · rintro ⟨q, hq, hf⟩
    obtain ⟨j, hj, he⟩ := List.getElem_of_mem hq
    refine ⟨j, List.mem_range.2 hj, ?_⟩
    have : reqs.getD j dReq = q := by simp [List.getD, hj, he]
    rw [this, h.fits _ hi]
    exact hf
end Go.Proofs.Ytecipjdbfmldlab
