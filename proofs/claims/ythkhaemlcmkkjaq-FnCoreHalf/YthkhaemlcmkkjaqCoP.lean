/- Clauses of few variables by bits, and their models: pure. -/
import Derived.Test.YthkhaemlcmkkjaqGSpec
import Derived.Test.YthkhaemlcmkkjaqGBase
import Derived.OwnWalk
import Derived.Deep.AppendLies
import Derived.Test.YthkhaemlcmkkjaqGStA
import Derived.Test.YthkhaemlcmkkjaqGCn
namespace Go.Proofs.Ythkhaemlcmkkjaq
set_option linter.unusedVariables false
set_option linter.unusedSimpArgs false
open Go.RowKit Go.Deep

theorem wr_u16 (n : Nat) (h : n < 65536) : IntKind.u16.wrap (n : Int) = (n : Int) := by
  rw [IntKind.wrap_u16]; omega
theorem bv_nat16 (a : Nat) (h : a < 65536) : (BitVec.ofInt 16 (a : Int)).toNat = a := by
  rw [BitVec.ofInt_natCast, BitVec.toNat_ofNat]; exact Nat.mod_eq_of_lt (by omega)
theorem bits_or16 (a b : Nat) (ha : a < 65536) (hb : b < 65536) : bits .or .u16 (a : Int) (b : Int) = ((a ||| b : Nat) : Int) := by
  have hx : a ||| b < 2 ^ 16 := Nat.or_lt_two_pow (by omega) (by omega)
  show IntKind.u16.wrap ((BitVec.ofInt 16 (a : Int) ||| BitVec.ofInt 16 (b : Int)).toNat : Int) = _
  rw [BitVec.toNat_or, bv_nat16 a ha, bv_nat16 b hb, wr_u16 _ (by omega)]
theorem bits_and16 (a b : Nat) (ha : a < 65536) (hb : b < 65536) : bits .and .u16 (a : Int) (b : Int) = ((a &&& b : Nat) : Int) := by
  have hx : a &&& b < 2 ^ 16 := Nat.lt_of_le_of_lt Nat.and_le_left (by omega)
  show IntKind.u16.wrap ((BitVec.ofInt 16 (a : Int) &&& BitVec.ofInt 16 (b : Int)).toNat : Int) = _
  rw [BitVec.toNat_and, bv_nat16 a ha, bv_nat16 b hb, wr_u16 _ (by omega)]
theorem bits_not16 (a b : Nat) (ha : a < 65536) (hb : b < 65536) : bits .andNot .u16 (a : Int) (b : Int) = ((a &&& (65535 - b) : Nat) : Int) := by
  have hx : a &&& (65535 - b) < 2 ^ 16 := Nat.lt_of_le_of_lt Nat.and_le_left (by omega)
  show IntKind.u16.wrap ((BitVec.ofInt 16 (a : Int) &&& ~~~ BitVec.ofInt 16 (b : Int)).toNat : Int) = _
  rw [BitVec.toNat_and, BitVec.toNat_not, bv_nat16 a ha, bv_nat16 b hb]
  rw [show 2 ^ 16 - 1 - b = 65535 - b by omega]
  exact wr_u16 _ (by omega)
/-- A clause's two sets of bits. -/
def soStep (b : Nat) (x : Int) : Nat := if 0 < x then b ||| 2 ^ (x.toNat - 1) else b
def notStep (b : Nat) (x : Int) : Nat := if 0 < x then b else b ||| 2 ^ ((-x).toNat - 1)
def soN (c : List Int) : Nat := c.foldl soStep 0
def notN (c : List Int) : Nat := c.foldl notStep 0
theorem soN_take {c : List Int} {k : Nat} (h : k < c.length) : soN (c.take (k + 1)) = soStep (soN (c.take k)) (c.getD k 0) := by
  unfold soN
  rw [List.take_add_one, List.foldl_append]
  simp [List.getD, h]
theorem notN_take {c : List Int} {k : Nat} (h : k < c.length) : notN (c.take (k + 1)) = notStep (notN (c.take k)) (c.getD k 0) := by
  unfold notN
  rw [List.take_add_one, List.foldl_append]
  simp [List.getD, h]
theorem foldl_bit (f : Nat → Int → Nat) (q : Int → Nat → Bool) (hf : ∀ b x i, (f b x).testBit i = (b.testBit i || q x i)) : ∀ (c : List Int) (b i : Nat), (c.foldl f b).testBit i = (b.testBit i || c.any (fun x => q x i))
  | [], b, i => by simp
  | x :: c, b, i => by rw [List.foldl_cons, foldl_bit f q hf c, hf, List.any_cons, Bool.or_assoc]
theorem soN_bit (c : List Int) (i : Nat) : (soN c).testBit i = c.any (fun x => decide (0 < x) && decide (x.toNat - 1 = i)) := by
  unfold soN
  rw [foldl_bit soStep (fun x i => decide (0 < x) && decide (x.toNat - 1 = i)) (fun b x i => ?_)]
  · simp
  · unfold soStep
    by_cases h : 0 < x
    · rw [if_pos h, Nat.testBit_or, Nat.testBit_two_pow, decide_eq_true h, Bool.true_and]
    · rw [if_neg h, decide_eq_false h]; simp
theorem notN_bit (c : List Int) (i : Nat) : (notN c).testBit i = c.any (fun x => !decide (0 < x) && decide ((-x).toNat - 1 = i)) := by
  unfold notN
  rw [foldl_bit notStep (fun x i => !decide (0 < x) && decide ((-x).toNat - 1 = i)) (fun b x i => ?_)]
  · simp
  · unfold notStep
    by_cases h : 0 < x
    · rw [if_pos h, decide_eq_true h]; simp
    · rw [if_neg h, Nat.testBit_or, Nat.testBit_two_pow, decide_eq_false h]; simp
theorem lit_small {vars x : Int} (hv : vars ≤ 10) (h : litB vars x = true) : x ≠ 0 ∧ -10 ≤ x ∧ x ≤ 10 := by
  obtain ⟨h1, h2, h3⟩ := lit_parts h
  omega
theorem pow10 {k : Nat} (h : k ≤ 9) : 2 ^ k < 2 ^ 10 := Nat.pow_lt_pow_right (by omega) (by omega)
theorem soStep_lt {b : Nat} {x : Int} (hb : b < 2 ^ 10) (hx : x ≤ 10) : soStep b x < 2 ^ 10 := by
  unfold soStep
  split
  · exact Nat.or_lt_two_pow hb (pow10 (by omega))
  · exact hb
theorem notStep_lt {b : Nat} {x : Int} (hb : b < 2 ^ 10) (hx : -10 ≤ x) : notStep b x < 2 ^ 10 := by
  unfold notStep
  split
  · exact hb
  · exact Nat.or_lt_two_pow hb (pow10 (by omega))
theorem fold_lt {f : Nat → Int → Nat} : ∀ (c : List Int) (b : Nat), (∀ x, x ∈ c → ∀ b, b < 2 ^ 10 → f b x < 2 ^ 10) → b < 2 ^ 10 → c.foldl f b < 2 ^ 10
  | [], b, _, hb => hb
  | x :: c, b, h, hb => fold_lt c _ (fun y hy => h y (List.mem_cons_of_mem _ hy)) (h x (List.mem_cons_self ..) b hb)
theorem soN_lt {c : List Int} (h : ∀ x, x ∈ c → x ≤ 10) : soN c < 1024 := fold_lt c 0 (fun x hx b hb => soStep_lt hb (h x hx)) (by omega)
theorem notN_lt {c : List Int} (h : ∀ x, x ∈ c → -10 ≤ x) : notN c < 1024 := fold_lt c 0 (fun x hx b hb => notStep_lt hb (h x hx)) (by omega)
/-- A clause holds in a model of bits. -/
def fulB (m : Nat) (c : List Int) : Bool := decide (m &&& soN c ≠ 0) || decide (notN c &&& (65535 - m) ≠ 0)
theorem and_bit {a b : Nat} : a &&& b ≠ 0 ↔ ∃ i, a.testBit i = true ∧ b.testBit i = true := by
  constructor
  · intro h
    obtain ⟨i, hi⟩ := Nat.exists_testBit_of_ne_zero h
    rw [Nat.testBit_and, Bool.and_eq_true] at hi
    exact ⟨i, hi⟩
  · rintro ⟨i, h1, h2⟩ h0
    have := congrArg (fun n => Nat.testBit n i) h0
    simp [h1, h2] at this
/-- A model of bits as what is so. -/
def bitsM (vars n : Nat) : List Bool := (List.range vars).map fun i => n.testBit i
theorem bitsM_len (vars n : Nat) : (bitsM vars n).length = vars := by simp [bitsM]
theorem bitsM_at {vars n i : Nat} (h : i < vars) : (bitsM vars n).getD i false = n.testBit i := by simp [bitsM, List.getD, h]
theorem so_bits {vars m : Nat} {x : Int} (h : litB (vars : Int) x = true) : soB (bitsM vars m) x = if 0 < x then m.testBit (x.toNat - 1) else !m.testBit ((-x).toNat - 1) := by
  obtain ⟨h1, h2, h3⟩ := lit_parts h
  unfold soB
  by_cases h0 : 0 < x
  · rw [if_pos h0, if_pos h0, bitsM_at (by omega), show (x - 1).toNat = x.toNat - 1 by omega]
  · rw [if_neg h0, if_neg h0, bitsM_at (by omega), show (-x - 1).toNat = (-x).toNat - 1 by omega]
theorem ful_is {vars m : Nat} {c : List Int} (hv : vars ≤ 10) (hm : m < 2 ^ vars) (h : ∀ x, x ∈ c → litB (vars : Int) x = true) : fulB m c = holdsB (bitsM vars m) c := by
  have h64 : m < 2 ^ 16 := Nat.lt_of_lt_of_le hm (Nat.pow_le_pow_right (by omega) (by omega))
  have hbit : ∀ i, (65535 - m).testBit i = (decide (i < 16) && !m.testBit i) := fun i => by
    rw [show 65535 - m = 2 ^ 16 - (m + 1) by omega, Nat.testBit_two_pow_sub_succ h64]
  rw [Bool.eq_iff_iff]
  unfold fulB holdsB
  rw [Bool.or_eq_true, decide_eq_true_eq, decide_eq_true_eq, and_bit, and_bit, List.any_eq_true]
  constructor
  · rintro (⟨i, h1, h2⟩ | ⟨i, h1, h2⟩)
    · rw [soN_bit, List.any_eq_true] at h2
      obtain ⟨x, hx, h3⟩ := h2
      simp only [Bool.and_eq_true, decide_eq_true_eq] at h3
      exact ⟨x, hx, by rw [so_bits (h x hx), if_pos h3.1, h3.2]; exact h1⟩
    · rw [notN_bit, List.any_eq_true] at h1
      obtain ⟨x, hx, h3⟩ := h1
      simp only [Bool.and_eq_true, Bool.not_eq_true', decide_eq_true_eq, decide_eq_false_iff_not] at h3
      rw [hbit, Bool.and_eq_true] at h2
      exact ⟨x, hx, by rw [so_bits (h x hx), if_neg h3.1, h3.2]; exact h2.2⟩
  · rintro ⟨x, hx, hs⟩
    obtain ⟨hx1, hx2, hx3⟩ := lit_parts (h x hx)
    rw [so_bits (h x hx)] at hs
    by_cases h0 : 0 < x
    · rw [if_pos h0] at hs
      exact .inl ⟨_, hs, by rw [soN_bit, List.any_eq_true]; exact ⟨x, hx, by simp [h0]⟩⟩
    · rw [if_neg h0] at hs
      exact .inr ⟨(-x).toNat - 1, by rw [notN_bit, List.any_eq_true]; exact ⟨x, hx, by simp [h0] <;> omega⟩, by rw [hbit, hs]; simp <;> omega⟩
/-- All models of few variables, by bits. -/
def holdN (vars : Nat) (cs : List (List Int)) (b : Nat) : Bool := cs.all (holdsB (bitsM vars b))
def modelsN (vars : Nat) (cs : List (List Int)) : List Nat := (List.range (2 ^ vars)).filter (holdN vars cs)
def smallB (vars : Int) (cs : List (List Int)) : Bool := cnfB vars cs && (decide (vars ≤ 10) && decide (cs.length ≤ 60))
/-- What CoreCount answers. -/
def countZ (vars : Int) (cs : List (List Int)) : Int := if smallB vars cs then ((modelsN vars.toNat cs).length : Int) else -1
theorem small_parts {vars : Int} {cs : List (List Int)} (h : smallB vars cs = true) : cnfB vars cs = true ∧ vars ≤ 10 ∧ cs.length ≤ 60 := by
  simp only [smallB, Bool.and_eq_true, decide_eq_true_eq] at h
  exact ⟨h.1, h.2.1, h.2.2⟩
theorem cnf_rng {vars : Int} {cs : List (List Int)} (h : cnfB vars cs = true) : 0 ≤ vars ∧ vars ≤ 400 ∧ ∀ c, c ∈ cs → c.length ≤ 400 ∧ ∀ x, x ∈ c → litB vars x = true := by
  simp only [cnfB, Bool.and_eq_true, decide_eq_true_eq, List.all_eq_true] at h
  have h1 := h.1
  simp [inB] at h1
  refine ⟨h1.1, h1.2, fun c hc => ?_⟩
  have h2 := h.2.2 c hc
  simp only [litsB, Bool.and_eq_true, decide_eq_true_eq, List.all_eq_true] at h2
  exact h2
/-- The first of them. -/
def modelsTo (vars : Nat) (cs : List (List Int)) (k : Nat) : List Nat := (List.range k).filter (holdN vars cs)
theorem models_more (vars : Nat) (cs : List (List Int)) (k : Nat) : modelsTo vars cs (k + 1) = if holdN vars cs k then modelsTo vars cs k ++ [k] else modelsTo vars cs k := by
  unfold modelsTo
  rw [List.range_succ, List.filter_append]
  by_cases h : holdN vars cs k = true
  · rw [if_pos h]; simp [h]
  · rw [if_neg h]; simp [h]
theorem models_len (vars : Nat) (cs : List (List Int)) (k : Nat) : (modelsTo vars cs k).length ≤ k := by
  have := List.length_filter_le (holdN vars cs) (List.range k)
  rw [List.length_range] at this
  exact this
theorem true_bits {vars b : Nat} {cs : List (List Int)} (h : cnfB (vars : Int) cs = true) : cnfTrueB (vars : Int) cs (bitsM vars b) = holdN vars cs b := by
  unfold cnfTrueB holdN
  rw [h, bitsM_len, decide_eq_true rfl, Bool.true_and, Bool.true_and]
theorem ful_all {vars b : Nat} {cs : List (List Int)} (h : cnfB (vars : Int) cs = true) (hv : vars ≤ 10) (hb : b < 2 ^ vars) : cs.all (fulB b) = holdN vars cs b := by
  unfold holdN
  rw [Bool.eq_iff_iff, List.all_eq_true, List.all_eq_true]
  have hp := (cnf_rng h).2.2
  constructor <;> intro hh c hc
  · rw [← ful_is hv hb (hp c hc).2]; exact hh c hc
  · rw [ful_is hv hb (hp c hc).2]; exact hh c hc
/-- A model as a number. -/
def numM : List Bool → Nat
  | [] => 0
  | b :: m => 2 * numM m + (if b then 1 else 0)
theorem numM_lt : ∀ m : List Bool, numM m < 2 ^ m.length
  | [] => by simp [numM]
  | b :: m => by
    have := numM_lt m
    rw [numM, List.length_cons, Nat.pow_succ]
    split <;> omega
theorem numM_bit : ∀ (m : List Bool) (i : Nat), i < m.length → (numM m).testBit i = m.getD i false
  | b :: m, 0, _ => by
    rw [numM, Nat.testBit_zero]
    cases b <;> simp <;> omega
  | b :: m, i + 1, h => by
    rw [numM, Nat.testBit_succ, show (2 * numM m + (if b then 1 else 0)) / 2 = numM m by split <;> omega, numM_bit m i (by simpa using h)]
    simp
theorem bits_num (m : List Bool) : bitsM m.length (numM m) = m := by
  apply List.ext_getElem
  · exact bitsM_len _ _
  · intro i h1 h2
    have := bitsM_at (vars := m.length) (n := numM m) h2
    rw [numM_bit m i h2] at this
    simpa [List.getD, h1, h2] using this
/-- Some model is one of bits. -/
theorem models_some {vars : Int} {cs : List (List Int)} {m : List Bool} (h : cnfTrueB vars cs m = true) : ∃ b, b ∈ modelsN vars.toNat cs := by
  have hh := h
  unfold cnfTrueB at hh
  simp only [Bool.and_eq_true, decide_eq_true_eq] at hh
  obtain ⟨h1, h2, h3⟩ := hh
  have hv : vars.toNat = m.length := by omega
  refine ⟨numM m, ?_⟩
  rw [hv]
  unfold modelsN
  rw [List.mem_filter, List.mem_range]
  refine ⟨numM_lt m, ?_⟩
  unfold holdN
  rw [bits_num]
  exact h3
theorem models_true {vars : Int} {cs : List (List Int)} {b : Nat} (hok : cnfB vars cs = true) (h : b ∈ modelsN vars.toNat cs) : cnfTrueB vars cs (bitsM vars.toNat b) = true := by
  have hv := (cnf_rng hok).1
  have h2 := (List.mem_filter.1 h).2
  have h3 := true_bits (vars := vars.toNat) (b := b) (cs := cs) (by rw [show ((vars.toNat : Nat) : Int) = vars by omega]; exact hok)
  rw [show ((vars.toNat : Nat) : Int) = vars by omega] at h3
  rw [h3]
  exact h2
end Go.Proofs.Ythkhaemlcmkkjaq
