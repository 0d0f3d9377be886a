/- What follows at once from literals; pure. The search for the first model, or a refutation; pure. What CnfUnits answers, and what holds of it; pure. What follows from what follows; pure. What is known, and clauses that are watched: what holds of them; pure. Clauses taken up, marks, and what is undone; pure. A literal is gone: its clauses are looked at, one by one; pure. The specification's count of open literals; pure. -/
import Derived.Test.YthkhaemlcmkkjarGBase
import Derived.Test.YthkhaemlcmkkjarGCn
namespace Go.Proofs.Ythkhaemlcmkkjar
set_option linter.unusedVariables false
set_option linter.unusedSimpArgs false

/-- What follows at once from literals. -/
inductive UP (cs : List (List Int)) (ls : List Int) : Int → Prop
  | given {x : Int} : x ∈ ls → UP cs ls x
  | unit {c : List Int} {x : Int} : c ∈ cs → x ∈ c → (∀ y, y ∈ c → y ≠ x → UP cs ls (-y)) → UP cs ls x
/-- It cannot be. -/
def Conf (cs : List (List Int)) (ls : List Int) : Prop := [] ∈ cs ∨ ∃ x, UP cs ls x ∧ UP cs ls (-x)
/-- What a literal is by what is known of variables: 1, -1 or 0. -/
def valK (K : Nat → Int) (x : Int) : Int := if x < 0 then -K x.natAbs else K x.natAbs
/-- Each is 1, -1 or 0. -/
def TriK (K : Nat → Int) : Prop := ∀ v, K v = 1 ∨ K v = 0 ∨ K v = -1
theorem valK_neg (K : Nat → Int) {x : Int} (hx : x ≠ 0) : valK K (-x) = -valK K x := by
  unfold valK
  by_cases h : x < 0
  · rw [if_neg (by omega), if_pos h, Int.natAbs_neg, Int.neg_neg]
  · rw [if_pos (by omega), if_neg h, Int.natAbs_neg]
theorem valK_tri {K : Nat → Int} (h : TriK K) (x : Int) : valK K x = 1 ∨ valK K x = 0 ∨ valK K x = -1 := by
  unfold valK
  rcases h x.natAbs with e | e | e <;> rw [e] <;> split <;> simp
/-- All numbers are literals (not 0). -/
def NzL (ls : List Int) : Prop := ∀ x, x ∈ ls → x ≠ 0
def NzC (cs : List (List Int)) : Prop := ∀ c, c ∈ cs → NzL c
theorem UP.nz {cs : List (List Int)} {ls : List Int} (hc : NzC cs) (hl : NzL ls) {x : Int} (h : UP cs ls x) : x ≠ 0 := by
  induction h with
  | given h => exact hl _ h
  | unit h1 h2 _ _ => exact hc _ h1 _ h2
theorem UP.cut {cs cs' : List (List Int)} {ls ls' : List Int} (hc : ∀ c, c ∈ cs → c ∈ cs') (hl : ∀ x, x ∈ ls → UP cs' ls' x) {x : Int} (h : UP cs ls x) : UP cs' ls' x := by
  induction h with
  | given h => exact hl _ h
  | unit h1 h2 _ ih => exact .unit (hc _ h1) h2 ih
theorem UP.mono {cs cs' : List (List Int)} {ls ls' : List Int} (hc : ∀ c, c ∈ cs → c ∈ cs') (hl : ∀ x, x ∈ ls → x ∈ ls') {x : Int} (h : UP cs ls x) : UP cs' ls' x := h.cut hc fun x hx => .given (hl x hx)
theorem Conf.cut {cs cs' : List (List Int)} {ls ls' : List Int} (hc : ∀ c, c ∈ cs → c ∈ cs') (hl : ∀ x, x ∈ ls → UP cs' ls' x) (h : Conf cs ls) : Conf cs' ls' := by
  rcases h with h | ⟨x, h1, h2⟩
  · exact .inl (hc _ h)
  · exact .inr ⟨x, h1.cut hc hl, h2.cut hc hl⟩
theorem Conf.mono {cs cs' : List (List Int)} {ls ls' : List Int} (hc : ∀ c, c ∈ cs → c ∈ cs') (hl : ∀ x, x ∈ ls → x ∈ ls') (h : Conf cs ls) : Conf cs' ls' := h.cut hc fun x hx => .given (hl x hx)

/-- All that is known follows. -/
def SoundK (cs : List (List Int)) (ls : List Int) (K : Nat → Int) : Prop := ∀ x, x ≠ 0 → valK K x = 1 → UP cs ls x
/-- A clause holds, or leaves two open. -/
def OpenK (K : Nat → Int) (c : List Int) : Prop := (∃ x ∈ c, valK K x = 1) ∨ ∃ x ∈ c, ∃ y ∈ c, x ≠ y ∧ valK K x = 0 ∧ valK K y = 0
/-- Nothing more follows. -/
def FullK (cs : List (List Int)) (ls : List Int) (K : Nat → Int) : Prop := (∀ x, x ∈ ls → valK K x = 1) ∧ ∀ c, c ∈ cs → OpenK K c
section
variable {cs : List (List Int)} {ls : List Int} {K : Nat → Int}
theorem FullK.up (hc : NzC cs) (h : FullK cs ls K) {x : Int} (hx : UP cs ls x) : valK K x = 1 := by
  induction hx with
  | given hx => exact h.1 _ hx
  | @unit c x h1 h2 _ ih =>
    have hlow : ∀ y, y ∈ c → y ≠ x → valK K y = -1 := fun y hy hne => by
      have := ih y hy hne
      rw [valK_neg K (hc c h1 y hy)] at this
      omega
    rcases h.2 c h1 with ⟨y, hy, hv⟩ | ⟨y, hy, z, hz, hne, hvy, hvz⟩
    · by_cases e : y = x
      · rw [← e]; exact hv
      · have := hlow y hy e; omega
    · by_cases e : y = x
      · have := hlow z hz (fun e2 => hne (e.trans e2.symm)); omega
      · have := hlow y hy e; omega
theorem FullK.fine (hc : NzC cs) (hl : NzL ls) (h : FullK cs ls K) : ¬ Conf cs ls := by
  rintro (h0 | ⟨x, h1, h2⟩)
  · rcases h.2 _ h0 with ⟨y, hy, _⟩ | ⟨y, hy, _⟩ <;> cases hy
  · have e1 := h.up hc h1
    have e2 := h.up hc h2
    rw [valK_neg K (h1.nz hc hl)] at e2
    omega
theorem conf_false (hc : NzC cs) (hs : SoundK cs ls K) {c : List Int} (h1 : c ∈ cs) (h2 : ∀ x, x ∈ c → valK K x = -1) : Conf cs ls := by
  cases c with
  | nil => exact .inl h1
  | cons x c =>
    have hneg : ∀ y, y ∈ x :: c → UP cs ls (-y) := fun y hy => hs _ (by have := hc _ h1 y hy; omega) (by rw [valK_neg K (hc _ h1 y hy), h2 y hy]; rfl)
    exact .inr ⟨x, .unit h1 (by simp) (fun y hy _ => hneg y hy), hneg x (by simp)⟩
theorem conf_both (hs : SoundK cs ls K) {x : Int} (hx : x ≠ 0) (h1 : UP cs ls x) (h2 : valK K x = -1) : Conf cs ls :=
  .inr ⟨x, h1, hs _ (by omega) (by rw [valK_neg K hx, h2]; rfl)⟩
theorem unit_of (hc : NzC cs) (hs : SoundK cs ls K) {c : List Int} {x : Int} (h1 : c ∈ cs) (hx : x ∈ c) (h2 : ∀ y, y ∈ c → y ≠ x → valK K y = -1) : UP cs ls x :=
  .unit h1 hx fun y hy hne => hs _ (by have := hc _ h1 y hy; omega) (by rw [valK_neg K (hc _ h1 y hy), h2 y hy hne]; rfl)
/-- What is known of a variable, if one more literal is. -/
def setK (K : Nat → Int) (x : Int) : Nat → Int := fun v => if v = x.natAbs then (if x < 0 then -1 else 1) else K v
theorem setK_tri (h : TriK K) (x : Int) : TriK (setK K x) := fun v => by
  unfold setK
  split
  · split <;> simp
  · exact h v
theorem setK_val (K : Nat → Int) (x y : Int) (hx : x ≠ 0) : valK (setK K x) y = if y = x then 1 else if y = -x then -1 else valK K y := by
  unfold valK setK
  by_cases e : y.natAbs = x.natAbs
  · simp only [if_pos e]
    rcases Int.natAbs_eq_natAbs_iff.1 e with e2 | e2
    · rw [if_pos e2, e2]
      split <;> simp
    · have hne : ¬ y = x := by omega
      rw [if_neg hne, if_pos e2]
      by_cases hx0 : x < 0
      · rw [if_neg (by omega), if_pos hx0]
      · rw [if_pos (by omega), if_neg hx0]
  · have h1 : ¬ y = x := fun h => e (by rw [h])
    have h2 : ¬ y = -x := fun h => e (by rw [h, Int.natAbs_neg])
    simp only [if_neg e, if_neg h1, if_neg h2]
theorem SoundK.set (h : SoundK cs ls K) {x : Int} (hx : x ≠ 0) (hu : UP cs ls x) : SoundK cs ls (setK K x) := fun y hy hv => by
  rw [setK_val K x y hx] at hv
  by_cases e : y = x
  · rw [e]; exact hu
  · rw [if_neg e] at hv
    by_cases e2 : y = -x
    · rw [if_pos e2] at hv; omega
    · rw [if_neg e2] at hv; exact h y hy hv
end

open Classical in
/-- What is known of a variable by what follows at once. -/
noncomputable def upK (cs : List (List Int)) (ls : List Int) (v : Nat) : Int := if UP cs ls (v : Int) then 1 else if UP cs ls (-(v : Int)) then -1 else 0
open Classical in
noncomputable def confB (cs : List (List Int)) (ls : List Int) : Bool := decide (Conf cs ls)
theorem confB_iff {cs : List (List Int)} {ls : List Int} : confB cs ls = true ↔ Conf cs ls := by
  unfold confB
  by_cases h : Conf cs ls <;> simp [h]
theorem confB_true {cs : List (List Int)} {ls : List Int} (h : Conf cs ls) : confB cs ls = true := confB_iff.2 h
theorem confB_false {cs : List (List Int)} {ls : List Int} (h : ¬ Conf cs ls) : confB cs ls = false := by
  cases e : confB cs ls with
  | false => rfl
  | true => exact absurd (confB_iff.1 e) h
/-- What is known when nothing more follows. -/
theorem full_is {cs : List (List Int)} {ls : List Int} {K : Nat → Int} (hc : NzC cs) (ht : TriK K) (hs : SoundK cs ls K) (hf : FullK cs ls K) (v : Nat) (hv : v ≠ 0) : K v = upK cs ls v := by
  have e1 : valK K (v : Int) = K v := by unfold valK; rw [if_neg (by omega)]; rfl
  have e2 : valK K (-(v : Int)) = -K v := by rw [valK_neg K (by omega), e1]
  unfold upK
  by_cases h1 : UP cs ls (v : Int)
  · rw [if_pos h1, ← e1]; exact hf.up hc h1
  · rw [if_neg h1]
    by_cases h2 : UP cs ls (-(v : Int))
    · rw [if_pos h2]
      have := hf.up hc h2
      omega
    · rw [if_neg h2]
      rcases ht v with h | h | h
      · exact absurd (hs v (by omega) (by rw [e1, h])) h1
      · exact h
      · exact absurd (hs (-(v : Int)) (by omega) (by rw [e2, h]; rfl)) h2
theorem upK_tri (cs : List (List Int)) (ls : List Int) : TriK (upK cs ls) := fun v => by
  unfold upK
  split
  · simp
  · split <;> simp
theorem upK_val {cs : List (List Int)} {ls : List Int} (hc : NzC cs) (hl : NzL ls) (h : ¬ Conf cs ls) {x : Int} (hx : x ≠ 0) : valK (upK cs ls) x = 1 ↔ UP cs ls x := by
  have key : ∀ v : Nat, v ≠ 0 → (upK cs ls v = 1 ↔ UP cs ls (v : Int)) ∧ (upK cs ls v = -1 ↔ UP cs ls (-(v : Int))) := fun v hv => by
    unfold upK
    by_cases h1 : UP cs ls (v : Int)
    · have h2 : ¬ UP cs ls (-(v : Int)) := fun h2 => h (.inr ⟨_, h1, h2⟩)
      rw [if_pos h1]; simp [h1, h2]
    · rw [if_neg h1]
      by_cases h2 : UP cs ls (-(v : Int))
      · rw [if_pos h2]; simp [h1, h2]
      · rw [if_neg h2]; simp [h1, h2]
  have ⟨k1, k2⟩ := key x.natAbs (by omega)
  unfold valK
  by_cases hx0 : x < 0
  · rw [if_pos hx0]
    rw [show (-((x.natAbs : Nat) : Int)) = x by omega] at k2
    rw [← k2]; omega
  · rw [if_neg hx0]
    rw [show ((x.natAbs : Nat) : Int) = x by omega] at k1
    exact k1
end Go.Proofs.Ythkhaemlcmkkjar

namespace Go.Proofs.Ythkhaemlcmkkjar
set_option linter.unusedVariables false
set_option linter.unusedSimpArgs false

/-- The first variable from v on, of n, of which nothing is known; else the one behind. -/
def openF (K : Nat → Int) : Nat → Nat → Nat
  | 0, v => v
  | n + 1, v => if K v = 0 then v else openF K n (v + 1)
def openV (K : Nat → Int) (vars : Nat) : Nat := openF K vars 1
theorem openF_ge (K : Nat → Int) : ∀ n v, v ≤ openF K n v
  | 0, v => Nat.le_refl _
  | n + 1, v => by
    unfold openF
    split
    · exact Nat.le_refl _
    · have := openF_ge K n (v + 1); omega
theorem openF_le (K : Nat → Int) : ∀ n v, openF K n v ≤ v + n
  | 0, v => Nat.le_refl _
  | n + 1, v => by
    unfold openF
    split
    · omega
    · have := openF_le K n (v + 1); omega
theorem openF_low (K : Nat → Int) : ∀ n v u, v ≤ u → u < openF K n v → K u ≠ 0
  | 0, v, u, h1, h2 => by unfold openF at h2; omega
  | n + 1, v, u, h1, h2 => by
    unfold openF at h2
    split at h2
    · omega
    · rename_i h
      by_cases e : u = v
      · rw [e]; exact h
      · exact openF_low K n (v + 1) u (by omega) h2
theorem openF_at (K : Nat → Int) : ∀ n v, openF K n v < v + n → K (openF K n v) = 0
  | 0, v, h => by unfold openF at h; omega
  | n + 1, v, h => by
    unfold openF at h ⊢
    split
    · rename_i h0; exact h0
    · rename_i h0
      rw [if_neg h0] at h
      exact openF_at K n (v + 1) (by omega)
theorem openF_same {K K' : Nat → Int} : ∀ n v, 0 < v → (∀ u, u ≠ 0 → K u = K' u) → openF K n v = openF K' n v
  | 0, v, _, _ => rfl
  | n + 1, v, hv, h => by
    unfold openF
    rw [h v (by omega), openF_same n (v + 1) (by omega) h]
def modelK (K : Nat → Int) (vars : Nat) : List Bool := (List.range vars).map fun i => decide (0 < K (i + 1))
/-- Of each literal that it is not so. -/
def noL (ch : List Int) : List Int := ch.map fun x => -x
structure FindR where
  code : Int
  model : List Bool
  made : Nat
  proof : List (List Int)
/-- To search behind choices, n of which were made so far in the whole search. -/
noncomputable def findZ (cs : List (List Int)) (vars most : Nat) : Nat → List Int → Nat → FindR
  | 0, _, n => ⟨3, [], n, []⟩
  | k + 1, ch, n =>
    if confB cs ch = true then ⟨2, [], n, [noL ch]⟩
    else if vars < openV (upK cs ch) vars then ⟨1, modelK (upK cs ch) vars, n, []⟩
    else if most ≤ n then ⟨3, [], n, []⟩
    else
      if (findZ cs vars most k (ch ++ [-((openV (upK cs ch) vars : Nat) : Int)]) (n + 1)).code = 2 then
        if (findZ cs vars most k (ch ++ [((openV (upK cs ch) vars : Nat) : Int)]) (findZ cs vars most k (ch ++ [-((openV (upK cs ch) vars : Nat) : Int)]) (n + 1)).made).code = 2 then
          ⟨2, [], (findZ cs vars most k (ch ++ [((openV (upK cs ch) vars : Nat) : Int)]) (findZ cs vars most k (ch ++ [-((openV (upK cs ch) vars : Nat) : Int)]) (n + 1)).made).made,
            (findZ cs vars most k (ch ++ [-((openV (upK cs ch) vars : Nat) : Int)]) (n + 1)).proof ++ (findZ cs vars most k (ch ++ [((openV (upK cs ch) vars : Nat) : Int)]) (findZ cs vars most k (ch ++ [-((openV (upK cs ch) vars : Nat) : Int)]) (n + 1)).made).proof ++ [noL ch]⟩
        else findZ cs vars most k (ch ++ [((openV (upK cs ch) vars : Nat) : Int)]) (findZ cs vars most k (ch ++ [-((openV (upK cs ch) vars : Nat) : Int)]) (n + 1)).made
      else findZ cs vars most k (ch ++ [-((openV (upK cs ch) vars : Nat) : Int)]) (n + 1)
section
variable {cs : List (List Int)} {vars most : Nat}
theorem find_conf {k : Nat} {ch : List Int} {n : Nat} (h : confB cs ch = true) : findZ cs vars most (k + 1) ch n = ⟨2, [], n, [noL ch]⟩ := by
  rw [findZ, if_pos h]
theorem find_yes {k : Nat} {ch : List Int} {n : Nat} (h : confB cs ch = false) (h1 : vars < openV (upK cs ch) vars) : findZ cs vars most (k + 1) ch n = ⟨1, modelK (upK cs ch) vars, n, []⟩ := by
  rw [findZ, if_neg (by rw [h]; decide), if_pos h1]
theorem find_long {k : Nat} {ch : List Int} {n : Nat} (h : confB cs ch = false) (h1 : ¬ vars < openV (upK cs ch) vars) (h2 : most ≤ n) : findZ cs vars most (k + 1) ch n = ⟨3, [], n, []⟩ := by
  rw [findZ, if_neg (by rw [h]; decide), if_neg h1, if_pos h2]
theorem find_step {k : Nat} {ch : List Int} {n v : Nat} {a : FindR} (h : confB cs ch = false) (hv : v = openV (upK cs ch) vars) (h1 : ¬ vars < v) (h2 : ¬ most ≤ n) (ha : a = findZ cs vars most k (ch ++ [-(v : Int)]) (n + 1)) :
    findZ cs vars most (k + 1) ch n = if a.code = 2 then
      (if (findZ cs vars most k (ch ++ [(v : Int)]) a.made).code = 2 then ⟨2, [], (findZ cs vars most k (ch ++ [(v : Int)]) a.made).made, a.proof ++ (findZ cs vars most k (ch ++ [(v : Int)]) a.made).proof ++ [noL ch]⟩ else findZ cs vars most k (ch ++ [(v : Int)]) a.made) else a := by
  subst ha
  subst hv
  rw [findZ, if_neg (by rw [h]; decide), if_neg h1, if_neg h2]
theorem find_proof : ∀ (k : Nat) (ch : List Int) (n : Nat), (findZ cs vars most k ch n).code ≠ 2 → (findZ cs vars most k ch n).proof = []
  | 0, ch, n, h => rfl
  | k + 1, ch, n, h => by
    cases hc : confB cs ch with
    | true => rw [find_conf hc] at h; exact absurd rfl h
    | false =>
      by_cases h1 : vars < openV (upK cs ch) vars
      · rw [find_yes hc h1]
      · by_cases h2 : most ≤ n
        · rw [find_long hc h1 h2]
        · rw [find_step hc rfl h1 h2 rfl] at h ⊢
          split at h
          · rename_i ha
            rw [if_pos ha]
            split at h
            · exact absurd rfl h
            · rename_i hb
              rw [if_neg hb]
              exact find_proof k _ _ hb
          · rename_i ha
            rw [if_neg ha]
            exact find_proof k _ _ ha
/-- What is answered. -/
abbrev SatR := Int × List Bool × List (List Int)
def FindR.fin (r : FindR) : SatR := (r.code, r.model, r.proof)
/-- What comes of a search when what stands behind these choices (the last one first) cannot be. -/
noncomputable def contNo (cs : List (List Int)) (vars most : Nat) : List Int → Nat → List (List Int) → SatR
  | [], n, P => (2, [], P)
  | x :: st, n, P =>
    if x < 0 then
      if (findZ cs vars most (400 - st.length) (st.reverse ++ [-x]) n).code = 2 then contNo cs vars most st (findZ cs vars most (400 - st.length) (st.reverse ++ [-x]) n).made (P ++ (findZ cs vars most (400 - st.length) (st.reverse ++ [-x]) n).proof ++ [noL st.reverse])
      else (findZ cs vars most (400 - st.length) (st.reverse ++ [-x]) n).fin
    else contNo cs vars most st n (P ++ [noL st.reverse])
/-- .. and when these are searched. -/
noncomputable def topC (cs : List (List Int)) (vars most : Nat) (st : List Int) (n : Nat) (P : List (List Int)) : SatR :=
  if (findZ cs vars most (401 - st.length) st.reverse n).code = 2 then contNo cs vars most st (findZ cs vars most (401 - st.length) st.reverse n).made (P ++ (findZ cs vars most (401 - st.length) st.reverse n).proof)
  else (findZ cs vars most (401 - st.length) st.reverse n).fin
theorem top_conf {st : List Int} {n : Nat} {P : List (List Int)} (hs : st.length ≤ 400) (h : confB cs st.reverse = true) : topC cs vars most st n P = contNo cs vars most st n (P ++ [noL st.reverse]) := by
  obtain ⟨k, hk⟩ : ∃ k, 401 - st.length = k + 1 := ⟨400 - st.length, by omega⟩
  unfold topC
  rw [hk, find_conf h, if_pos rfl]
theorem top_yes {st : List Int} {n : Nat} {P : List (List Int)} (hs : st.length ≤ 400) (h : confB cs st.reverse = false) (h1 : vars < openV (upK cs st.reverse) vars) : topC cs vars most st n P = (1, modelK (upK cs st.reverse) vars, []) := by
  obtain ⟨k, hk⟩ : ∃ k, 401 - st.length = k + 1 := ⟨400 - st.length, by omega⟩
  unfold topC
  rw [hk, find_yes h h1, if_neg (by simp)]
  rfl
theorem top_long {st : List Int} {n : Nat} {P : List (List Int)} (hs : st.length ≤ 400) (h : confB cs st.reverse = false) (h1 : ¬ vars < openV (upK cs st.reverse) vars) (h2 : most ≤ n) : topC cs vars most st n P = (3, [], []) := by
  obtain ⟨k, hk⟩ : ∃ k, 401 - st.length = k + 1 := ⟨400 - st.length, by omega⟩
  unfold topC
  rw [hk, find_long h h1 h2, if_neg (by simp)]
  rfl
theorem cont_neg {st : List Int} {n : Nat} {P : List (List Int)} {x : Int} (hx : x < 0) (hs : st.length < 400) : contNo cs vars most (x :: st) n P = topC cs vars most (-x :: st) n P := by
  unfold topC
  rw [contNo, if_pos hx, List.length_cons, List.reverse_cons, show 401 - (st.length + 1) = 400 - st.length by omega]
  obtain ⟨b, hb⟩ : ∃ b, b = findZ cs vars most (400 - st.length) (st.reverse ++ [-x]) n := ⟨_, rfl⟩
  rw [← hb]
  by_cases h : b.code = 2
  · rw [if_pos h, if_pos h, contNo, if_neg (by omega)]
  · rw [if_neg h, if_neg h]
theorem cont_pos {st : List Int} {n : Nat} {P : List (List Int)} {x : Int} (hx : ¬ x < 0) : contNo cs vars most (x :: st) n P = contNo cs vars most st n (P ++ [noL st.reverse]) := by
  rw [contNo, if_neg hx]
theorem top_step {st : List Int} {n v : Nat} {P : List (List Int)} (hs : st.length < 400) (h : confB cs st.reverse = false) (hv : v = openV (upK cs st.reverse) vars) (hv0 : 0 < v) (h1 : ¬ vars < v) (h2 : ¬ most ≤ n) : topC cs vars most st n P = topC cs vars most (-(v : Int) :: st) (n + 1) P := by
  obtain ⟨a, ha⟩ : ∃ a, a = findZ cs vars most (400 - st.length) (st.reverse ++ [-(v : Int)]) (n + 1) := ⟨_, rfl⟩
  obtain ⟨b, hb⟩ : ∃ b, b = findZ cs vars most (400 - st.length) (st.reverse ++ [(v : Int)]) a.made := ⟨_, rfl⟩
  have e := find_step (k := 400 - st.length) h hv h1 h2 ha
  rw [← hb] at e
  have e2 : contNo cs vars most (-(v : Int) :: st) a.made (P ++ a.proof) = if b.code = 2 then contNo cs vars most st b.made (P ++ a.proof ++ b.proof ++ [noL st.reverse]) else b.fin := by
    rw [contNo, if_pos (by omega), Int.neg_neg, ← hb]
  rw [topC, topC, List.length_cons, List.reverse_cons, show 401 - (st.length + 1) = 400 - st.length by omega, ← ha, show 401 - st.length = 400 - st.length + 1 by omega, e, e2]
  by_cases h : a.code = 2
  · rw [if_pos h, if_pos h]
    by_cases h3 : b.code = 2
    · rw [if_pos h3, if_pos h3, if_pos rfl]
      simp only [List.append_assoc]
    · rw [if_neg h3, if_neg h3, if_neg h3]
  · rw [if_neg h, if_neg h, if_neg h]
end
/-- What SatFind answers. -/
noncomputable def satZ (vars : Int) (cs : List (List Int)) (most : Int) : SatR := if (cnfB vars cs && inB most 0 3000) = true then topC cs vars.toNat most.toNat [] 0 [] else (9, [], [])
theorem top_nil {cs : List (List Int)} {vars most : Nat} : topC cs vars most [] 0 [] = (findZ cs vars most 401 [] 0).fin := by
  unfold topC
  rw [show 401 - ([] : List Int).length = 401 from rfl, List.reverse_nil]
  obtain ⟨a, ha⟩ : ∃ a, a = findZ cs vars most 401 [] 0 := ⟨_, rfl⟩
  rw [← ha]
  by_cases h : a.code = 2
  · have hm : a.model = [] := by
      rw [ha] at h ⊢
      cases hc : confB cs [] with
      | true => rw [find_conf hc]
      | false =>
        by_cases h1 : vars < openV (upK cs []) vars
        · rw [find_yes hc h1] at h; cases h
        · by_cases h2 : most ≤ 0
          · rw [find_long hc h1 h2] at h; cases h
          · rw [find_step hc rfl h1 h2 rfl] at h ⊢
            split at h
            · rename_i ha2
              rw [if_pos ha2]
              split at h
              · rename_i hb; rw [if_pos hb]
              · rename_i hb; exact absurd h hb
            · rename_i ha2; exact absurd h ha2
    rw [if_pos h, contNo, List.nil_append]
    unfold FindR.fin
    rw [h, hm]
  · rw [if_neg h]
end Go.Proofs.Ythkhaemlcmkkjar

namespace Go.Proofs.Ythkhaemlcmkkjar
set_option linter.unusedVariables false
set_option linter.unusedSimpArgs false

section
variable {vars : Int} {cs : List (List Int)} {ls : List Int}
theorem lits_nz (h : litsB vars ls = true) : NzL ls := fun x hx => by
  simp only [litsB, Bool.and_eq_true, List.all_eq_true] at h
  exact (lit_parts (h.2 x hx)).1
theorem lits_in (h : litsB vars ls = true) : ∀ x, x ∈ ls → x ≠ 0 ∧ -vars ≤ x ∧ x ≤ vars := fun x hx => by
  simp only [litsB, Bool.and_eq_true, List.all_eq_true] at h
  exact lit_parts (h.2 x hx)
theorem cnf_lits (h : cnfB vars cs = true) : ∀ c, c ∈ cs → litsB vars c = true := fun c hc => by
  simp only [cnfB, Bool.and_eq_true, List.all_eq_true] at h
  exact h.2.2 c hc
theorem cnf_nz (h : cnfB vars cs = true) : NzC cs := fun c hc => lits_nz (cnf_lits h c hc)
theorem cnf_vars (h : cnfB vars cs = true) : 0 ≤ vars ∧ vars ≤ 400 := by
  simp only [cnfB, Bool.and_eq_true, inB, decide_eq_true_eq] at h
  exact h.1
end
/-- A model in which all literals are so, and all clauses hold: so is what follows. -/
theorem so_neg {m : List Bool} {x : Int} (hx : x ≠ 0) : soB m (-x) = !soB m x := by
  unfold soB
  by_cases h : 0 < x
  · rw [if_pos h, if_neg (by omega), show - -x - 1 = x - 1 by omega]
  · rw [if_neg h, if_pos (by omega), Bool.not_not]
theorem UP.so {cs : List (List Int)} {ls : List Int} {m : List Bool} (hz : NzC cs) (hc : ∀ c, c ∈ cs → holdsB m c = true) (hl : ∀ x, x ∈ ls → soB m x = true) {x : Int} (h : UP cs ls x) : soB m x = true := by
  induction h with
  | given h => exact hl _ h
  | @unit c x h1 h2 _ ih =>
    have hh := hc _ h1
    unfold holdsB at hh
    obtain ⟨y, hy, hs⟩ := List.any_eq_true.1 hh
    by_cases e : y = x
    · rw [← e]; exact hs
    · have := ih y hy e
      rw [so_neg (hz _ h1 y hy), hs] at this
      cases this
theorem Conf.no {cs : List (List Int)} {ls : List Int} {m : List Bool} (hz : NzC cs) (hnl : NzL ls) (h : Conf cs ls) (hc : ∀ c, c ∈ cs → holdsB m c = true) (hl : ∀ x, x ∈ ls → soB m x = true) : False := by
  rcases h with h | ⟨x, h1, h2⟩
  · have := hc _ h
    simp [holdsB] at this
  · have e1 := h1.so hz hc hl
    have e2 := h2.so hz hc hl
    rw [so_neg (h1.nz hz hnl), e1] at e2
    cases e2
theorem up_congr {cs cs' : List (List Int)} {ls ls' : List Int} (e : ∀ x, UP cs ls x ↔ UP cs' ls' x) : upK cs ls = upK cs' ls' := by
  funext v
  unfold upK
  by_cases h1 : UP cs ls (v : Int)
  · rw [if_pos h1, if_pos ((e _).1 h1)]
  · rw [if_neg h1, if_neg (fun h => h1 ((e _).2 h))]
    by_cases h2 : UP cs ls (-(v : Int))
    · rw [if_pos h2, if_pos ((e _).1 h2)]
    · rw [if_neg h2, if_neg (fun h => h2 ((e _).2 h))]
end Go.Proofs.Ythkhaemlcmkkjar

namespace Go.Proofs.Ythkhaemlcmkkjar
set_option linter.unusedVariables false
set_option linter.unusedSimpArgs false

end Go.Proofs.Ythkhaemlcmkkjar

namespace Go.Proofs.Ythkhaemlcmkkjar
set_option linter.unusedVariables false
set_option linter.unusedSimpArgs false

theorem nodup_len : ∀ (n : Nat) (l : List Nat), l.Nodup → (∀ x, x ∈ l → x < n) → l.length ≤ n
  | 0, l, _, h => by
    cases l with
    | nil => exact Nat.le_refl _
    | cons x l => exact absurd (h x (by simp)) (Nat.not_lt_zero _)
  | n + 1, l, hd, h => by
    have h1 := nodup_len n (l.erase n) (hd.erase n) (fun x hx => by
      have h2 := h x (List.mem_of_mem_erase hx)
      have h3 : x ≠ n := fun e => by
        rw [e] at hx
        exact (List.Nodup.mem_erase_iff hd).1 hx |>.1 rfl
      omega)
    have := List.length_erase (a := n) (l := l)
    split at this <;> omega
/-- What is known of variables, told by a trail of literals. -/
structure TrailK (vars : Nat) (K : Nat → Int) (tr : List Int) : Prop where
  tri : TriK K
  zero : K 0 = 0
  mem : ∀ x : Int, x ≠ 0 → (valK K x = 1 ↔ x ∈ tr)
  rng : ∀ x, x ∈ tr → x ≠ 0 ∧ -(vars : Int) ≤ x ∧ x ≤ vars
  nodup : tr.Nodup
section
variable {vars : Nat} {K : Nat → Int} {tr : List Int}
theorem TrailK.both (h : TrailK vars K tr) {x : Int} (h1 : x ∈ tr) : -x ∉ tr := fun h2 => by
  have hx := (h.rng x h1).1
  have e1 := (h.mem x hx).2 h1
  have e2 := (h.mem (-x) (by omega)).2 h2
  rw [valK_neg K hx] at e2
  omega
theorem TrailK.neg (h : TrailK vars K tr) {x : Int} (hx : x ≠ 0) : valK K x = -1 ↔ -x ∈ tr := by
  rw [← h.mem (-x) (by omega), valK_neg K hx]
  omega
theorem TrailK.abs (h : TrailK vars K tr) : (tr.map Int.natAbs).Nodup := by
  have key : ∀ (l : List Int), l.Nodup → (∀ x, x ∈ l → x ∈ tr) → (l.map Int.natAbs).Nodup := fun l => by
    induction l with
    | nil => intro _ _; exact List.nodup_nil
    | cons x l ih =>
      intro hd hs
      rw [List.nodup_cons] at hd
      rw [List.map_cons, List.nodup_cons]
      refine ⟨fun hm => ?_, ih hd.2 (fun y hy => hs y (by simp [hy]))⟩
      obtain ⟨y, hy, e⟩ := List.mem_map.1 hm
      rcases Int.natAbs_eq_natAbs_iff.1 e with e | e
      · rw [e] at hy; exact hd.1 hy
      · have h1 := hs x (by simp)
        have h2 := hs y (by simp [hy])
        rw [e] at h2
        exact h.both h1 h2
  exact key tr h.nodup (fun _ h => h)
theorem TrailK.len (h : TrailK vars K tr) : tr.length ≤ vars := by
  have h1 := nodup_len vars ((tr.map Int.natAbs).map (· - 1)) (by
    have := h.abs
    have key : ∀ (l : List Nat), l.Nodup → (∀ x, x ∈ l → 0 < x) → (l.map (· - 1)).Nodup := fun l => by
      induction l with
      | nil => intro _ _; exact List.nodup_nil
      | cons x l ih =>
        intro hd hs
        rw [List.nodup_cons] at hd
        rw [List.map_cons, List.nodup_cons]
        refine ⟨fun hm => ?_, ih hd.2 (fun y hy => hs y (by simp [hy]))⟩
        obtain ⟨y, hy, e⟩ := List.mem_map.1 hm
        have h1 := hs x (by simp)
        have h2 := hs y (by simp [hy])
        have : y = x := by omega
        rw [this] at hy
        exact hd.1 hy
    exact key _ this (fun x hx => by
      obtain ⟨y, hy, rfl⟩ := List.mem_map.1 hx
      have := (h.rng y hy).1
      omega)) (fun x hx => by
    obtain ⟨z, hz, rfl⟩ := List.mem_map.1 hx
    obtain ⟨y, hy, rfl⟩ := List.mem_map.1 hz
    have := h.rng y hy
    omega)
  simpa using h1
theorem TrailK.start : TrailK vars (fun _ => 0) [] := by
  refine ⟨fun _ => .inr (.inl rfl), rfl, fun x hx => ?_, fun x hx => (by cases hx), List.nodup_nil⟩
  unfold valK
  split <;> simp
theorem TrailK.push (h : TrailK vars K tr) {x : Int} (hx : x ≠ 0) (h1 : -(vars : Int) ≤ x) (h2 : x ≤ vars) (hv : valK K x = 0) : TrailK vars (setK K x) (tr ++ [x]) := by
  have hn : x ∉ tr := fun hm => by have := (h.mem x hx).2 hm; omega
  have hn' : -x ∉ tr := fun hm => by have := (h.mem (-x) (by omega)).2 hm; rw [valK_neg K hx] at this; omega
  refine ⟨setK_tri h.tri x, ?_, fun y hy => ?_, fun y hy => ?_, ?_⟩
  · unfold setK; rw [if_neg (by omega)]; exact h.zero
  · rw [setK_val K x y hx, List.mem_append, List.mem_singleton]
    by_cases e : y = x
    · simp [e]
    · rw [if_neg e]
      by_cases e2 : y = -x
      · rw [if_pos e2]
        constructor
        · intro h; omega
        · rintro (h3 | h3)
          · rw [e2] at h3; exact absurd h3 hn'
          · exact absurd h3 e
      · rw [if_neg e2, h.mem y hy]
        simp [e]
  · rcases List.mem_append.1 hy with hy | hy
    · exact h.rng y hy
    · rw [List.mem_singleton] at hy
      subst hy
      exact ⟨hx, h1, h2⟩
  · rw [List.nodup_append]
    refine ⟨h.nodup, by simp, fun a ha b hb => ?_⟩
    rw [List.mem_singleton] at hb
    intro e
    rw [e, hb] at ha
    exact hn ha
/-- Nothing is known any more of some literals' variables. -/
def undoK (K : Nat → Int) (xs : List Int) : Nat → Int := fun v => if xs.any (fun x => x.natAbs == v) then 0 else K v
theorem undoK_val (K : Nat → Int) (xs : List Int) (y : Int) : valK (undoK K xs) y = if xs.any (fun x => x.natAbs == y.natAbs) then 0 else valK K y := by
  unfold valK undoK
  split <;> split <;> simp
theorem TrailK.undo (h : TrailK vars K tr) (n : Nat) : TrailK vars (undoK K (tr.drop n)) (tr.take n) := by
  have hsplit : ∀ y : Int, y ∈ tr → y ∈ tr.take n ∨ y ∈ tr.drop n := fun y hy => by
    rw [← List.take_append_drop n tr] at hy
    exact List.mem_append.1 hy
  have hboth : ∀ y : Int, y ∈ tr.take n → ∀ z, z ∈ tr.drop n → z.natAbs ≠ y.natAbs := fun y hy z hz e => by
    have h1 := List.mem_of_mem_take hy
    have h2 := List.mem_of_mem_drop hz
    rcases Int.natAbs_eq_natAbs_iff.1 e with e | e
    · have := h.nodup
      rw [← List.take_append_drop n tr, List.nodup_append] at this
      exact this.2.2 y hy z hz e.symm
    · rw [e] at h2
      exact h.both h1 h2
  refine ⟨fun v => ?_, ?_, fun y hy => ?_, fun y hy => h.rng y (List.mem_of_mem_take hy), h.nodup.sublist (List.take_sublist n tr)⟩
  · unfold undoK
    split
    · exact .inr (.inl rfl)
    · exact h.tri v
  · unfold undoK
    split
    · rfl
    · exact h.zero
  · rw [undoK_val]
    constructor
    · intro hv
      split at hv
      · omega
      · rename_i hn
        have hm := (h.mem y hy).1 hv
        rcases hsplit y hm with h1 | h1
        · exact h1
        · exact absurd (List.any_eq_true.2 ⟨y, h1, by simp⟩) hn
    · intro hm
      have hn : ¬ (tr.drop n).any (fun x => x.natAbs == y.natAbs) = true := fun ha => by
        obtain ⟨z, hz, e⟩ := List.any_eq_true.1 ha
        exact hboth y hm z hz (by simpa using e)
      rw [if_neg hn]
      exact (h.mem y hy).2 (List.mem_of_mem_take hm)
end
structure FSt where
  K : Nat → Int
  tr : List Int
  ask : Nat
  cl : List (List Int)
  wt : Int → List Nat
/-- The two watches of a clause. -/
def Pr (d : List Int) (w o : Int) : Prop := (w = d.getD 0 0 ∧ o = d.getD 1 0) ∨ (w = d.getD 1 0 ∧ o = d.getD 0 0)
/-- Of each watch that is not so (by A) the other one is so (by B). -/
def WatK (cl : List (List Int)) (A B : List Int) : Prop := ∀ d, d ∈ cl → ∀ w o, Pr d w o → -w ∈ A → o ∈ B
def StoredK (vars : Nat) (cl : List (List Int)) : Prop := ∀ d, d ∈ cl → 2 ≤ d.length ∧ d.Nodup ∧ ∀ x, x ∈ d → x ≠ 0 ∧ -(vars : Int) ≤ x ∧ x ≤ vars
/-- The places of the clauses that a literal watches. -/
def WatL (cl : List (List Int)) (l : Int) (R : List Nat) : Prop := R.Nodup ∧ ∀ i, i ∈ R ↔ ∃ d, cl[i]? = some d ∧ (d.getD 0 0 = l ∨ d.getD 1 0 = l)
/-- A clause that is kept is one that was given, but for literals that are not so. -/
def SubK (A d c : List Int) : Prop := (∀ x, x ∈ d → x ∈ c) ∧ ∀ x, x ∈ c → x ∉ d → -x ∈ A
structure InvU (vars : Nat) (C : List (List Int)) (L : List Int) (mk : List (Nat × List Int)) (fix : Nat) (S : FSt) : Prop where
  trail : TrailK vars S.K S.tr
  ask : S.ask ≤ S.tr.length
  fxl : fix ≤ S.tr.length
  stored : StoredK vars S.cl
  few : S.cl.length ≤ C.length
  wl : ∀ l, WatL S.cl l (S.wt l)
  sound : ∀ x, x ∈ S.tr → UP C L x
  cov : ∀ c, c ∈ C → (∃ x, x ∈ c ∧ x ∈ S.tr.take fix) ∨ ∃ d, d ∈ S.cl ∧ SubK (S.tr.take fix) d c
  src : ∀ d, d ∈ S.cl → ∃ c, c ∈ C ∧ SubK (S.tr.take fix) d c
  mle : ∀ m, m ∈ mk → fix ≤ m.1 ∧ m.1 ≤ S.ask
  mso : mk.Pairwise (fun a b => b.1 ≤ a.1)
  mw : ∀ m, m ∈ mk → WatK S.cl (S.tr.take m.1) (S.tr.take m.1)
  ms : ∀ m, m ∈ mk → ∀ x, x ∈ S.tr.take m.1 → UP C m.2 x
  ml : ∀ m, m ∈ mk → ∀ x, x ∈ m.2 → x ∈ S.tr.take m.1
theorem pair_mem {vars : Nat} {cl : List (List Int)} (h : StoredK vars cl) {d : List Int} (hd : d ∈ cl) : d.getD 0 0 ∈ d ∧ d.getD 1 0 ∈ d ∧ d.getD 0 0 ≠ d.getD 1 0 := by
  obtain ⟨h1, h2, _⟩ := h d hd
  match d, h1, h2 with
  | a :: b :: d, _, h2 =>
    simp at h2 ⊢
    exact h2.1.1
section
variable {vars : Nat} {C : List (List Int)} {L : List Int} {mk : List (Nat × List Int)} {fix : Nat} {S : FSt}
theorem InvU.soundK (h : InvU vars C L mk fix S) : SoundK C L S.K := fun x hx hv => h.sound x ((h.trail.mem x hx).1 hv)
/-- When all is looked at nothing more follows. -/
theorem InvU.fullK (h : InvU vars C L mk fix S) (hw : WatK S.cl S.tr S.tr) (hl : ∀ x, x ∈ L → x ∈ S.tr) : FullK C L S.K := by
  refine ⟨fun x hx => (h.trail.mem x (h.trail.rng x (hl x hx)).1).2 (hl x hx), fun c hc => ?_⟩
  rcases h.cov c hc with ⟨x, hx, hxt⟩ | ⟨d, hd, hs⟩
  · have hm := List.mem_of_mem_take hxt
    exact .inl ⟨x, hx, (h.trail.mem x (h.trail.rng x hm).1).2 hm⟩
  · obtain ⟨ha, hb, hne⟩ := pair_mem h.stored hd
    have hnz := (h.stored d hd).2.2
    have one : ∀ y, y ∈ d → y ∈ S.tr → OpenK S.K c := fun y hy hyt => .inl ⟨y, hs.1 y hy, (h.trail.mem y (hnz y hy).1).2 hyt⟩
    rcases valK_tri h.trail.tri (d.getD 0 0) with e | e | e
    · exact one _ ha ((h.trail.mem _ (hnz _ ha).1).1 e)
    · rcases valK_tri h.trail.tri (d.getD 1 0) with e2 | e2 | e2
      · exact one _ hb ((h.trail.mem _ (hnz _ hb).1).1 e2)
      · exact .inr ⟨_, hs.1 _ ha, _, hs.1 _ hb, hne, e, e2⟩
      · exact one _ ha (hw d hd _ _ (.inr ⟨rfl, rfl⟩) ((h.trail.neg (hnz _ hb).1).1 e2))
    · exact one _ hb (hw d hd _ _ (.inl ⟨rfl, rfl⟩) ((h.trail.neg (hnz _ ha).1).1 e))
theorem take_push {n : Nat} {tr : List Int} (h : n ≤ tr.length) (x : Int) : (tr ++ [x]).take n = tr.take n := List.take_append_of_le_length h
theorem WatK.mono {cl : List (List Int)} {A A' B B' : List Int} (h : WatK cl A B) (ha : ∀ x, x ∈ A' → x ∈ A) (hb : ∀ x, x ∈ B → x ∈ B') : WatK cl A' B' := fun d hd w o hp hw => hb o (h d hd w o hp (ha _ hw))
/-- One more literal is learned. -/
theorem InvU.push (h : InvU vars C L mk fix S) {x : Int} (hx : x ≠ 0) (h1 : -(vars : Int) ≤ x) (h2 : x ≤ vars) (hv : valK S.K x = 0) (hu : UP C L x) : InvU vars C L mk fix ⟨setK S.K x, S.tr ++ [x], S.ask, S.cl, S.wt⟩ := by
  have hm : ∀ m, m ∈ mk → (S.tr ++ [x]).take m.1 = S.tr.take m.1 := fun m hm => take_push (Nat.le_trans (h.mle m hm).2 h.ask) x
  have hf := take_push h.fxl x
  refine ⟨h.trail.push hx h1 h2 hv, ?_, ?_, h.stored, h.few, h.wl, fun y hy => ?_, fun c hc => ?_, fun d hd => ?_, h.mle, h.mso, fun m hmm => ?_, fun m hmm => ?_, fun m hmm => ?_⟩
  · have := h.ask; simp; omega
  · have := h.fxl; simp; omega
  · rcases List.mem_append.1 hy with hy | hy
    · exact h.sound y hy
    · rw [List.mem_singleton] at hy; rw [hy]; exact hu
  · show (∃ y, y ∈ c ∧ y ∈ (S.tr ++ [x]).take fix) ∨ ∃ d, d ∈ S.cl ∧ SubK ((S.tr ++ [x]).take fix) d c
    rw [hf]; exact h.cov c hc
  · show ∃ c, c ∈ C ∧ SubK ((S.tr ++ [x]).take fix) d c
    rw [hf]; exact h.src d hd
  · show WatK S.cl ((S.tr ++ [x]).take m.1) ((S.tr ++ [x]).take m.1)
    rw [hm m hmm]; exact h.mw m hmm
  · show ∀ y, y ∈ (S.tr ++ [x]).take m.1 → UP C m.2 y
    rw [hm m hmm]; exact h.ms m hmm
  · show ∀ y, y ∈ m.2 → y ∈ (S.tr ++ [x]).take m.1
    rw [hm m hmm]; exact h.ml m hmm
/-- More literals are given. -/
theorem InvU.more (h : InvU vars C L mk fix S) {L' : List Int} (hl : ∀ x, x ∈ L → x ∈ L') : InvU vars C L' mk fix S :=
  ⟨h.trail, h.ask, h.fxl, h.stored, h.few, h.wl, fun x hx => (h.sound x hx).mono (fun _ hc => hc) hl, h.cov, h.src, h.mle, h.mso, h.mw, h.ms, h.ml⟩
theorem InvU.start : InvU vars [] L [] 0 ⟨fun _ => 0, [], 0, [], fun _ => []⟩ :=
  ⟨.start, Nat.le_refl _, Nat.le_refl _, fun d hd => (by cases hd), Nat.le_refl _, fun l => ⟨List.nodup_nil, fun i => (by simp)⟩, fun x hx => (by cases hx), fun c hc => (by cases hc), fun d hd => (by cases hd), fun m hm => (by cases hm), List.Pairwise.nil, fun m hm => (by cases hm), fun m hm => (by cases hm), fun m hm => (by cases hm)⟩
/-- One clause more, that holds. -/
theorem InvU.addSo (h : InvU vars C L [] S.tr.length S) {c : List Int} {x : Int} (hx : x ∈ c) (ht : x ∈ S.tr) : InvU vars (C ++ [c]) L [] S.tr.length S := by
  refine ⟨h.trail, h.ask, h.fxl, h.stored, by have := h.few; simp; omega, h.wl, fun y hy => (h.sound y hy).mono (fun _ hc => List.mem_append_left _ hc) (fun _ h => h), fun e he => ?_, fun d hd => ?_, fun m hm => (by cases hm), List.Pairwise.nil, fun m hm => (by cases hm), fun m hm => (by cases hm), fun m hm => (by cases hm)⟩
  · rcases List.mem_append.1 he with he | he
    · exact h.cov e he
    · rw [List.mem_singleton] at he
      rw [he]
      exact .inl ⟨x, hx, by rw [List.take_length]; exact ht⟩
  · obtain ⟨e, h1, h2⟩ := h.src d hd
    exact ⟨e, List.mem_append_left _ h1, h2⟩
/-- What of a clause's literals is open. -/
def openL (K : Nat → Int) (c : List Int) : List Int := c.foldl (fun a x => if valK K x = 0 ∧ x ∉ a then a ++ [x] else a) []
end
end Go.Proofs.Ythkhaemlcmkkjar

namespace Go.Proofs.Ythkhaemlcmkkjar
set_option linter.unusedVariables false
set_option linter.unusedSimpArgs false

theorem openG_ok (K : Nat → Int) : ∀ (c a : List Int), a.Nodup → ((c.foldl (fun a x => if valK K x = 0 ∧ x ∉ a then a ++ [x] else a) a).Nodup ∧ ∀ x, x ∈ c.foldl (fun a x => if valK K x = 0 ∧ x ∉ a then a ++ [x] else a) a ↔ x ∈ a ∨ (x ∈ c ∧ valK K x = 0))
  | [], a, h => ⟨h, fun x => by simp⟩
  | y :: c, a, h => by
    rw [List.foldl_cons]
    by_cases hy : valK K y = 0 ∧ y ∉ a
    · rw [if_pos hy]
      have hn : (a ++ [y]).Nodup := by
        rw [List.nodup_append]
        refine ⟨h, by simp, fun x hx z hz e => ?_⟩
        rw [List.mem_singleton] at hz
        rw [e, hz] at hx
        exact hy.2 hx
      obtain ⟨h1, h2⟩ := openG_ok K c (a ++ [y]) hn
      refine ⟨h1, fun x => ?_⟩
      rw [h2, List.mem_append, List.mem_singleton, List.mem_cons]
      constructor
      · rintro ((h3 | h3) | h3)
        · exact .inl h3
        · exact .inr ⟨.inl h3, by rw [h3]; exact hy.1⟩
        · exact .inr ⟨.inr h3.1, h3.2⟩
      · rintro (h3 | ⟨h3 | h3, h4⟩)
        · exact .inl (.inl h3)
        · exact .inl (.inr h3)
        · exact .inr ⟨h3, h4⟩
    · rw [if_neg hy]
      obtain ⟨h1, h2⟩ := openG_ok K c a h
      refine ⟨h1, fun x => ?_⟩
      rw [h2, List.mem_cons]
      constructor
      · rintro (h3 | h3)
        · exact .inl h3
        · exact .inr ⟨.inr h3.1, h3.2⟩
      · rintro (h3 | ⟨h3 | h3, h4⟩)
        · exact .inl h3
        · by_cases hm : x ∈ a
          · exact .inl hm
          · exact absurd ⟨by rw [← h3]; exact h4, by rw [← h3]; exact hm⟩ hy
        · exact .inr ⟨h3, h4⟩
theorem openL_nodup (K : Nat → Int) (c : List Int) : (openL K c).Nodup := (openG_ok K c [] List.nodup_nil).1
theorem openL_mem {K : Nat → Int} {c : List Int} {x : Int} : x ∈ openL K c ↔ x ∈ c ∧ valK K x = 0 := by
  have := (openG_ok K c [] List.nodup_nil).2 x
  unfold openL
  rw [this]
  simp
theorem openL_take (K : Nat → Int) (c : List Int) {k : Nat} (h : k < c.length) : openL K (c.take (k + 1)) = if valK K (c.getD k 0) = 0 ∧ c.getD k 0 ∉ openL K (c.take k) then openL K (c.take k) ++ [c.getD k 0] else openL K (c.take k) := by
  unfold openL
  rw [List.take_succ_eq_append_getElem h, List.foldl_append, show c.getD k 0 = c[k] by simp [List.getD, h]]
  rfl
theorem SubK.mono {A B d c : List Int} (h : SubK A d c) (hs : ∀ x, x ∈ A → x ∈ B) : SubK B d c := ⟨h.1, fun x h1 h2 => hs _ (h.2 x h1 h2)⟩
section
variable {vars : Nat} {C : List (List Int)} {L : List Int} {mk : List (Nat × List Int)} {fix : Nat} {S : FSt}
theorem sound_more (h : InvU vars C L mk fix S) (c : List Int) : SoundK (C ++ [c]) L S.K := fun x hx hv => (h.soundK x hx hv).mono (fun _ hc => List.mem_append_left _ hc) (fun _ h => h)
theorem nz_more {c : List Int} (hC : NzC C) (hc : NzL c) : NzC (C ++ [c]) := fun e he => by
  rcases List.mem_append.1 he with he | he
  · exact hC e he
  · rw [List.mem_singleton] at he; rw [he]; exact hc
theorem low_of (h : InvU vars C L mk fix S) {x : Int} (h1 : valK S.K x ≠ 1) (h0 : valK S.K x ≠ 0) : valK S.K x = -1 := by
  rcases valK_tri h.trail.tri x with e | e | e
  · exact absurd e h1
  · exact absurd e h0
  · exact e
/-- A clause whose literals are all not so. -/
theorem InvU.addNone (h : InvU vars C L mk fix S) (hC : NzC C) {c : List Int} (hc : NzL c) (hn : ∀ x, x ∈ c → valK S.K x ≠ 1) (ho : openL S.K c = []) : Conf (C ++ [c]) L :=
  conf_false (nz_more hC hc) (sound_more h c) (c := c) (by simp) fun x hx => low_of h (hn x hx) (fun e => by
    have := openL_mem.2 ⟨hx, e⟩
    rw [ho] at this
    cases this)
/-- A clause of which one literal alone is open. -/
theorem InvU.addUnit (h : InvU vars C L [] S.tr.length S) (hC : NzC C) {c : List Int} (hr : ∀ x, x ∈ c → x ≠ 0 ∧ -(vars : Int) ≤ x ∧ x ≤ vars) (hn : ∀ x, x ∈ c → valK S.K x ≠ 1) {x : Int} (ho : openL S.K c = [x]) :
    InvU vars (C ++ [c]) L [] (S.tr ++ [x]).length ⟨setK S.K x, S.tr ++ [x], S.ask, S.cl, S.wt⟩ := by
  have hm : x ∈ c ∧ valK S.K x = 0 := openL_mem.1 (by rw [ho]; simp)
  have hnz := hr x hm.1
  have hu : UP (C ++ [c]) L x := unit_of (nz_more hC fun y hy => (hr y hy).1) (sound_more h c) (c := c) (by simp) hm.1 fun y hy hne => low_of h (hn y hy) (fun e => by
    have := openL_mem.2 ⟨hy, e⟩
    rw [ho, List.mem_singleton] at this
    exact hne this)
  have e : S.tr.take S.tr.length = S.tr := List.take_length
  have hsub : ∀ y, y ∈ S.tr.take S.tr.length → y ∈ (S.tr ++ [x]).take (S.tr ++ [x]).length := fun y hy => by
    rw [e] at hy
    rw [List.take_length]
    exact List.mem_append_left _ hy
  refine ⟨h.trail.push hnz.1 hnz.2.1 hnz.2.2 hm.2, ?_, Nat.le_refl _, h.stored, ?_, h.wl, fun y hy => ?_, fun d hd => ?_, fun d hd => ?_, fun m hm => (by cases hm), List.Pairwise.nil, fun m hm => (by cases hm), fun m hm => (by cases hm), fun m hm => (by cases hm)⟩
  · have := h.ask; simp; omega
  · have := h.few; simp; omega
  · rcases List.mem_append.1 hy with hy | hy
    · exact (h.sound y hy).mono (fun _ hc => List.mem_append_left _ hc) (fun _ h => h)
    · rw [List.mem_singleton] at hy; rw [hy]; exact hu
  · rcases List.mem_append.1 hd with hd | hd
    · rcases h.cov d hd with ⟨y, h1, h2⟩ | ⟨f, h1, h2⟩
      · exact .inl ⟨y, h1, hsub y h2⟩
      · exact .inr ⟨f, h1, h2.mono hsub⟩
    · rw [List.mem_singleton] at hd
      rw [hd]
      exact .inl ⟨x, hm.1, by show x ∈ (S.tr ++ [x]).take (S.tr ++ [x]).length; rw [List.take_length]; simp⟩
  · obtain ⟨f, h1, h2⟩ := h.src d hd
    exact ⟨f, List.mem_append_left _ h1, h2.mono hsub⟩
/-- The watches of one clause more. -/
def moreW (wt : Int → List Nat) (d : List Int) (n : Nat) : Int → List Nat := fun l => if d.getD 0 0 = l ∨ d.getD 1 0 = l then wt l ++ [n] else wt l
theorem watL_more {cl : List (List Int)} {wt : Int → List Nat} (h : ∀ l, WatL cl l (wt l)) (d : List Int) (l : Int) : WatL (cl ++ [d]) l (moreW wt d cl.length l) := by
  obtain ⟨h1, h2⟩ := h l
  have hlt : ∀ i, i ∈ wt l → i < cl.length := fun i hi => by
    obtain ⟨e, he, _⟩ := (h2 i).1 hi
    exact (List.getElem?_eq_some_iff.1 he).1
  unfold moreW
  by_cases hd : d.getD 0 0 = l ∨ d.getD 1 0 = l
  · rw [if_pos hd]
    refine ⟨?_, fun i => ?_⟩
    · rw [List.nodup_append]
      refine ⟨h1, by simp, fun a ha b hb e => ?_⟩
      rw [List.mem_singleton] at hb
      have := hlt a ha
      omega
    · rw [List.mem_append, List.mem_singleton, h2]
      constructor
      · rintro (⟨e, he, hp⟩ | rfl)
        · exact ⟨e, by rw [List.getElem?_append_left (List.getElem?_eq_some_iff.1 he).1]; exact he, hp⟩
        · exact ⟨d, by simp, hd⟩
      · rintro ⟨e, he, hp⟩
        by_cases hi : i < cl.length
        · rw [List.getElem?_append_left hi] at he
          exact .inl ⟨e, he, hp⟩
        · right
          have := (List.getElem?_eq_some_iff.1 he).1
          simp at this
          omega
  · rw [if_neg hd]
    refine ⟨h1, fun i => ?_⟩
    rw [h2]
    constructor
    · rintro ⟨e, he, hp⟩
      exact ⟨e, by rw [List.getElem?_append_left (List.getElem?_eq_some_iff.1 he).1]; exact he, hp⟩
    · rintro ⟨e, he, hp⟩
      by_cases hi : i < cl.length
      · rw [List.getElem?_append_left hi] at he
        exact ⟨e, he, hp⟩
      · have h3 := (List.getElem?_eq_some_iff.1 he).1
        simp at h3
        have : i = cl.length := by omega
        subst this
        simp at he
        rw [← he] at hp
        exact absurd hp hd
/-- A clause of which two literals or more are open. -/
theorem InvU.addStore (h : InvU vars C L [] S.tr.length S) {c : List Int} (hr : ∀ x, x ∈ c → x ≠ 0 ∧ -(vars : Int) ≤ x ∧ x ≤ vars) (hn : ∀ x, x ∈ c → valK S.K x ≠ 1) (ho : 2 ≤ (openL S.K c).length) :
    InvU vars (C ++ [c]) L [] S.tr.length ⟨S.K, S.tr, S.ask, S.cl ++ [openL S.K c], moreW S.wt (openL S.K c) S.cl.length⟩ := by
  have hsub : SubK (S.tr.take S.tr.length) (openL S.K c) c := ⟨fun x hx => (openL_mem.1 hx).1, fun x hx hno => by
    rw [List.take_length]
    exact (h.trail.neg (hr x hx).1).1 (low_of h (hn x hx) (fun e => hno (openL_mem.2 ⟨hx, e⟩)))⟩
  refine ⟨h.trail, h.ask, Nat.le_refl _, fun d hd => ?_, ?_, fun l => watL_more h.wl _ l, fun y hy => (h.sound y hy).mono (fun _ hc => List.mem_append_left _ hc) (fun _ h => h), fun d hd => ?_, fun d hd => ?_, fun m hm => (by cases hm), List.Pairwise.nil, fun m hm => (by cases hm), fun m hm => (by cases hm), fun m hm => (by cases hm)⟩
  · rcases List.mem_append.1 hd with hd | hd
    · exact h.stored d hd
    · rw [List.mem_singleton] at hd
      rw [hd]
      exact ⟨ho, openL_nodup _ _, fun x hx => hr x (openL_mem.1 hx).1⟩
  · have := h.few; simp; omega
  · rcases List.mem_append.1 hd with hd | hd
    · rcases h.cov d hd with h1 | ⟨f, h1, h2⟩
      · exact .inl h1
      · exact .inr ⟨f, List.mem_append_left _ h1, h2⟩
    · rw [List.mem_singleton] at hd
      rw [hd]
      exact .inr ⟨_, List.mem_append_right _ (by simp), hsub⟩
  · rcases List.mem_append.1 hd with hd | hd
    · obtain ⟨f, h1, h2⟩ := h.src d hd
      exact ⟨f, List.mem_append_left _ h1, h2⟩
    · rw [List.mem_singleton] at hd
      rw [hd]
      exact ⟨c, by simp, hsub⟩
theorem wa_store (h : InvU vars C L mk fix S) {c : List Int} (hr : ∀ x, x ∈ c → x ≠ 0) (ho : 2 ≤ (openL S.K c).length) {A : List Int} (hA : ∀ x, x ∈ A → x ∈ S.tr) (hw : WatK S.cl A S.tr) : WatK (S.cl ++ [openL S.K c]) A S.tr := fun d hd w o hp hm => by
  rcases List.mem_append.1 hd with hd | hd
  · exact hw d hd w o hp hm
  · rw [List.mem_singleton] at hd
    rw [hd] at hp
    have hwm : w ∈ openL S.K c := by
      obtain ⟨a, b, r, e⟩ : ∃ a b r, openL S.K c = a :: b :: r := by
        match he : openL S.K c, ho with
        | a :: b :: r, _ => exact ⟨a, b, r, rfl⟩
      rw [e] at hp ⊢
      rcases hp with ⟨h1, _⟩ | ⟨h1, _⟩ <;> simp at h1 <;> simp [h1]
    obtain ⟨h1, h2⟩ := openL_mem.1 hwm
    have := (h.trail.neg (hr w h1)).2 (hA _ hm)
    omega
/-- A mark: all is looked at. -/
theorem InvU.mark (h : InvU vars C L mk fix S) (hw : WatK S.cl S.tr S.tr) (ha : S.ask = S.tr.length) (hl : ∀ x, x ∈ L → x ∈ S.tr) : InvU vars C L ((S.tr.length, L) :: mk) fix S := by
  have e : S.tr.take S.tr.length = S.tr := List.take_length
  refine ⟨h.trail, h.ask, h.fxl, h.stored, h.few, h.wl, h.sound, h.cov, h.src, fun m hm => ?_, List.pairwise_cons.2 ⟨fun m hm => Nat.le_trans (h.mle m hm).2 h.ask, h.mso⟩, fun m hm => ?_, fun m hm => ?_, fun m hm => ?_⟩
  · rcases List.mem_cons.1 hm with rfl | hm
    · exact ⟨h.fxl, by omega⟩
    · exact h.mle m hm
  · rcases List.mem_cons.1 hm with rfl | hm
    · show WatK S.cl (S.tr.take S.tr.length) (S.tr.take S.tr.length)
      rw [e]; exact hw
    · exact h.mw m hm
  · rcases List.mem_cons.1 hm with rfl | hm
    · show ∀ x, x ∈ S.tr.take S.tr.length → _
      rw [e]; exact h.sound
    · exact h.ms m hm
  · rcases List.mem_cons.1 hm with rfl | hm
    · show ∀ x, x ∈ L → x ∈ S.tr.take S.tr.length
      rw [e]; exact hl
    · exact h.ml m hm
/-- What was learned since a mark is undone. -/
theorem InvU.undo {m : Nat × List Int} (h : InvU vars C L (m :: mk) fix S) : InvU vars C m.2 mk fix ⟨undoK S.K (S.tr.drop m.1), S.tr.take m.1, m.1, S.cl, S.wt⟩ ∧ WatK S.cl (S.tr.take m.1) (S.tr.take m.1) ∧ (∀ x, x ∈ m.2 → x ∈ S.tr.take m.1) ∧ m.1 ≤ S.tr.length := by
  have h0 := h.mle m (by simp)
  have hlen : m.1 ≤ S.tr.length := Nat.le_trans h0.2 h.ask
  have ht : ∀ n, n ≤ m.1 → (S.tr.take m.1).take n = S.tr.take n := fun n hn => by rw [List.take_take, Nat.min_eq_left hn]
  have hso := List.pairwise_cons.1 h.mso
  refine ⟨⟨h.trail.undo m.1, ?_, ?_, h.stored, h.few, h.wl, h.ms m (by simp), fun c hc => ?_, fun d hd => ?_, fun n hn => ⟨(h.mle n (by simp [hn])).1, hso.1 n hn⟩, hso.2, fun n hn => ?_, fun n hn => ?_, fun n hn => ?_⟩, h.mw m (by simp), h.ml m (by simp), hlen⟩
  · show m.1 ≤ (S.tr.take m.1).length
    simp; omega
  · show fix ≤ (S.tr.take m.1).length
    simp; omega
  · show (∃ x, x ∈ c ∧ x ∈ (S.tr.take m.1).take fix) ∨ ∃ d, d ∈ S.cl ∧ SubK ((S.tr.take m.1).take fix) d c
    rw [ht fix h0.1]; exact h.cov c hc
  · show ∃ c, c ∈ C ∧ SubK ((S.tr.take m.1).take fix) d c
    rw [ht fix h0.1]; exact h.src d hd
  · show WatK S.cl ((S.tr.take m.1).take n.1) ((S.tr.take m.1).take n.1)
    rw [ht n.1 (hso.1 n hn)]; exact h.mw n (by simp [hn])
  · show ∀ x, x ∈ (S.tr.take m.1).take n.1 → UP C n.2 x
    rw [ht n.1 (hso.1 n hn)]; exact h.ms n (by simp [hn])
  · show ∀ x, x ∈ n.2 → x ∈ (S.tr.take m.1).take n.1
    rw [ht n.1 (hso.1 n hn)]; exact h.ml n (by simp [hn])
end
end Go.Proofs.Ythkhaemlcmkkjar

namespace Go.Proofs.Ythkhaemlcmkkjar
set_option linter.unusedVariables false
set_option linter.unusedSimpArgs false

/-- Two places turned about. -/
def swapL (d : List Int) (i j : Nat) : List Int := (d.set i (d.getD j 0)).set j (d.getD i 0)
def swN (i j k : Nat) : Nat := if k = j then i else if k = i then j else k
theorem swapL_len (d : List Int) (i j : Nat) : (swapL d i j).length = d.length := by simp [swapL]
theorem swapL_at {d : List Int} {i j k : Nat} (hi : i < d.length) (hj : j < d.length) (hk : k < d.length) : (swapL d i j).getD k 0 = d.getD (swN i j k) 0 := by
  unfold swapL swN
  simp only [List.getD_eq_getElem?_getD, List.getElem?_set, List.length_set]
  by_cases h1 : k = j
  · subst h1
    simp [hk]
  · rw [if_neg (fun h => h1 h.symm), if_neg h1]
    by_cases h2 : k = i
    · subst h2
      simp [hk]
    · rw [if_neg (fun h => h2 h.symm), if_neg h2]
theorem nodup_iff {d : List Int} : d.Nodup ↔ ∀ i j, i < d.length → j < d.length → d.getD i 0 = d.getD j 0 → i = j := by
  unfold List.Nodup
  rw [List.pairwise_iff_getElem]
  constructor
  · intro h i j hi hj e
    have e1 : d.getD i 0 = d[i] := by simp [List.getD, hi]
    have e2 : d.getD j 0 = d[j] := by simp [List.getD, hj]
    rw [e1, e2] at e
    rcases Nat.lt_trichotomy i j with hlt | heq | hlt
    · exact absurd e (h i j hi hj hlt)
    · exact heq
    · exact absurd e.symm (h j i hj hi hlt)
  · intro h i j hi hj hlt e
    have := h i j hi hj (by simp [List.getD, hi, hj, e])
    omega
theorem mem_getD {d : List Int} {x : Int} : x ∈ d ↔ ∃ i, i < d.length ∧ d.getD i 0 = x := by
  rw [List.mem_iff_getElem]
  constructor
  · rintro ⟨i, hi, e⟩; exact ⟨i, hi, by simp [List.getD, hi, e]⟩
  · rintro ⟨i, hi, e⟩; exact ⟨i, hi, by rw [← e]; simp [List.getD, hi]⟩
theorem swapL_mem {d : List Int} {i j : Nat} (hi : i < d.length) (hj : j < d.length) (x : Int) : x ∈ swapL d i j ↔ x ∈ d := by
  rw [mem_getD, mem_getD, swapL_len]
  constructor
  · rintro ⟨k, hk, e⟩
    rw [swapL_at hi hj hk] at e
    refine ⟨swN i j k, ?_, e⟩
    unfold swN; split <;> (try split) <;> omega
  · rintro ⟨k, hk, e⟩
    have hs : swN i j k < d.length := by unfold swN; split <;> (try split) <;> omega
    refine ⟨swN i j k, hs, ?_⟩
    rw [swapL_at hi hj hs, ← e]
    congr 1
    unfold swN
    by_cases h1 : k = j
    · subst h1
      by_cases h2 : i = k <;> simp [h2]
    · by_cases h2 : k = i
      · subst h2; simp [h1]
      · simp [h1, h2]
theorem swapL_nodup {d : List Int} {i j : Nat} (hi : i < d.length) (hj : j < d.length) (h : d.Nodup) : (swapL d i j).Nodup := by
  rw [nodup_iff] at h ⊢
  intro a b ha hb e
  rw [swapL_len] at ha hb
  rw [swapL_at hi hj ha, swapL_at hi hj hb] at e
  have h1 : swN i j a < d.length := by unfold swN; split <;> (try split) <;> omega
  have h2 : swN i j b < d.length := by unfold swN; split <;> (try split) <;> omega
  have := h _ _ h1 h2 e
  unfold swN at this
  split at this <;> split at this <;> (try split at this) <;> (try split at this) <;> omega
section
variable {vars : Nat} {C : List (List Int)} {L : List Int} {mk : List (Nat × List Int)} {fix : Nat} {S : FSt}
theorem set_mem {cl : List (List Int)} {i : Nat} {d d' e : List Int} (hd : cl[i]? = some d) : (e ∈ cl.set i d' → e = d' ∨ e ∈ cl) ∧ (e ∈ cl → e = d ∨ e ∈ cl.set i d') := by
  refine ⟨fun h => (List.mem_or_eq_of_mem_set h).symm, fun h => ?_⟩
  obtain ⟨k, hk, he⟩ := List.mem_iff_getElem.1 h
  by_cases e1 : k = i
  · subst e1
    left
    rw [List.getElem?_eq_getElem hk] at hd
    rw [← he]
    simpa using hd
  · right
    refine List.mem_iff_getElem.2 ⟨k, by simpa using hk, ?_⟩
    rw [List.getElem_set, if_neg (fun h => e1 h.symm)]
    exact he
/-- One clause is written anew, with the same literals. -/
theorem InvU.replace (h : InvU vars C L mk fix S) {i : Nat} {d d' : List Int} (hd : S.cl[i]? = some d) (hm : ∀ x, x ∈ d' ↔ x ∈ d) (hlen : d'.length = d.length) (hn : d'.Nodup) (wt' : Int → List Nat) (hwl : ∀ l, WatL (S.cl.set i d') l (wt' l))
    (hmw : ∀ m, m ∈ mk → ∀ w o, Pr d' w o → -w ∈ S.tr.take m.1 → o ∈ S.tr.take m.1) : InvU vars C L mk fix ⟨S.K, S.tr, S.ask, S.cl.set i d', wt'⟩ := by
  have hdm : d ∈ S.cl := List.mem_of_getElem? hd
  have hd'm : d' ∈ S.cl.set i d' := List.mem_iff_getElem.2 ⟨i, by simpa using (List.getElem?_eq_some_iff.1 hd).1, by simp⟩
  have hsub : ∀ c, SubK (S.tr.take fix) d c → SubK (S.tr.take fix) d' c := fun c hs => ⟨fun x hx => hs.1 x ((hm x).1 hx), fun x hx hnx => hs.2 x hx (fun hh => hnx ((hm x).2 hh))⟩
  refine ⟨h.trail, h.ask, h.fxl, fun e he => ?_, by simpa using h.few, hwl, h.sound, fun c hc => ?_, fun e he => ?_, h.mle, h.mso, fun m hmm e he => ?_, h.ms, h.ml⟩
  · rcases (set_mem hd).1 he with rfl | he
    · obtain ⟨h1, h2, h3⟩ := h.stored d hdm
      exact ⟨by omega, hn, fun x hx => h3 x ((hm x).1 hx)⟩
    · exact h.stored e he
  · rcases h.cov c hc with h1 | ⟨e, h1, h2⟩
    · exact .inl h1
    · rcases (set_mem (d' := d') hd).2 h1 with rfl | h1
      · exact .inr ⟨d', hd'm, hsub c h2⟩
      · exact .inr ⟨e, h1, h2⟩
  · rcases (set_mem hd).1 he with rfl | he
    · obtain ⟨c, h1, h2⟩ := h.src d hdm
      exact ⟨c, h1, hsub c h2⟩
    · exact h.src e he
  · rcases (set_mem hd).1 he with rfl | he
    · exact hmw m hmm
    · exact h.mw m hmm e he
structure LookK (vars : Nat) (C : List (List Int)) (L : List Int) (mk : List (Nat × List Int)) (fix : Nat) (S : FSt) (p : Nat) (gone : Int) (kept rest : List Nat) : Prop where
  inv : InvU vars C L mk fix S
  lst : S.wt gone = kept ++ rest
  wa : WatK S.cl (S.tr.take p) S.tr
  kp : ∀ i, i ∈ kept → ∀ d, S.cl[i]? = some d → ∀ o, Pr d gone o → o ∈ S.tr
  at_ : S.tr[p]? = some (-gone)
  mp : ∀ m, m ∈ mk → m.1 ≤ p
variable {p : Nat} {gone : Int} {kept rest : List Nat} {i : Nat} {d : List Int}
theorem LookK.mem (h : LookK vars C L mk fix S p gone kept rest) : -gone ∈ S.tr ∧ gone ≠ 0 ∧ gone ∉ S.tr ∧ p < S.tr.length := by
  obtain ⟨hp, he⟩ := List.getElem?_eq_some_iff.1 h.at_
  have hm : -gone ∈ S.tr := by rw [← he]; exact List.getElem_mem hp
  have hz := (h.inv.trail.rng _ hm).1
  refine ⟨hm, by omega, fun h2 => ?_, hp⟩
  have := h.inv.trail.both hm
  rw [Int.neg_neg] at this
  exact this h2
/-- The clause that is looked at. -/
theorem LookK.here (h : LookK vars C L mk fix S p gone kept (i :: rest)) : ∃ d, S.cl[i]? = some d ∧ (d.getD 0 0 = gone ∨ d.getD 1 0 = gone) ∧ i ∉ kept ∧ i ∉ rest := by
  obtain ⟨h1, h2⟩ := h.inv.wl gone
  rw [h.lst] at h1 h2
  obtain ⟨d, hd, hp⟩ := (h2 i).1 (by simp)
  rw [List.nodup_append] at h1
  refine ⟨d, hd, hp, fun hk => h1.2.2 i hk i (by simp) rfl, ?_⟩
  exact (List.nodup_cons.1 h1.2.1).1
theorem LookK.start (h : InvU vars C L mk fix S) (hw : WatK S.cl (S.tr.take p) S.tr) (hat : S.tr[p]? = some (-gone)) (hmp : ∀ m, m ∈ mk → m.1 ≤ p) : LookK vars C L mk fix S p gone [] (S.wt gone) :=
  ⟨h, by simp, hw, fun i hi => (by cases hi), hat, hmp⟩
/-- All are looked at. -/
theorem LookK.done (h : LookK vars C L mk fix S p gone kept []) : WatK S.cl (S.tr.take (p + 1)) S.tr := fun d hd w o hp hm => by
  obtain ⟨hpl, he⟩ := List.getElem?_eq_some_iff.1 h.at_
  rw [List.take_succ_eq_append_getElem hpl] at hm
  rcases List.mem_append.1 hm with hm | hm
  · exact h.wa d hd w o hp hm
  · rw [List.mem_singleton, he] at hm
    have hwg : w = gone := by omega
    subst hwg
    obtain ⟨k, hk, hkd⟩ := List.mem_iff_getElem.1 hd
    have hki : S.cl[k]? = some d := by rw [List.getElem?_eq_getElem hk, hkd]
    have := ((h.inv.wl w).2 k).2 ⟨d, hki, by rcases hp with ⟨h1, _⟩ | ⟨h1, _⟩ <;> simp [h1]⟩
    rw [h.lst, List.append_nil] at this
    exact h.kp k this d hki o hp
theorem pr_swap {d : List Int} (h : 2 ≤ d.length) {w o : Int} : Pr (swapL d 0 1) w o ↔ Pr d w o := by
  unfold Pr
  rw [swapL_at (by omega) (by omega) (by omega), swapL_at (by omega) (by omega) (by omega)]
  simp only [swN]
  simp
  constructor <;> rintro (⟨h1, h2⟩ | ⟨h1, h2⟩) <;> simp [h1, h2]
/-- The one that is gone comes to stand second. -/
theorem LookK.swap (h : LookK vars C L mk fix S p gone kept rest) (hd : S.cl[i]? = some d) : LookK vars C L mk fix ⟨S.K, S.tr, S.ask, S.cl.set i (swapL d 0 1), S.wt⟩ p gone kept rest := by
  have hdm : d ∈ S.cl := List.mem_of_getElem? hd
  obtain ⟨h1, h2, h3⟩ := h.inv.stored d hdm
  have hin := (List.getElem?_eq_some_iff.1 hd).1
  have hset : ∀ k e, (S.cl.set i (swapL d 0 1))[k]? = some e → ∃ e', S.cl[k]? = some e' ∧ ∀ w o, Pr e w o ↔ Pr e' w o := fun k e he => by
    rw [List.getElem?_set] at he
    by_cases hk : i = k
    · subst hk
      rw [if_pos rfl, if_pos hin] at he
      simp only [Option.some.injEq] at he
      subst he
      exact ⟨d, hd, fun w o => pr_swap h1⟩
    · rw [if_neg hk] at he
      exact ⟨e, he, fun _ _ => Iff.rfl⟩
  have hwl : ∀ l, WatL (S.cl.set i (swapL d 0 1)) l (S.wt l) := fun l => by
    obtain ⟨g1, g2⟩ := h.inv.wl l
    refine ⟨g1, fun k => ?_⟩
    rw [g2]
    have hpr : ∀ e : List Int, (e.getD 0 0 = l ∨ e.getD 1 0 = l) ↔ ∃ o, Pr e l o := fun e => by
      unfold Pr
      constructor
      · rintro (h | h)
        · exact ⟨_, .inl ⟨h.symm, rfl⟩⟩
        · exact ⟨_, .inr ⟨h.symm, rfl⟩⟩
      · rintro ⟨o, ⟨h, _⟩ | ⟨h, _⟩⟩
        · exact .inl h.symm
        · exact .inr h.symm
    constructor
    · rintro ⟨e, he, hp⟩
      by_cases hk : i = k
      · subst hk
        rw [hd] at he
        simp only [Option.some.injEq] at he
        subst he
        refine ⟨swapL d 0 1, by rw [List.getElem?_set, if_pos rfl, if_pos hin], ?_⟩
        rw [hpr] at hp ⊢
        obtain ⟨o, ho⟩ := hp
        exact ⟨o, (pr_swap h1).2 ho⟩
      · exact ⟨e, by rw [List.getElem?_set, if_neg hk]; exact he, hp⟩
    · rintro ⟨e, he, hp⟩
      obtain ⟨e', h4, h5⟩ := hset k e he
      refine ⟨e', h4, ?_⟩
      rw [hpr] at hp ⊢
      obtain ⟨o, ho⟩ := hp
      exact ⟨o, (h5 _ _).1 ho⟩
  refine ⟨h.inv.replace hd (swapL_mem (by omega) (by omega)) (swapL_len _ _ _) (swapL_nodup (by omega) (by omega) h2) _ hwl (fun m hm w o hp => h.inv.mw m hm d hdm w o ((pr_swap h1).1 hp)), h.lst, fun e he w o hp hm => ?_, fun k hk e he o hp => ?_, h.at_, h.mp⟩
  · obtain ⟨k, hk, hke⟩ := List.mem_iff_getElem.1 he
    obtain ⟨e', h4, h5⟩ := hset k e (by rw [List.getElem?_eq_getElem hk, hke])
    exact h.wa e' (List.mem_of_getElem? h4) w o ((h5 w o).1 hp) hm
  · obtain ⟨e', h4, h5⟩ := hset k e he
    exact h.kp k hk e' h4 o ((h5 gone o).1 hp)
/-- The clause holds, or its other watch was learned: it stays with the one that is gone. -/
theorem LookK.keep (h : LookK vars C L mk fix S p gone kept (i :: rest)) (hd : S.cl[i]? = some d) (h1 : d.getD 1 0 = gone) (ho : d.getD 0 0 ∈ S.tr) : LookK vars C L mk fix S p gone (kept ++ [i]) rest := by
  refine ⟨h.inv, by rw [h.lst]; simp, h.wa, fun k hk e he o hp => ?_, h.at_, h.mp⟩
  rcases List.mem_append.1 hk with hk | hk
  · exact h.kp k hk e he o hp
  · rw [List.mem_singleton] at hk
    subst hk
    rw [hd] at he
    simp only [Option.some.injEq] at he
    subst he
    have hpm := pair_mem h.inv.stored (List.mem_of_getElem? hd)
    rcases hp with ⟨h2, h3⟩ | ⟨h2, h3⟩
    · exact absurd (h2.symm.trans h1.symm) hpm.2.2
    · rw [h3]; exact ho
theorem LookK.follows (h : LookK vars C L mk fix S p gone kept rest) (hC : NzC C) (hd : S.cl[i]? = some d) {o : Int} (ho : o ∈ d) (hlow : ∀ y, y ∈ d → y ≠ o → valK S.K y = -1) : UP C L o := by
  obtain ⟨c, hc, hs⟩ := h.inv.src d (List.mem_of_getElem? hd)
  refine .unit hc (hs.1 o ho) fun y hy hne => ?_
  by_cases hyd : y ∈ d
  · exact h.inv.sound _ ((h.inv.trail.neg (hC c hc y hy)).1 (hlow y hyd hne))
  · exact h.inv.sound _ (List.mem_of_mem_take (hs.2 y hy hyd))
theorem LookK.conf (h : LookK vars C L mk fix S p gone kept rest) (hC : NzC C) (hd : S.cl[i]? = some d) (hlow : ∀ y, y ∈ d → valK S.K y = -1) : Conf C L := by
  obtain ⟨c, hc, hs⟩ := h.inv.src d (List.mem_of_getElem? hd)
  refine conf_false hC h.inv.soundK hc fun y hy => ?_
  by_cases hyd : y ∈ d
  · exact hlow y hyd
  · exact (h.inv.trail.neg (hC c hc y hy)).2 (List.mem_of_mem_take (hs.2 y hy hyd))
theorem LookK.push (h : LookK vars C L mk fix S p gone kept rest) {x : Int} (hx : x ≠ 0) (h1 : -(vars : Int) ≤ x) (h2 : x ≤ vars) (hv : valK S.K x = 0) (hu : UP C L x) : LookK vars C L mk fix ⟨setK S.K x, S.tr ++ [x], S.ask, S.cl, S.wt⟩ p gone kept rest := by
  obtain ⟨_, _, _, hp⟩ := h.mem
  refine ⟨h.inv.push hx h1 h2 hv hu, h.lst, ?_, fun k hk e he o hpr => List.mem_append_left _ (h.kp k hk e he o hpr), ?_, h.mp⟩
  · show WatK S.cl ((S.tr ++ [x]).take p) (S.tr ++ [x])
    rw [take_push (by omega) x]
    exact h.wa.mono (fun _ h => h) (fun y hy => List.mem_append_left _ hy)
  · show (S.tr ++ [x])[p]? = some (-gone)
    rw [List.getElem?_append_left hp]
    exact h.at_
/-- Another one watches. -/
def moveW (wt : Int → List Nat) (gone y : Int) (R : List Nat) (i : Nat) : Int → List Nat := fun l => if l = gone then R else if l = y then wt l ++ [i] else wt l
theorem LookK.move (h : LookK vars C L mk fix S p gone kept (i :: rest)) (hd : S.cl[i]? = some d) (h1 : d.getD 1 0 = gone) (ho : valK S.K (d.getD 0 0) ≠ 1) {j : Nat} (hj : 2 ≤ j) (hjl : j < d.length) (hy : valK S.K (d.getD j 0) ≠ -1) :
    LookK vars C L mk fix ⟨S.K, S.tr, S.ask, S.cl.set i (swapL d 1 j), moveW S.wt gone (d.getD j 0) (kept ++ rest) i⟩ p gone kept rest := by
  have hdm : d ∈ S.cl := List.mem_of_getElem? hd
  obtain ⟨g1, g2, g3⟩ := h.inv.stored d hdm
  have hin := (List.getElem?_eq_some_iff.1 hd).1
  obtain ⟨hgm, hgz, hgn, hpl⟩ := h.mem
  have hinj := nodup_iff.1 g2
  have hyd : d.getD j 0 ∈ d := mem_getD.2 ⟨j, hjl, rfl⟩
  have hod : d.getD 0 0 ∈ d := mem_getD.2 ⟨0, by omega, rfl⟩
  have hyg : d.getD j 0 ≠ gone := fun e => by
    have := hinj j 1 hjl (by omega) (e.trans h1.symm)
    omega
  have hyo : d.getD j 0 ≠ d.getD 0 0 := fun e => by
    have := hinj j 0 hjl (by omega) e
    omega
  have hog : d.getD 0 0 ≠ gone := fun e => by
    have := hinj 0 1 (by omega) (by omega) (e.trans h1.symm)
    omega
  have e0 : (swapL d 1 j).getD 0 0 = d.getD 0 0 := by
    rw [swapL_at (by omega) hjl (by omega)]
    unfold swN; rw [if_neg (by omega), if_neg (by omega)]
  have e1 : (swapL d 1 j).getD 1 0 = d.getD j 0 := by
    rw [swapL_at (by omega) hjl (by omega)]
    unfold swN; rw [if_neg (by omega), if_pos rfl]
  have hynot : -(d.getD j 0) ∉ S.tr := fun hm => hy ((h.inv.trail.neg (g3 _ hyd).1).2 hm)
  have honot : d.getD 0 0 ∉ S.tr := fun hm => ho ((h.inv.trail.mem _ (g3 _ hod).1).2 hm)
  have hpr : ∀ w o, Pr (swapL d 1 j) w o → (w = d.getD 0 0 ∧ o = d.getD j 0) ∨ (w = d.getD j 0 ∧ o = d.getD 0 0) := fun w o hp => by
    unfold Pr at hp
    rw [e0, e1] at hp
    exact hp
  obtain ⟨d', hd', _, hik, hir⟩ := h.here
  have hwl : ∀ l, WatL (S.cl.set i (swapL d 1 j)) l (moveW S.wt gone (d.getD j 0) (kept ++ rest) i l) := fun l => by
    obtain ⟨k1, k2⟩ := h.inv.wl l
    have hget : ∀ k, k ≠ i → (S.cl.set i (swapL d 1 j))[k]? = S.cl[k]? := fun k hk => by rw [List.getElem?_set, if_neg (fun e => hk e.symm)]
    have hgi : (S.cl.set i (swapL d 1 j))[i]? = some (swapL d 1 j) := by rw [List.getElem?_set, if_pos rfl, if_pos hin]
    unfold moveW
    by_cases hl : l = gone
    · rw [if_pos hl]
      subst hl
      rw [h.lst] at k1 k2
      refine ⟨?_, fun k => ?_⟩
      · rw [List.nodup_append] at k1 ⊢
        exact ⟨k1.1, (List.nodup_cons.1 k1.2.1).2, fun a ha b hb => k1.2.2 a ha b (by simp [hb])⟩
      · by_cases hk : k = i
        · subst hk
          rw [hgi]
          constructor
          · intro hm
            rcases List.mem_append.1 hm with hm | hm
            · exact absurd hm hik
            · exact absurd hm hir
          · rintro ⟨e, he, hp⟩
            simp only [Option.some.injEq] at he
            rw [← he, e0, e1] at hp
            rcases hp with hp | hp
            · exact absurd hp hog
            · exact absurd hp hyg
        · rw [hget k hk, ← k2 k]
          simp [hk]
    · rw [if_neg hl]
      have hni : i ∈ S.wt l ↔ d.getD 0 0 = l := by
        rw [k2 i]
        constructor
        · rintro ⟨e, he, hp⟩
          rw [hd] at he
          simp only [Option.some.injEq] at he
          rw [← he] at hp
          rcases hp with hp | hp
          · exact hp
          · exact absurd (hp.symm.trans h1) hl
        · intro e; exact ⟨d, hd, .inl e⟩
      by_cases hly : l = d.getD j 0
      · rw [if_pos hly]
        refine ⟨?_, fun k => ?_⟩
        · rw [List.nodup_append]
          refine ⟨k1, by simp, fun a ha b hb e => ?_⟩
          rw [List.mem_singleton] at hb
          rw [e, hb] at ha
          exact hyo (hly.symm.trans (hni.1 ha).symm)
        · rw [List.mem_append, List.mem_singleton]
          by_cases hk : k = i
          · subst hk
            rw [hgi]
            constructor
            · intro _; exact ⟨_, rfl, .inr (by rw [e1, hly])⟩
            · intro _; exact .inr rfl
          · rw [hget k hk, ← k2 k]
            simp [hk]
      · rw [if_neg hly]
        refine ⟨k1, fun k => ?_⟩
        by_cases hk : k = i
        · subst hk
          rw [hgi, hni]
          constructor
          · intro e; exact ⟨_, rfl, .inl (by rw [e0, e])⟩
          · rintro ⟨e, he, hp⟩
            simp only [Option.some.injEq] at he
            rw [← he, e0, e1] at hp
            rcases hp with hp | hp
            · exact hp
            · exact absurd hp.symm hly
        · rw [hget k hk, ← k2 k]
  have hold : ∀ {A B : List Int}, (∀ x, x ∈ A → x ∈ S.tr) → (∀ x, x ∈ B → x ∈ S.tr) → (-(d.getD 0 0) ∈ A → gone ∈ B) → ∀ w o, Pr (swapL d 1 j) w o → -w ∈ A → o ∈ B := fun hA hB hx w o hp hm => by
    rcases hpr w o hp with ⟨rfl, rfl⟩ | ⟨rfl, rfl⟩
    · exact absurd (hB _ (hx hm)) hgn
    · exact absurd (hA _ hm) hynot
  refine ⟨h.inv.replace hd (swapL_mem (by omega) hjl) (swapL_len _ _ _) (swapL_nodup (by omega) hjl g2) _ hwl (fun m hm => hold (fun _ => List.mem_of_mem_take) (fun _ => List.mem_of_mem_take) (fun hh => h.inv.mw m hm d hdm _ _ (.inl ⟨rfl, h1.symm⟩) hh)), ?_, fun e he => ?_, fun k hk e he o hp => ?_, h.at_, h.mp⟩
  · show moveW S.wt gone (d.getD j 0) (kept ++ rest) i gone = _
    unfold moveW; rw [if_pos rfl]
  · rcases (set_mem hd).1 he with rfl | he
    · exact hold (fun _ => List.mem_of_mem_take) (fun _ h => h) (fun hh => h.wa d hdm _ _ (.inl ⟨rfl, h1.symm⟩) hh)
    · exact h.wa e he
  · have hki : k ≠ i := fun e => hik (e ▸ hk)
    have he' : S.cl[k]? = some e := by
      have : (S.cl.set i (swapL d 1 j))[k]? = some e := he
      rwa [List.getElem?_set, if_neg (fun e => hki e.symm)] at this
    exact h.kp k hk e he' o hp
end
end Go.Proofs.Ythkhaemlcmkkjar

namespace Go.Proofs.Ythkhaemlcmkkjar
set_option linter.unusedVariables false
set_option linter.unusedSimpArgs false

/-- How many may still be, and one of these. -/
def opnF (K : Nat → Int) (p : Nat × Int) (x : Int) : Nat × Int := if valK K x = 0 ∧ x ≠ p.2 then (p.1 + 1, x) else p
structure OpnI (K : Nat → Int) (l : List Int) (p : Nat × Int) : Prop where
  none : p.1 = 0 → p.2 = 0 ∧ ∀ x, x ∈ l → valK K x ≠ 0
  some : 0 < p.1 → p.2 ∈ l ∧ valK K p.2 = 0
  one : p.1 = 1 → ∀ x, x ∈ l → valK K x = 0 → x = p.2
  two : 2 ≤ p.1 → ∃ x, x ∈ l ∧ ∃ y, y ∈ l ∧ x ≠ y ∧ valK K x = 0 ∧ valK K y = 0
  few : p.1 ≤ l.length
theorem OpnI.snoc {K : Nat → Int} {l : List Int} {p : Nat × Int} (h : OpnI K l p) {x : Int} (hx : x ≠ 0) : OpnI K (l ++ [x]) (opnF K p x) := by
  unfold opnF
  by_cases hc : valK K x = 0 ∧ x ≠ p.2
  · rw [if_pos hc]
    refine ⟨fun h0 => by simp at h0, fun _ => ⟨by simp, hc.1⟩, fun h1 y hy hv => ?_, fun h2 => ?_, by have := h.few; simp; omega⟩
    · simp at h1
      rcases List.mem_append.1 hy with hy | hy
      · exact absurd hv ((h.none h1).2 y hy)
      · simpa using hy
    · simp at h2
      obtain ⟨hm, hz⟩ := h.some (by omega)
      exact ⟨p.2, List.mem_append_left _ hm, x, by simp, fun e => hc.2 e.symm, hz, hc.1⟩
  · rw [if_neg hc]
    refine ⟨fun h0 => ⟨(h.none h0).1, fun y hy => ?_⟩, fun h0 => ⟨List.mem_append_left _ (h.some h0).1, (h.some h0).2⟩, fun h1 y hy hv => ?_, fun h2 => ?_, by have := h.few; simp; omega⟩
    · rcases List.mem_append.1 hy with hy | hy
      · exact (h.none h0).2 y hy
      · have : y = x := by simpa using hy
        rw [this]
        intro hv
        exact hc ⟨hv, fun e => hx (by rw [e, (h.none h0).1])⟩
    · rcases List.mem_append.1 hy with hy | hy
      · exact h.one h1 y hy hv
      · have e : y = x := by simpa using hy
        rw [e] at hv ⊢
        by_cases e2 : x = p.2
        · exact e2
        · exact absurd ⟨hv, e2⟩ hc
    · obtain ⟨a, ha, b, hb, r⟩ := h.two h2
      exact ⟨a, List.mem_append_left _ ha, b, List.mem_append_left _ hb, r⟩
def opnL (K : Nat → Int) (l : List Int) : Nat × Int := l.foldl (opnF K) (0, 0)
theorem opnL_ok (K : Nat → Int) (l : List Int) (hz : NzL l) : OpnI K l (opnL K l) := by
  have key : ∀ (n : Nat), n ≤ l.length → OpnI K (l.take n) (opnL K (l.take n)) := fun n => by
    induction n with
    | zero =>
      intro _
      rw [List.take_zero]
      exact ⟨fun _ => ⟨rfl, fun x hx => by cases hx⟩, fun h => absurd h (Nat.lt_irrefl _), fun h => (by cases h), fun h => (by cases h), Nat.le_refl _⟩
    | succ n ih =>
      intro h
      have h' : n < l.length := h
      have e := List.take_succ_eq_append_getElem h'
      have := (ih (by omega)).snoc (x := l[n]) (hz _ (List.getElem_mem h'))
      rw [e]
      unfold opnL at this ⊢
      rw [List.foldl_append]
      exact this
  have := key l.length (Nat.le_refl _)
  rwa [List.take_length] at this
theorem opnL_take (K : Nat → Int) (l : List Int) {k : Nat} (h : k < l.length) : opnL K (l.take (k + 1)) = opnF K (opnL K (l.take k)) (l.getD k 0) := by
  unfold opnL
  rw [List.take_succ_eq_append_getElem h, List.foldl_append]
  simp [List.getD, h]
theorem opnL_few (K : Nat → Int) (l : List Int) : (opnL K l).1 ≤ l.length := by
  have key : ∀ (l : List Int) (p : Nat × Int), (l.foldl (opnF K) p).1 ≤ p.1 + l.length := fun l => by
    induction l with
    | nil => intro p; simp
    | cons x l ih =>
      intro p
      rw [List.foldl_cons]
      have := ih (opnF K p x)
      have h2 : (opnF K p x).1 ≤ p.1 + 1 := by unfold opnF; split <;> simp
      simp only [List.length_cons]
      omega
  simpa [opnL] using key l (0, 0)
/-- What is known in the specification's rounds. -/
structure KInv (vars : Nat) (cs : List (List Int)) (ls : List Int) (K : Nat → Int) : Prop where
  tri : TriK K
  out : ∀ v, vars < v → K v = 0
  sound : SoundK cs ls K
  given : ∀ x, x ∈ ls → valK K x = 1
theorem KInv.set {vars : Nat} {cs : List (List Int)} {ls : List Int} {K : Nat → Int} (h : KInv vars cs ls K) {x : Int} (hx : x ≠ 0) (h1 : -(vars : Int) ≤ x) (h2 : x ≤ vars) (hv : valK K x = 0) (hu : UP cs ls x) : KInv vars cs ls (setK K x) := by
  refine ⟨setK_tri h.tri x, fun v hv => ?_, h.sound.set hx hu, fun y hy => ?_⟩
  · unfold setK
    rw [if_neg (by omega)]
    exact h.out v hv
  · have hg := h.given y hy
    rw [setK_val K x y hx]
    by_cases e : y = x
    · rw [if_pos e]
    · rw [if_neg e]
      by_cases e2 : y = -x
      · rw [e2, valK_neg K hx] at hg
        omega
      · rw [if_neg e2]; exact hg
/-- How many variables are open. -/
def openN (vars : Nat) (K : Nat → Int) : Nat := ((List.range (vars + 1)).filter fun v => decide (K v = 0)).length
theorem openN_set {vars : Nat} {K : Nat → Int} {x : Int} (hx : x ≠ 0) (h1 : -(vars : Int) ≤ x) (h2 : x ≤ vars) (hv : valK K x = 0) : openN vars (setK K x) < openN vars K := by
  have hk : K x.natAbs = 0 := by
    unfold valK at hv
    split at hv <;> omega
  have hs : setK K x x.natAbs ≠ 0 := by
    unfold setK
    rw [if_pos rfl]
    split <;> decide
  have key : ∀ (xs : List Nat), (xs.filter fun v => decide (setK K x v = 0)).length ≤ (xs.filter fun v => decide (K v = 0)).length ∧ (x.natAbs ∈ xs → (xs.filter fun v => decide (setK K x v = 0)).length < (xs.filter fun v => decide (K v = 0)).length) := fun xs => by
    induction xs with
    | nil => exact ⟨Nat.le_refl _, fun h => by cases h⟩
    | cons v xs ih =>
      by_cases e : v = x.natAbs
      · subst e
        rw [List.filter_cons_of_neg (by simpa using hs), List.filter_cons_of_pos (by simpa using hk)]
        exact ⟨by have := ih.1; simp; omega, fun _ => by have := ih.1; simp; omega⟩
      · have e1 : setK K x v = K v := by unfold setK; rw [if_neg e]
        by_cases h0 : K v = 0
        · rw [List.filter_cons_of_pos (by rw [e1]; simpa using h0), List.filter_cons_of_pos (by simpa using h0)]
          refine ⟨by have := ih.1; simp; omega, fun hm => ?_⟩
          rcases List.mem_cons.1 hm with hm | hm
          · exact absurd hm.symm e
          · have := ih.2 hm; simp; omega
        · rw [List.filter_cons_of_neg (by rw [e1]; simpa using h0), List.filter_cons_of_neg (by simpa using h0)]
          refine ⟨ih.1, fun hm => ?_⟩
          rcases List.mem_cons.1 hm with hm | hm
          · exact absurd hm.symm e
          · exact ih.2 hm
  exact (key (List.range (vars + 1))).2 (List.mem_range.2 (by omega))
end Go.Proofs.Ythkhaemlcmkkjar
