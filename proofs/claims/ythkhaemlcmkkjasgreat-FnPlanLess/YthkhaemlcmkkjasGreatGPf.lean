/- States gone through in rows: each is told how far it is; pure. Plans that are found: how far states are, forth and back, and the first of the shortest plans; pure. States gone through in rows, move by move; pure. The first of the shortest plans, found step by step; pure. -/
import Derived.Test.YthkhaemlcmkkjasGreatGBase
import Derived.Test.YthkhaemlcmkkjasGreatGPl
import Derived.Test.YthkhaemlcmkkjasGreatPureL
import Derived.Test.YthkhaemlcmkkjasGreatGIm
namespace Go.Proofs.YthkhaemlcmkkjasGreat
set_option linter.unusedVariables false
set_option linter.unusedSimpArgs false

/-- s can be come to from a by just n steps. -/
def Steps (succ : Nat → List Nat) (a : Nat) : Nat → Nat → Prop
  | 0, s => s = a
  | n + 1, s => ∃ t, Steps succ a n t ∧ s ∈ succ t
/-- .. and by no fewer. -/
def Dist (succ : Nat → List Nat) (a n s : Nat) : Prop := Steps succ a n s ∧ ∀ k, k < n → ¬ Steps succ a k s
/-- A state is met: if it is new, it gets the row's number and waits in the next row. -/
def visit (num : Nat) (p : (Nat → Nat) × List Nat) (t : Nat) : (Nat → Nat) × List Nat := if p.1 t = 0 then (fun x => if x = t then num else p.1 x, p.2 ++ [t]) else p
/-- The next row. -/
def rowNext (succ : Nat → List Nat) (num : Nat) (f : Nat → Nat) (row : List Nat) : (Nat → Nat) × List Nat := (row.flatMap succ).foldl (visit num) (f, [])
theorem visit_all (num : Nat) (hn : num ≠ 0) : ∀ (ts : List Nat) (p : (Nat → Nat) × List Nat), (∀ x, (ts.foldl (visit num) p).1 x = if p.1 x = 0 then (if x ∈ ts then num else 0) else p.1 x) ∧ (∀ x, x ∈ (ts.foldl (visit num) p).2 ↔ x ∈ p.2 ∨ (p.1 x = 0 ∧ x ∈ ts))
  | [], p => by
    refine ⟨fun x => ?_, fun x => by simp⟩
    by_cases h : p.1 x = 0
    · simp [h]
    · simp [h]
  | t :: ts, p => by
    obtain ⟨h1, h2⟩ := visit_all num hn ts (visit num p t)
    rw [List.foldl_cons]
    by_cases hp : p.1 t = 0
    · have e : visit num p t = (fun x => if x = t then num else p.1 x, p.2 ++ [t]) := by unfold visit; rw [if_pos hp]
      rw [e] at h1 h2 ⊢
      refine ⟨fun x => ?_, fun x => ?_⟩
      · rw [h1 x]
        by_cases hx : x = t
        · subst hx
          simp [hn, hp]
        · simp [hx]
      · rw [h2 x]
        by_cases hx : x = t
        · subst hx
          simp [hn, hp]
        · simp [hx]
    · have e : visit num p t = p := by unfold visit; rw [if_neg hp]
      rw [e] at h1 h2 ⊢
      refine ⟨fun x => ?_, fun x => ?_⟩
      · rw [h1 x]
        by_cases hx : x = t
        · subst hx; simp [hp]
        · simp [hx]
      · rw [h2 x]
        by_cases hx : x = t
        · subst hx; simp [hp]
        · simp [hx]
section
variable {succ : Nat → List Nat} {a : Nat}
theorem Dist.one {n m s : Nat} (h1 : Dist succ a n s) (h2 : Dist succ a m s) : n = m := by
  rcases Nat.lt_trichotomy n m with h | h | h
  · exact absurd h1.1 (h2.2 n h)
  · exact h
  · exact absurd h2.1 (h1.2 m h)
theorem Dist.back {n s : Nat} (h : Dist succ a (n + 1) s) : ∃ t, Dist succ a n t ∧ s ∈ succ t := by
  obtain ⟨⟨t, ht, hs⟩, hmin⟩ := h
  exact ⟨t, ⟨ht, fun k hk hk2 => hmin (k + 1) (by omega) ⟨t, hk2, hs⟩⟩, hs⟩
/-- What can be come to can be come to by fewest steps. -/
theorem Dist.least {n s : Nat} (h : Steps succ a n s) : ∃ k, k ≤ n ∧ Dist succ a k s := by
  induction n using Nat.strongRecOn with
  | ind n ih =>
    by_cases hm : ∃ k, k < n ∧ Steps succ a k s
    · obtain ⟨k, hk, hs⟩ := hm
      obtain ⟨j, hj, hd⟩ := ih k hk hs
      exact ⟨j, by omega, hd⟩
    · exact ⟨n, Nat.le_refl _, h, fun k hk hs => hm ⟨k, hk, hs⟩⟩
/-- Rows are told up to number n; the last of them waits. -/
structure Rows (succ : Nat → List Nat) (a n : Nat) (f : Nat → Nat) (row : List Nat) : Prop where
  far : ∀ s k, f s = k + 1 ↔ k < n ∧ Dist succ a k s
  last : ∀ s, s ∈ row ↔ Dist succ a (n - 1) s
theorem Rows.start : Rows succ a 1 (fun x => if x = a then 1 else 0) [a] := by
  have h0 : ∀ s, Dist succ a 0 s ↔ s = a := fun s => ⟨fun h => h.1, fun h => ⟨h, fun k hk => by omega⟩⟩
  refine ⟨fun s k => ?_, fun s => ?_⟩
  · by_cases h : s = a
    · rw [if_pos h]
      constructor
      · intro hk
        have : k = 0 := by omega
        subst this
        exact ⟨by omega, (h0 s).2 h⟩
      · rintro ⟨hk, _⟩; omega
    · rw [if_neg h]
      constructor
      · intro hk; omega
      · rintro ⟨hk, hd⟩
        have : k = 0 := by omega
        subst this
        exact absurd ((h0 s).1 hd) h
  · rw [List.mem_singleton]
    exact (h0 s).symm
theorem Rows.next {n : Nat} {f : Nat → Nat} {row : List Nat} (h : Rows succ a n f row) (hn : 0 < n) : Rows succ a (n + 1) (rowNext succ (n + 1) f row).1 (rowNext succ (n + 1) f row).2 := by
  obtain ⟨h1, h2⟩ := visit_all (n + 1) (by omega) (row.flatMap succ) (f, [])
  have hzero : ∀ s, f s = 0 ↔ ∀ k, k < n → ¬ Dist succ a k s := fun s => by
    constructor
    · intro h0 k hk hd
      have := (h.far s k).2 ⟨hk, hd⟩
      omega
    · intro hall
      cases hf : f s with
      | zero => rfl
      | succ k => exact absurd ((h.far s k).1 hf).2 (hall k ((h.far s k).1 hf).1)
  have hnew : ∀ s, (f s = 0 ∧ s ∈ row.flatMap succ) ↔ Dist succ a n s := fun s => by
    constructor
    · rintro ⟨h0, hm⟩
      obtain ⟨t, ht, hs⟩ := List.mem_flatMap.1 hm
      have hd := (h.last t).1 ht
      have hst : Steps succ a n s := by
        have := hd.1
        obtain ⟨m, rfl⟩ : ∃ m, n = m + 1 := ⟨n - 1, by omega⟩
        exact ⟨t, by simpa using this, hs⟩
      refine ⟨hst, fun k hk hk2 => ?_⟩
      obtain ⟨j, hj, hdj⟩ := Dist.least hk2
      exact (hzero s).1 h0 j (by omega) hdj
    · intro hd
      refine ⟨(hzero s).2 (fun k hk hd2 => by have := Dist.one hd hd2; omega), ?_⟩
      obtain ⟨m, rfl⟩ : ∃ m, n = m + 1 := ⟨n - 1, by omega⟩
      obtain ⟨t, ht, hs⟩ := Dist.back hd
      exact List.mem_flatMap.2 ⟨t, (h.last t).2 (by simpa using ht), hs⟩
  refine ⟨fun s k => ?_, fun s => ?_⟩
  · show (rowNext succ (n + 1) f row).1 s = k + 1 ↔ _
    unfold rowNext
    rw [h1 s]
    by_cases h0 : f s = 0
    · rw [if_pos h0]
      by_cases hm : s ∈ row.flatMap succ
      · rw [if_pos hm]
        have hd := (hnew s).1 ⟨h0, hm⟩
        constructor
        · intro e
          have : k = n := by omega
          subst this
          exact ⟨by omega, hd⟩
        · rintro ⟨_, hd2⟩
          have := Dist.one hd hd2
          omega
      · rw [if_neg hm]
        constructor
        · intro e; omega
        · rintro ⟨hk, hd⟩
          exfalso
          rcases Nat.lt_or_ge k n with hlt | hge
          · exact (hzero s).1 h0 k hlt hd
          · have : k = n := by omega
            subst this
            exact hm ((hnew s).2 hd).2
    · rw [if_neg h0, h.far s k]
      constructor
      · rintro ⟨hk, hd⟩; exact ⟨by omega, hd⟩
      · rintro ⟨hk, hd⟩
        refine ⟨?_, hd⟩
        rcases Nat.lt_or_ge k n with hlt | hge
        · exact hlt
        · have : k = n := by omega
          subst this
          exact absurd ((hnew s).2 hd).1 h0
  · show s ∈ (rowNext succ (n + 1) f row).2 ↔ _
    unfold rowNext
    rw [h2 s]
    simp only [List.not_mem_nil, false_or]
    rw [hnew s]
    rfl
/-- When no state waits any more all that can be come to is told. -/
theorem Rows.done {n : Nat} {f : Nat → Nat} (h : Rows succ a n f []) (hn : 0 < n) (s k : Nat) : f s = k + 1 ↔ Dist succ a k s := by
  have none : ∀ j s, ¬ Dist succ a (n - 1 + j) s := fun j => by
    induction j with
    | zero => intro s hd; have := (h.last s).2 (by simpa using hd); cases this
    | succ j ih =>
      intro s hd
      obtain ⟨t, ht, _⟩ := Dist.back (n := n - 1 + j) hd
      exact ih t ht
  rw [h.far s k]
  constructor
  · exact fun hh => hh.2
  · intro hd
    refine ⟨?_, hd⟩
    rcases Nat.lt_or_ge k n with hlt | hge
    · exact hlt
    · exfalso
      refine none (k - (n - 1)) s ?_
      rw [show n - 1 + (k - (n - 1)) = k by omega]
      exact hd
end
/-- How many of the first N states are not met yet. -/
def unmet (N : Nat) (f : Nat → Nat) : Nat := ((List.range N).filter fun s => decide (f s = 0)).length
theorem filter_less {p q : Nat → Bool} : ∀ (xs : List Nat), (∀ x ∈ xs, q x = true → p x = true) → (xs.filter q).length ≤ (xs.filter p).length ∧ ((∃ x ∈ xs, p x = true ∧ q x = false) → (xs.filter q).length < (xs.filter p).length)
  | [], _ => by simp
  | x :: xs, h => by
    obtain ⟨h1, h2⟩ := filter_less xs (fun y hy => h y (by simp [hy]))
    have hx := h x (by simp)
    cases hp : p x with
    | true =>
      cases hq : q x with
      | true =>
        refine ⟨by simp [hp, hq]; exact h1, fun ⟨y, hy, hyp, hyq⟩ => ?_⟩
        rcases List.mem_cons.1 hy with rfl | hy
        · rw [hq] at hyq; cases hyq
        · simp [hp, hq]; exact h2 ⟨y, hy, hyp, hyq⟩
      | false =>
        refine ⟨by simp [hp, hq]; omega, fun _ => by simp [hp, hq]; omega⟩
    | false =>
      have hq : q x = false := by cases hq : q x with
        | false => rfl
        | true => rw [hx hq] at hp; cases hp
      refine ⟨by simp [hp, hq]; exact h1, fun ⟨y, hy, hyp, hyq⟩ => ?_⟩
      rcases List.mem_cons.1 hy with rfl | hy
      · rw [hp] at hyp; cases hyp
      · simp [hp, hq]; exact h2 ⟨y, hy, hyp, hyq⟩
theorem unmet_next {succ : Nat → List Nat} {N num : Nat} {f : Nat → Nat} {row : List Nat} (hn : num ≠ 0) (hN : ∀ s, ∀ t ∈ succ s, t < N) : unmet N (rowNext succ num f row).1 + (if (rowNext succ num f row).2 = [] then 0 else 1) ≤ unmet N f := by
  obtain ⟨h1, h2⟩ := visit_all num hn (row.flatMap succ) (f, [])
  have hsub : ∀ x ∈ List.range N, decide ((rowNext succ num f row).1 x = 0) = true → decide (f x = 0) = true := fun x _ hx => by
    rw [decide_eq_true_eq] at hx ⊢
    unfold rowNext at hx
    rw [h1 x] at hx
    by_cases h0 : f x = 0
    · exact h0
    · rw [if_neg h0] at hx; exact hx
  obtain ⟨g1, g2⟩ := filter_less (p := fun x => decide (f x = 0)) (q := fun x => decide ((rowNext succ num f row).1 x = 0)) (List.range N) hsub
  unfold unmet
  cases he : (rowNext succ num f row).2 with
  | nil => simpa using g1
  | cons t ts =>
    have ht : t ∈ (rowNext succ num f row).2 := by rw [he]; simp
    have hm := (h2 t).1 (by unfold rowNext at ht; exact ht)
    simp only [List.not_mem_nil, false_or] at hm
    obtain ⟨s, _, hs⟩ := List.mem_flatMap.1 hm.2
    have := g2 ⟨t, List.mem_range.2 (hN s t hs), by simpa using hm.1, by
      rw [decide_eq_false_iff_not]
      unfold rowNext
      rw [h1 t, if_pos hm.1, if_pos hm.2]
      exact hn⟩
    simp
    omega
end Go.Proofs.YthkhaemlcmkkjasGreat

namespace Go.Proofs.YthkhaemlcmkkjasGreat
set_option linter.unusedVariables false
set_option linter.unusedSimpArgs false
open Go.RowKit Go.Deep

/-- The rows, n of them told beyond the first. -/
def rowsN (succ : Nat → List Nat) (a : Nat) : Nat → (Nat → Nat) × List Nat
  | 0 => (fun x => if x = a then 1 else 0, [a])
  | n + 1 => rowNext succ (n + 2) (rowsN succ a n).1 (rowsN succ a n).2
section
variable {succ : Nat → List Nat} {a : Nat}
theorem rowsN_ok : ∀ n, Rows succ a (n + 1) (rowsN succ a n).1 (rowsN succ a n).2
  | 0 => Rows.start
  | n + 1 => (rowsN_ok n).next (by omega)
theorem rowsN_few {N : Nat} (hN : ∀ s, ∀ t ∈ succ s, t < N) : ∀ n, (rowsN succ a n).2 ≠ [] → n + unmet N (rowsN succ a n).1 ≤ N
  | 0, _ => by
    have := List.length_filter_le (fun s => decide ((rowsN succ a 0).1 s = 0)) (List.range N)
    unfold unmet
    simp only [List.length_range] at this
    omega
  | n + 1, h => by
    have h1 := unmet_next (succ := succ) (N := N) (num := n + 2) (f := (rowsN succ a n).1) (row := (rowsN succ a n).2) (by omega) hN
    have hne : (rowsN succ a n).2 ≠ [] := fun e => h (by
      show (rowNext succ (n + 2) (rowsN succ a n).1 (rowsN succ a n).2).2 = []
      unfold rowNext
      rw [e]
      rfl)
    have h2 := rowsN_few hN n hne
    have h' : ¬ (rowNext succ (n + 2) (rowsN succ a n).1 (rowsN succ a n).2).2 = [] := h
    rw [if_neg h'] at h1
    show n + 1 + unmet N (rowNext succ (n + 2) (rowsN succ a n).1 (rowsN succ a n).2).1 ≤ N
    omega
/-- How far a state is, and one; 0, if it cannot be come to. -/
def farF (succ : Nat → List Nat) (a : Nat) : Nat → Nat := (rowsN succ a 300).1
theorem farF_iff (hN : ∀ s, ∀ t ∈ succ s, t < 256) (s k : Nat) : farF succ a s = k + 1 ↔ Dist succ a k s := by
  have h0 : (rowsN succ a 300).2 = [] := by
    cases hr : (rowsN succ a 300).2 with
    | nil => rfl
    | cons t ts =>
      have := rowsN_few (a := a) hN 300 (by rw [hr]; simp)
      omega
  have hr := rowsN_ok (succ := succ) (a := a) 300
  rw [h0] at hr
  exact hr.done (by omega) s k
theorem far_same {f g : Nat → Nat} {D : Nat → Nat → Prop} (hf : ∀ s k, f s = k + 1 ↔ D k s) (hg : ∀ s k, g s = k + 1 ↔ D k s) (s : Nat) : f s = g s := by
  cases h : f s with
  | zero =>
    cases h2 : g s with
    | zero => rfl
    | succ k => have := (hf s k).2 ((hg s k).1 h2); omega
  | succ k => exact ((hg s k).2 ((hf s k).1 h)).symm
theorem far_done (hN : ∀ s, ∀ t ∈ succ s, t < 256) {n : Nat} (h : (rowsN succ a n).2 = []) : (rowsN succ a n).1 = farF succ a := by
  have hr := rowsN_ok (succ := succ) (a := a) n
  rw [h] at hr
  funext s
  exact far_same (fun s k => hr.done (by omega) s k) (fun s k => farF_iff hN s k) s
theorem visit_mem (num : Nat) : ∀ (ts : List Nat) (p : (Nat → Nat) × List Nat) (x : Nat), x ∈ (ts.foldl (visit num) p).2 → x ∈ p.2 ∨ x ∈ ts
  | [], p, x, h => Or.inl h
  | t :: ts, p, x, h => by
    rw [List.foldl_cons] at h
    rcases visit_mem num ts _ x h with h | h
    · unfold visit at h
      split at h
      · rcases List.mem_append.1 h with h | h
        · exact Or.inl h
        · exact Or.inr (by simp at h; simp [h])
      · exact Or.inl h
    · exact Or.inr (by simp [h])
theorem rowsN_all {P : Nat → Prop} (ha : P a) (hP : ∀ s, P s → ∀ t ∈ succ s, P t) : ∀ n, ∀ s ∈ (rowsN succ a n).2, P s
  | 0, s, h => by
    have : s = a := by simpa [rowsN] using h
    rw [this]; exact ha
  | n + 1, s, h => by
    have h' : s ∈ (((rowsN succ a n).2.flatMap succ).foldl (visit (n + 2)) ((rowsN succ a n).1, [])).2 := h
    rcases visit_mem _ _ _ _ h' with h' | h'
    · cases h'
    · obtain ⟨t, ht, hs⟩ := List.mem_flatMap.1 h'
      exact hP t (rowsN_all ha hP n t ht) s hs
theorem steps_cons {a s : Nat} (h : s ∈ succ a) : ∀ {n : Nat} {b : Nat}, Steps succ s n b → Steps succ a (n + 1) b
  | 0, b, hb => ⟨a, rfl, by rw [show b = s from hb]; exact h⟩
  | n + 1, b, ⟨t, ht, hb⟩ => ⟨t, steps_cons h ht, hb⟩
theorem steps_uncons {a : Nat} : ∀ {n : Nat} {b : Nat}, Steps succ a (n + 1) b → ∃ s ∈ succ a, Steps succ s n b
  | 0, b, ⟨t, ht, hb⟩ => ⟨b, by rw [show t = a from ht] at hb; exact hb, rfl⟩
  | n + 1, b, ⟨t, ht, hb⟩ => by
    obtain ⟨s, hs, h⟩ := steps_uncons ht
    exact ⟨s, hs, t, h, hb⟩
end
/-- Back: what leads to a state. -/
theorem steps_back {succ pred : Nat → List Nat} {P : Nat → Prop} (hP : ∀ s, P s → ∀ t ∈ succ s, P t) (hpr : ∀ s t, t ∈ pred s → s ∈ succ t) (hsp : ∀ s t, P t → s ∈ succ t → t ∈ pred s) {b : Nat} : ∀ n s, P s → (Steps pred b n s ↔ Steps succ s n b)
  | 0, s, _ => ⟨fun h => Eq.symm h, fun h => Eq.symm h⟩
  | n + 1, s, hs => by
    constructor
    · rintro ⟨t, ht, hst⟩
      have h1 := hpr t s hst
      exact steps_cons h1 ((steps_back hP hpr hsp n t (hP s hs t h1)).1 ht)
    · intro h
      obtain ⟨t, ht, h2⟩ := steps_uncons h
      exact ⟨t, (steps_back hP hpr hsp n t (hP s hs t ht)).2 h2, hsp t s hs ht⟩
theorem far_back {succ pred : Nat → List Nat} {P : Nat → Prop} (hP : ∀ s, P s → ∀ t ∈ succ s, P t) (hpr : ∀ s t, t ∈ pred s → s ∈ succ t) (hsp : ∀ s t, P t → s ∈ succ t → t ∈ pred s) (h1 : ∀ s, ∀ t ∈ succ s, t < 256) (h2 : ∀ s, ∀ t ∈ pred s, t < 256) {b s : Nat} (hs : P s) : farF pred b s = farF succ s b :=
  far_same (f := fun _ => farF pred b s) (g := fun _ => farF succ s b) (D := fun k _ => Dist succ s k b) (fun _ k => by
    rw [farF_iff h2]
    unfold Dist
    rw [steps_back hP hpr hsp k s hs]
    constructor
    · rintro ⟨g1, g2⟩
      exact ⟨g1, fun j hj hh => g2 j hj ((steps_back hP hpr hsp j s hs).2 hh)⟩
    · rintro ⟨g1, g2⟩
      exact ⟨g1, fun j hj hh => g2 j hj ((steps_back hP hpr hsp j s hs).1 hh)⟩) (fun _ k => farF_iff h1 b k) 0

/-- The places of a state's bits. -/
abbrev setOf (s : Nat) : List Int := intsOf (placesTo s 8)
/-- A healthy state, by bits. -/
def GoodS (l : List PackD) (room : Int) (s : Nat) : Prop := s < 2 ^ l.length ∧ okZ l room (setOf s) = true
theorem good_of {l : List PackD} {room : Int} {set : List Int} (h : okZ l room set = true) : GoodS l room (setBits set) ∧ setOf (setBits set) = set := by
  have hf := okz_form h
  have e := set_ints hf
  exact ⟨⟨bits_lt_pow hf, by rw [show setOf (setBits set) = set from e.symm]; exact h⟩, e.symm⟩
section
variable {l : List PackD} {room : Int} {s : Nat}
theorem GoodS.repo (h : GoodS l room s) : repoB ⟨l, room⟩ = true := formr (okz_form h.2)
theorem GoodS.l8 (h : GoodS l room s) : l.length ≤ 8 := form_l8 (okz_form h.2)
theorem GoodS.lt (h : GoodS l room s) : s < 256 := by
  have h1 := h.1
  have : 2 ^ l.length ≤ 2 ^ 8 := Nat.pow_le_pow_right (by omega) h.l8
  omega
theorem GoodS.bits (h : GoodS l room s) : setBits (setOf s) = s := setBits_places h.lt
theorem GoodS.health (h : GoodS l room s) : healthB l room s = true := by
  have := ok_places h.repo h.1
  rw [← this]; exact h.2
theorem good_health (hr : repoB ⟨l, room⟩ = true) (hs : s < 2 ^ l.length) (h : healthB l room s = true) : GoodS l room s := ⟨hs, by rw [ok_places hr hs]; exact h⟩
theorem GoodS.pl (h : GoodS l room s) : ∀ p ∈ placesTo s 8, p < l.length := by
  have hf := okz_form h.2
  have := set_lt hf
  rw [← set_places hf, h.bits] at this
  exact this
theorem find_self {m : MvD} (hm : m ∈ movesL l) : (movesL l).find? (fun x => eqS x.step m.step) = some m := by
  cases hf : (movesL l).find? (fun x => eqS x.step m.step) with
  | none =>
    have := List.find?_eq_none.1 hf m hm
    exact absurd ((eqS_iff _ _).2 rfl) this
  | some m' =>
    have h1 : m'.step = m.step := eqS_eq (by have := List.find?_some hf; simpa using this)
    rw [step_inj h1]
theorem do_forth (h : GoodS l room s) {m : MvD} (hm : m ∈ movesL l) : implDo l room (setOf s) m.step = if allowsB l room s m then some (setOf (behindN s m)) else none := by
  unfold implDo
  rw [h.2, if_pos rfl, find_self hm, h.bits]
theorem good_forth (h : GoodS l room s) {m : MvD} (hm : m ∈ movesL l) (ha : allowsB l room s m = true) : GoodS l room (behindN s m) := by
  have h1 := do_forth h hm
  rw [ha, if_pos rfl] at h1
  obtain ⟨m', _, hd⟩ := do_parts h1
  have hb := behind256 h.lt (moves_within h.l8 hm) h.l8
  have g := (good_of hd.ok').1
  rwa [setBits_places hb] at g
end
/-- What can be come to by one step. -/
def succB (l : List PackD) (room : Int) (s : Nat) : List Nat := if l.length ≤ 8 ∧ s < 256 then ((movesL l).filter (allowsB l room s)).map (behindN s) else []
theorem succ_lt (l : List PackD) (room : Int) (s : Nat) : ∀ t ∈ succB l room s, t < 256 := fun t ht => by
  unfold succB at ht
  split at ht
  · rename_i hc
    obtain ⟨m, hm, rfl⟩ := List.mem_map.1 ht
    exact behind256 hc.2 (moves_within hc.1 (List.mem_filter.1 hm).1) hc.1
  · cases ht
theorem succ_good {l : List PackD} {room : Int} (s : Nat) (h : GoodS l room s) : ∀ t ∈ succB l room s, GoodS l room t := fun t ht => by
  unfold succB at ht
  rw [if_pos ⟨h.l8, h.lt⟩] at ht
  obtain ⟨m, hm, rfl⟩ := List.mem_map.1 ht
  exact good_forth h (List.mem_filter.1 hm).1 (List.mem_filter.1 hm).2
theorem succ_eq {l : List PackD} {room : Int} {s : Nat} (h : GoodS l room s) : succB l room s = ((movesL l).filter (allowsB l room s)).map (behindN s) := by
  unfold succB
  rw [if_pos ⟨h.l8, h.lt⟩]
/-- What was there if a move led to a state. -/
def wasN (s : Nat) (m : MvD) : Nat := outN s m.comes ||| m.goes
def backB (l : List PackD) (room : Int) (s : Nat) (m : MvD) : Bool := decide (behindN (wasN s m) m = s) && (healthB l room (wasN s m) && allowsB l room (wasN s m) m)
def predB (l : List PackD) (room : Int) (s : Nat) : List Nat := if l.length ≤ 8 ∧ s < 2 ^ l.length ∧ repoB ⟨l, room⟩ = true then ((movesL l).filter (backB l room s)).map (fun m => wasN s m) else []
theorem was_lt {n s : Nat} {m : MvD} (hw : m.within n) (hs : s < 2 ^ n) : wasN s m < 2 ^ n := by
  refine Nat.or_lt_two_pow (Nat.lt_of_le_of_lt Nat.and_le_left hs) ?_
  cases m with
  | put i => exact Nat.two_pow_pos n
  | take o => exact Nat.pow_lt_pow_right (by omega) hw
  | swap i o => exact Nat.pow_lt_pow_right (by omega) hw.2
theorem was_behind {l : List PackD} {room : Int} {t : Nat} {m : MvD} (hl : l.length ≤ 8) (hw : m.within l.length) (ht : t < 256) (ha : allowsB l room t m = true) : wasN (behindN t m) m = t := by
  have hfine := within_fine hw hl
  obtain ⟨hg, hc⟩ := fine_bits hfine
  unfold allowsB at ha
  simp only [Bool.and_eq_true, decide_eq_true_eq, Bool.not_eq_true'] at ha
  obtain ⟨⟨⟨⟨h1, h2⟩, _⟩, _⟩, _⟩ := ha
  have hgt : ∀ q, m.goes.testBit q = true → t.testBit q = true := fun q hq => by
    have : (t &&& m.goes).testBit q = true := by rw [h1]; exact hq
    rw [Nat.testBit_and, Bool.and_eq_true] at this
    exact this.1
  have hct : ∀ q, m.comes.testBit q = true → t.testBit q = false := fun q hq => by
    cases hb : t.testBit q with
    | false => rfl
    | true =>
      have : meetB t m.comes = true := (meet_iff t m.comes).2 ⟨q, hb, hq⟩
      rw [h2] at this; cases this
  have hb256 := behind256 ht hw hl
  apply Nat.eq_of_testBit_eq
  intro q
  by_cases hq : q < 64
  · unfold wasN behindN
    rw [Nat.testBit_or, out_test _ _ _ hc hq, Nat.testBit_or, out_test _ _ _ hg hq]
    cases hgq : m.goes.testBit q with
    | true => rw [hgt q hgq]; simp
    | false =>
      cases hcq : m.comes.testBit q with
      | true => rw [hct q hcq]; simp
      | false => simp
  · have h256 : (256 : Nat) ≤ 2 ^ q := by
      have : 2 ^ 8 ≤ 2 ^ q := Nat.pow_le_pow_right (by omega) (by omega)
      omega
    have hwl : wasN (behindN t m) m < 65536 := or_lt (outN_lt (by omega)) hg
    have h65 : (65536 : Nat) ≤ 2 ^ q := by
      have : 2 ^ 16 ≤ 2 ^ q := Nat.pow_le_pow_right (by omega) (by omega)
      omega
    rw [Nat.testBit_lt_two_pow (Nat.lt_of_lt_of_le hwl h65), Nat.testBit_lt_two_pow (Nat.lt_of_lt_of_le ht h256)]
theorem pred_lt (l : List PackD) (room : Int) (s : Nat) : ∀ t ∈ predB l room s, t < 256 := fun t ht => by
  unfold predB at ht
  split at ht
  · rename_i hc
    obtain ⟨m, hm, rfl⟩ := List.mem_map.1 ht
    have h1 := was_lt (moves_within hc.1 (List.mem_filter.1 hm).1) hc.2.1
    have : 2 ^ l.length ≤ 2 ^ 8 := Nat.pow_le_pow_right (by omega) hc.1
    omega
  · cases ht
theorem pred_good {l : List PackD} {room : Int} (s t : Nat) (ht : t ∈ predB l room s) : GoodS l room t ∧ s ∈ succB l room t := by
  unfold predB at ht
  split at ht
  · rename_i hc
    obtain ⟨m, hm, rfl⟩ := List.mem_map.1 ht
    obtain ⟨hm1, hm2⟩ := List.mem_filter.1 hm
    unfold backB at hm2
    simp only [Bool.and_eq_true, decide_eq_true_eq] at hm2
    obtain ⟨e, h1, h2⟩ := hm2
    have hg := good_health hc.2.2 (was_lt (moves_within hc.1 hm1) hc.2.1) h1
    refine ⟨hg, ?_⟩
    rw [succ_eq hg]
    exact List.mem_map.2 ⟨m, List.mem_filter.2 ⟨hm1, h2⟩, e⟩
  · cases ht
theorem pred_succ {l : List PackD} {room : Int} (s t : Nat) (ht : GoodS l room t) (hs : s ∈ succB l room t) : t ∈ predB l room s := by
  have hg := succ_good t ht s hs
  rw [succ_eq ht] at hs
  obtain ⟨m, hm, rfl⟩ := List.mem_map.1 hs
  obtain ⟨hm1, hm2⟩ := List.mem_filter.1 hm
  have e := was_behind ht.l8 (moves_within ht.l8 hm1) ht.lt hm2
  unfold predB
  rw [if_pos ⟨hg.l8, hg.1, hg.repo⟩]
  refine List.mem_map.2 ⟨m, List.mem_filter.2 ⟨hm1, ?_⟩, e⟩
  unfold backB
  rw [e]
  simp [ht.health, hm2]
/-- How far it is from one state to another, and one. -/
def distB (l : List PackD) (room : Int) (s b : Nat) : Nat := farF (succB l room) s b
theorem dist_back {l : List PackD} {room : Int} {s b : Nat} (h : GoodS l room s) : farF (predB l room) b s = distB l room s b :=
  far_back (P := GoodS l room) (fun s hs t ht => succ_good s hs t ht) (fun s t ht => (pred_good s t ht).2) (fun s t ht hs => pred_succ s t ht hs) (fun s => succ_lt l room s) (fun s => pred_lt l room s) h
/-- The first of the shortest plans. -/
def planTo (l : List PackD) (room : Int) (b : Nat) : Nat → Nat → List StepD
  | 0, _ => []
  | n + 1, s => match (movesL l).find? (fun m => allowsB l room s m && decide (distB l room (behindN s m) b = n + 1)) with
    | none => planTo l room b n s
    | some m => m.step :: planTo l room b n (behindN s m)
/-- What PlanFind answers. -/
def findZ (l : List PackD) (room : Int) (set dst : List Int) : Option (List StepD) :=
  if okZ l room set && okZ l room dst then
    if distB l room (setBits set) (setBits dst) = 0 then none else some (planTo l room (setBits dst) (distB l room (setBits set) (setBits dst) - 1) (setBits set))
  else none
end Go.Proofs.YthkhaemlcmkkjasGreat

namespace Go.Proofs.YthkhaemlcmkkjasGreat
set_option linter.unusedVariables false
set_option linter.unusedSimpArgs false
open Go.RowKit Go.Deep

theorem unmet_set {N num t : Nat} {f : Nat → Nat} (hn : num ≠ 0) (h0 : f t = 0) (ht : t < N) : unmet N (fun x => if x = t then num else f x) + 1 ≤ unmet N f := by
  obtain ⟨_, g2⟩ := filter_less (p := fun x => decide (f x = 0)) (q := fun x => decide ((if x = t then num else f x) = 0)) (List.range N) (fun x _ hx => by
    rw [decide_eq_true_eq] at hx ⊢
    split at hx
    · exact absurd hx hn
    · exact hx)
  have g3 := g2 ⟨t, List.mem_range.2 ht, by simpa using h0, by simpa using hn⟩
  exact g3
theorem unmet_le (N : Nat) (f : Nat → Nat) : unmet N f ≤ N := by
  have := List.length_filter_le (fun s => decide (f s = 0)) (List.range N)
  unfold unmet
  simp only [List.length_range] at this
  omega
/-- How many there may be: entries of the map, and states in the next row. -/
structure PInv (p : (Nat → Nat) × List Nat) (n : Nat) : Prop where
  map : n + unmet 256 p.1 ≤ 256
  row : p.2.length + unmet 256 p.1 ≤ 256
theorem PInv.start {f : Nat → Nat} {n : Nat} (h : n + unmet 256 f ≤ 256) : PInv (f, []) n := ⟨h, by have := unmet_le 256 f; simpa using this⟩
theorem PInv.visit {p : (Nat → Nat) × List Nat} {n num t : Nat} (h : PInv p n) (hn : num ≠ 0) (h0 : p.1 t = 0) (ht : t < 256) : PInv (fun x => if x = t then num else p.1 x, p.2 ++ [t]) (n + 1) := by
  have h1 := unmet_set hn h0 ht
  have h2 := h.map
  have h3 := h.row
  refine ⟨?_, ?_⟩
  · show n + 1 + unmet 256 (fun x => if x = t then num else p.1 x) ≤ 256
    omega
  · show (p.2 ++ [t]).length + unmet 256 (fun x => if x = t then num else p.1 x) ≤ 256
    simp only [List.length_append, List.length_singleton]
    omega
theorem start_inv {a : Nat} (ha : a < 256) : 1 + unmet 256 (fun x => if x = a then 1 else 0) ≤ 256 := by
  have h1 := unmet_set (N := 256) (num := 1) (f := fun _ => 0) (by decide) rfl ha
  have h2 := unmet_le 256 (fun _ => 0)
  have h3 : unmet 256 (fun x => if x = a then 1 else 0) + 1 ≤ unmet 256 (fun _ => 0) := h1
  omega
/-- A move is tried. -/
def visitG (g : Nat → MvD → Nat × Bool) (num s : Nat) (p : (Nat → Nat) × List Nat) (m : MvD) : (Nat → Nat) × List Nat := if (g s m).2 then visit num p (g s m).1 else p
theorem fold_visitG (g : Nat → MvD → Nat × Bool) (num s : Nat) : ∀ (ms : List MvD) (p : (Nat → Nat) × List Nat), ms.foldl (visitG g num s) p = ((ms.filter (fun m => (g s m).2)).map (fun m => (g s m).1)).foldl (visit num) p
  | [], p => rfl
  | m :: ms, p => by
    rw [List.foldl_cons, fold_visitG g num s ms]
    unfold visitG
    cases h : (g s m).2 with
    | true => simp [h]
    | false => simp [h]
theorem fold_take {α β : Type} (f : β → α → β) (d : α) (b : β) (L : List α) {k : Nat} (h : k < L.length) : (L.take (k + 1)).foldl f b = f ((L.take k).foldl f b) (L.getD k d) := by
  rw [List.take_succ_eq_append_getElem h, List.foldl_append]
  simp [List.getD, h]
theorem fold_flat (succ : Nat → List Nat) (num : Nat) (p : (Nat → Nat) × List Nat) (row : List Nat) {i : Nat} (h : i < row.length) : ((row.take (i + 1)).flatMap succ).foldl (visit num) p = (succ (row.getD i 0)).foldl (visit num) (((row.take i).flatMap succ).foldl (visit num) p) := by
  rw [List.take_succ_eq_append_getElem h, List.flatMap_append, List.foldl_append]
  simp [List.getD, h]
end Go.Proofs.YthkhaemlcmkkjasGreat

namespace Go.Proofs.YthkhaemlcmkkjasGreat
set_option linter.unusedVariables false
set_option linter.unusedSimpArgs false
open Go.RowKit Go.Deep

theorem rowsN_le (succ : Nat → List Nat) (a : Nat) : ∀ n s, (rowsN succ a n).1 s ≤ n + 1
  | 0, s => by show (if s = a then 1 else 0) ≤ 1; split <;> omega
  | n + 1, s => by
    have ih := rowsN_le succ a n s
    obtain ⟨h1, _⟩ := visit_all (n + 2) (by omega) ((rowsN succ a n).2.flatMap succ) ((rowsN succ a n).1, [])
    have h2 : (rowsN succ a (n + 1)).1 s = _ := h1 s
    rw [h2]
    split
    · split <;> omega
    · simp only; omega
theorem farF_le (succ : Nat → List Nat) (a s : Nat) : farF succ a s ≤ 301 := rowsN_le succ a 300 s
theorem find_step {α : Type} (p : α → Bool) (d : α) (L : List α) {k : Nat} (hk : k < L.length) (h : (L.take k).find? p = none) : (L.take (k + 1)).find? p = if p (L.getD k d) then some (L.getD k d) else none := by
  rw [List.take_succ_eq_append_getElem hk, List.find?_append, h]
  have e : L.getD k d = L[k] := by simp [List.getD, hk]
  rw [e]
  cases hp : p L[k] <;> simp [hp]
theorem find_more {α : Type} (p : α → Bool) (L : List α) {k : Nat} {m : α} (h : (L.take k).find? p = some m) : L.find? p = some m := by
  rw [← List.take_append_drop k L, List.find?_append, h]
  rfl
/-- The move that descent takes. -/
def descB (l : List PackD) (room : Int) (b r s : Nat) (m : MvD) : Bool := allowsB l room s m && decide (distB l room (behindN s m) b = r + 1)
theorem planTo_some {l : List PackD} {room : Int} {b r s : Nat} {m : MvD} (h : (movesL l).find? (descB l room b r s) = some m) : planTo l room b (r + 1) s = m.step :: planTo l room b r (behindN s m) := by
  have h' : (movesL l).find? (fun m => allowsB l room s m && decide (distB l room (behindN s m) b = r + 1)) = some m := h
  simp only [planTo, h']
theorem planTo_none {l : List PackD} {room : Int} {b r s : Nat} (h : (movesL l).find? (descB l room b r s) = none) : planTo l room b (r + 1) s = planTo l room b r s := by
  have h' : (movesL l).find? (fun m => allowsB l room s m && decide (distB l room (behindN s m) b = r + 1)) = none := h
  simp only [planTo, h']

/-- The step that the specification takes. -/
def fitS (l : List PackD) (room : Int) (b n s : Nat) (st : StepD) : Bool := decide (distB l room (setBits ((implDo l room (setOf s) st).getD [])) b = n + 1)
theorem find_from {l : List PackD} {room : Int} {b n s : Nat} (h : GoodS l room s) : (fromL l room (setOf s)).find? (fitS l room b n s) = ((movesL l).find? (descB l room b n s)).map MvD.step := by
  rw [from_moves h.2, h.bits, List.find?_map, List.find?_filter]
  congr 1
  have hc : ∀ (ms : List MvD), (∀ m ∈ ms, m ∈ movesL l) → ms.find? (fun m => allowsB l room s m && (fitS l room b n s ∘ MvD.step) m) = ms.find? (descB l room b n s) := fun ms => by
    induction ms with
    | nil => intro _; rw [List.find?_nil, List.find?_nil]
    | cons m ms ih =>
      intro hm
      rw [List.find?_cons, List.find?_cons, ih (fun x hx => hm x (by simp [hx]))]
      have e : (allowsB l room s m && (fitS l room b n s ∘ MvD.step) m) = descB l room b n s m := by
        unfold descB
        cases ha : allowsB l room s m with
        | false => rw [Bool.false_and, Bool.false_and]
        | true =>
          have hm1 := hm m (by simp)
          simp only [Bool.true_and, Function.comp, fitS]
          rw [do_forth h hm1, ha, if_pos rfl, Option.getD_some, (good_forth h hm1 ha).bits]
      rw [e]
  simpa using hc (movesL l) (fun m hm => hm)
theorem planTo_fit {l : List PackD} {room : Int} {b n s : Nat} {st : StepD} (h : GoodS l room s) (hf : (fromL l room (setOf s)).find? (fitS l room b n s) = some st) : ∃ t, GoodS l room t ∧ implDo l room (setOf s) st = some (setOf t) ∧ planTo l room b (n + 1) s = st :: planTo l room b n t := by
  rw [find_from h] at hf
  cases hm : (movesL l).find? (descB l room b n s) with
  | none => rw [hm] at hf; cases hf
  | some m =>
    rw [hm] at hf
    simp at hf
    subst hf
    have hmem := List.mem_of_find?_eq_some hm
    have hd : descB l room b n s m = true := by have := List.find?_some hm; simpa using this
    unfold descB at hd
    rw [Bool.and_eq_true] at hd
    exact ⟨behindN s m, good_forth h hmem hd.1, by rw [do_forth h hmem, hd.1, if_pos rfl], planTo_some hm⟩
theorem planTo_unfit {l : List PackD} {room : Int} {b n s : Nat} (h : GoodS l room s) (hf : (fromL l room (setOf s)).find? (fitS l room b n s) = none) : planTo l room b (n + 1) s = planTo l room b n s := by
  rw [find_from h] at hf
  cases hm : (movesL l).find? (descB l room b n s) with
  | none => exact planTo_none hm
  | some m => rw [hm] at hf; cases hf
end Go.Proofs.YthkhaemlcmkkjasGreat
