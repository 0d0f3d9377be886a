/- What is so in the first model, said: the first model stays, and no more choices are made. -/
import Derived.Test.YthkhaemlcmkkjarSatC
namespace Go.Proofs.Ythkhaemlcmkkjar
set_option linter.unusedVariables false
set_option linter.unusedSimpArgs false
section
variable {cs : List (List Int)} {vars most : Nat}
/-- No search takes choices back. -/
theorem find_ge : ∀ (k : Nat) (ch : List Int) (n : Nat), n ≤ (findZ cs vars most k ch n).made
  | 0, ch, n => by unfold findZ; exact Nat.le_refl _
  | k + 1, ch, n => by
    cases hc : confB cs ch with
    | true => rw [find_conf hc]; exact Nat.le_refl _
    | false =>
      by_cases h1 : vars < openV (upK cs ch) vars
      · rw [find_yes hc h1]; exact Nat.le_refl _
      · by_cases h2 : most ≤ n
        · rw [find_long hc h1 h2]; exact Nat.le_refl _
        · rw [find_step hc rfl h1 h2 rfl]
          have i1 := find_ge k (ch ++ [-((openV (upK cs ch) vars : Nat) : Int)]) (n + 1)
          have i2 := find_ge k (ch ++ [((openV (upK cs ch) vars : Nat) : Int)]) (findZ cs vars most k (ch ++ [-((openV (upK cs ch) vars : Nat) : Int)]) (n + 1)).made
          split
          · split
            · show n ≤ (findZ cs vars most k (ch ++ [((openV (upK cs ch) vars : Nat) : Int)]) (findZ cs vars most k (ch ++ [-((openV (upK cs ch) vars : Nat) : Int)]) (n + 1)).made).made
              omega
            · omega
          · omega
variable {x : Int}
/-- Both know the same. -/
def SameU (cs : List (List Int)) (x : Int) (ch ch' : List Int) : Prop := ∀ y, UP (cs ++ [[x]]) ch' y ↔ UP cs (ch ++ [x]) y
theorem SameU.snoc {ch ch' : List Int} (h : SameU cs x ch ch') (w : Int) : SameU cs x (ch ++ [w]) (ch' ++ [w]) := by
  intro y
  constructor
  · intro hy
    have hin : ∀ z, UP (cs ++ [[x]]) (ch' ++ [w]) z → UP cs (ch ++ [w] ++ [x]) z := by
      intro z hz
      induction hz with
      | given hm =>
        rcases List.mem_append.1 hm with hm | hm
        · exact ((h _).1 (.given hm)).mono (fun _ hc => hc) (fun q hq => by simp at hq ⊢; rcases hq with hq | hq <;> simp [hq])
        · exact .given (by simp at hm ⊢; simp [hm])
      | unit hc hm hall ih =>
        rcases List.mem_append.1 hc with hc | hc
        · exact .unit hc hm ih
        · rw [List.mem_singleton] at hc
          subst hc
          rw [List.mem_singleton] at hm
          subst hm
          exact .given (by simp)
    exact hin y hy
  · intro hy
    have hx : UP (cs ++ [[x]]) (ch' ++ [w]) x := .unit (c := [x]) (by simp) (by simp) (fun y hy hn => absurd (List.mem_singleton.1 hy) hn)
    refine hy.cut (fun c hc => List.mem_append_left _ hc) fun z hz => ?_
    simp only [List.mem_append, List.mem_singleton] at hz
    rcases hz with (hz | hz) | hz
    · exact ((h z).2 (.given (by simp [hz]))).mono (fun _ hc => hc) (fun q hq => List.mem_append_left _ hq)
    · exact .given (by simp [hz])
    · rw [hz]; exact hx
theorem SameU.keep {ch ch' : List Int} (h : SameU cs x ch ch') {w : Int} (hw : UP (cs ++ [[x]]) ch' w) : SameU cs x (ch ++ [w]) ch' := by
  intro y
  rw [h y]
  constructor
  · exact fun hy => hy.mono (fun _ hc => hc) (fun q hq => by simp at hq ⊢; rcases hq with hq | hq <;> simp [hq])
  · refine fun hy => hy.cut (fun _ hc => hc) fun z hz => ?_
    simp only [List.mem_append, List.mem_singleton] at hz
    rcases hz with (hz | hz) | hz
    · exact .given (by simp [hz])
    · rw [hz]; exact (h w).1 hw
    · exact .given (by simp [hz])
theorem SameU.conf {ch ch' : List Int} (h : SameU cs x ch ch') : Conf (cs ++ [[x]]) ch' ↔ Conf cs (ch ++ [x]) := by
  unfold Conf
  constructor
  · rintro (h1 | ⟨y, h1, h2⟩)
    · exact .inl (by simpa using h1)
    · exact .inr ⟨y, (h y).1 h1, (h _).1 h2⟩
  · rintro (h1 | ⟨y, h1, h2⟩)
    · exact .inl (by simp [h1])
    · exact .inr ⟨y, (h y).2 h1, (h _).2 h2⟩
theorem upK_not {ls : List Int} {v : Nat} (h : upK cs ls v ≠ 0) : UP cs ls (v : Int) ∨ UP cs ls (-(v : Int)) := by
  unfold upK at h
  by_cases h1 : UP cs ls (v : Int)
  · exact .inl h1
  · rw [if_neg h1] at h
    by_cases h2 : UP cs ls (-(v : Int))
    · exact .inr h2
    · rw [if_neg h2] at h
      exact absurd rfl h
theorem upK_is {ls : List Int} {v : Nat} (h : UP cs ls (v : Int) ∨ UP cs ls (-(v : Int))) : upK cs ls v ≠ 0 := by
  unfold upK
  by_cases h1 : UP cs ls (v : Int)
  · rw [if_pos h1]; decide
  · rw [if_neg h1, if_pos (h.resolve_left h1)]; decide
theorem open_is {K : Nat → Int} {v : Nat} (h1 : 1 ≤ v) (h2 : v ≤ vars) (h0 : K v = 0) (hl : ∀ u, 1 ≤ u → u < v → K u ≠ 0) : v = openV K vars := by
  have hge : 1 ≤ openV K vars := openF_ge K vars 1
  by_cases ha : v < openV K vars
  · exact absurd h0 (openF_low K vars 1 v h1 ha)
  · by_cases hb : openV K vars < v
    · exact absurd (openF_at K vars 1 (by show openV K vars < 1 + vars; omega)) (hl _ hge hb)
    · omega
/-- What is found is a model of all, and of what is chosen: so with x it cannot be that both are so. -/
theorem find_both (hok : cnfB (vars : Int) cs = true) {k : Nat} {ch : List Int} {n : Nat} (hr : RngL vars ch) (hx0 : x ≠ 0) (h : (findZ cs vars most k ch n).code = 1) (hx : soB (findZ cs vars most k ch n).model x = true) {y : Int} (hy : UP cs (ch ++ [x]) y) : soB (findZ cs vars most k ch n).model y = true := by
  obtain ⟨h1, h2⟩ := find_ext hok k ch n hr h
  exact hy.so (cnf_nz hok) (true_parts h1).2.2 (snoc_so h2 hx)
theorem find_given (hok : cnfB (vars : Int) cs = true) (hx0 : x ≠ 0) (hx1 : -(vars : Int) ≤ x) (hx2 : x ≤ vars) : ∀ (k k' : Nat) (ch ch' : List Int) (n n' : Nat), k ≤ k' → n' ≤ n → RngL vars ch → SameU cs x ch ch' →
    ((findZ cs vars most k ch n).code = 2 → (findZ (cs ++ [[x]]) vars most k' ch' n').code = 2 ∧ (findZ (cs ++ [[x]]) vars most k' ch' n').made ≤ (findZ cs vars most k ch n).made) ∧
    ((findZ cs vars most k ch n).code = 1 → soB (findZ cs vars most k ch n).model x = true → (findZ (cs ++ [[x]]) vars most k' ch' n').code = 1 ∧ (findZ (cs ++ [[x]]) vars most k' ch' n').model = (findZ cs vars most k ch n).model)
  | 0, k', ch, ch', n, n', hk, hn, hr, hu => by
    unfold findZ
    exact ⟨(fun h => by cases h), (fun h => by cases h)⟩
  | k + 1, k', ch, ch', n, n', hk, hn, hr, hu => by
    obtain ⟨j, rfl⟩ : ∃ j, k' = j + 1 := ⟨k' - 1, by omega⟩
    have hge := find_ge (cs := cs) (vars := vars) (most := most) (k + 1) ch n
    have hboth := fun (h : (findZ cs vars most (k + 1) ch n).code = 1) (hx : soB (findZ cs vars most (k + 1) ch n).model x = true) (y : Int) (hy : UP cs (ch ++ [x]) y) => find_both hok hr hx0 h hx hy
    have hext := fun (h : (findZ cs vars most (k + 1) ch n).code = 1) => find_ext hok (k + 1) ch n hr h
    have hm1 : ∀ {y : Int}, UP cs ch y → UP cs (ch ++ [x]) y := fun hy => hy.mono (fun _ hc => hc) (fun q hq => List.mem_append_left _ hq)
    cases hc : confB cs ch with
    | true =>
      have hc' : confB (cs ++ [[x]]) ch' = true := confB_true (hu.conf.2 ((confB_iff.1 hc).mono (fun _ hc => hc) (fun q hq => List.mem_append_left _ hq)))
      rw [find_conf hc, find_conf hc']
      exact ⟨fun _ => ⟨rfl, hn⟩, fun h => by cases h⟩
    | false =>
      by_cases h1 : vars < openV (upK cs ch) vars
      · refine ⟨fun h => (by rw [find_yes hc h1] at h; exact by cases h), fun h hxm => ?_⟩
        have hxu : UP cs ch x := by
          have hnz := open_all _ h1 x.natAbs (by omega) (by omega)
          have hor : UP cs ch x ∨ UP cs ch (-x) := by
            rcases upK_not hnz with q | q
            · by_cases hp : 0 < x
              · exact .inl (by rwa [show ((x.natAbs : Nat) : Int) = x by omega] at q)
              · exact .inr (by rwa [show ((x.natAbs : Nat) : Int) = -x by omega] at q)
            · by_cases hp : 0 < x
              · exact .inr (by rwa [show ((x.natAbs : Nat) : Int) = x by omega] at q)
              · exact .inl (by rwa [show -((x.natAbs : Nat) : Int) = x by omega] at q)
          rcases hor with q | q
          · exact q
          · have h3 := hboth h hxm (-x) (hm1 q)
            rw [so_neg hx0, hxm] at h3
            cases h3
        have hsame : ∀ y, UP (cs ++ [[x]]) ch' y ↔ UP cs ch y := fun y => by
          rw [hu y]
          exact ⟨fun hy => hy.cut (fun _ hc => hc) fun z hz => by
            rcases List.mem_append.1 hz with hz | hz
            · exact .given hz
            · rw [List.mem_singleton] at hz; rw [hz]; exact hxu, hm1⟩
        have hc' : confB (cs ++ [[x]]) ch' = false := confB_false fun hcf => by
          have h4 : Conf cs ch := by
            rcases hcf with q | ⟨y, q1, q2⟩
            · exact .inl (by simpa using q)
            · exact .inr ⟨y, (hsame y).1 q1, (hsame _).1 q2⟩
          rw [confB_true h4] at hc
          cases hc
        have hk' : upK (cs ++ [[x]]) ch' = upK cs ch := up_congr hsame
        rw [find_yes hc h1, find_yes hc' (by rw [hk']; exact h1), hk']
        exact ⟨rfl, rfl⟩
      · by_cases h2 : most ≤ n
        · rw [find_long hc h1 h2]
          exact ⟨(fun h => by cases h), (fun h => by cases h)⟩
        · obtain ⟨v1, v2, _, vlow⟩ := open_rng (upK cs ch) h1
          obtain ⟨v, hv⟩ : ∃ v, v = openV (upK cs ch) vars := ⟨_, rfl⟩
          rw [← hv] at v1 v2 vlow h1
          have r1 : RngL vars (ch ++ [-(v : Int)]) := hr.snoc (by omega) (by omega) (by omega)
          have r2 : RngL vars (ch ++ [(v : Int)]) := hr.snoc (by omega) (by omega) (by omega)
          cases hc' : confB (cs ++ [[x]]) ch' with
          | true =>
            rw [find_conf hc']
            refine ⟨fun _ => ⟨rfl, Nat.le_trans hn hge⟩, fun h hxm => ?_⟩
            obtain ⟨e1, e2⟩ := hext h
            exact ((hu.conf.1 (confB_iff.1 hc')).no (cnf_nz hok) (hr.snoc hx0 hx1 hx2).nz (true_parts e1).2.2 (snoc_so e2 hxm)).elim
          | false =>
            have gl := find_ge (cs := cs) (vars := vars) (most := most) k (ch ++ [-(v : Int)]) (n + 1)
            by_cases hk0 : upK (cs ++ [[x]]) ch' v = 0
            · have hv' : v = openV (upK (cs ++ [[x]]) ch') vars := open_is v1 v2 hk0 fun u u1 u2 => upK_is ((upK_not (vlow u u1 u2)).imp (fun q => (hu _).2 (hm1 q)) (fun q => (hu _).2 (hm1 q)))
              have il := find_given hok hx0 hx1 hx2 k j (ch ++ [-(v : Int)]) (ch' ++ [-(v : Int)]) (n + 1) (n' + 1) (by omega) (by omega) r1 (hu.snoc _)
              rw [find_step hc hv h1 h2 rfl, find_step hc' hv' h1 (by omega) rfl]
              by_cases ha : (findZ cs vars most k (ch ++ [-(v : Int)]) (n + 1)).code = 2
              · obtain ⟨l1, l2⟩ := il.1 ha
                have ir := find_given hok hx0 hx1 hx2 k j (ch ++ [(v : Int)]) (ch' ++ [(v : Int)]) _ _ (by omega) l2 r2 (hu.snoc _)
                rw [if_pos ha, if_pos l1]
                by_cases hb : (findZ cs vars most k (ch ++ [(v : Int)]) (findZ cs vars most k (ch ++ [-(v : Int)]) (n + 1)).made).code = 2
                · obtain ⟨m1, m2⟩ := ir.1 hb
                  rw [if_pos hb, if_pos m1]
                  exact ⟨fun _ => ⟨rfl, m2⟩, fun h => by cases h⟩
                · rw [if_neg hb]
                  refine ⟨fun h => absurd h hb, fun h hxm => ?_⟩
                  obtain ⟨m1, m2⟩ := ir.2 h hxm
                  rw [if_neg (by rw [m1]; decide)]
                  exact ⟨m1, m2⟩
              · rw [if_neg ha]
                refine ⟨fun h => absurd h ha, fun h hxm => ?_⟩
                obtain ⟨m1, m2⟩ := il.2 h hxm
                rw [if_neg (by rw [m1]; decide)]
                exact ⟨m1, m2⟩
            · by_cases hneg : UP (cs ++ [[x]]) ch' (-(v : Int))
              · have il := find_given hok hx0 hx1 hx2 k (j + 1) (ch ++ [-(v : Int)]) ch' (n + 1) n' (by omega) (by omega) r1 (hu.keep hneg)
                have gr := find_ge (cs := cs) (vars := vars) (most := most) k (ch ++ [(v : Int)]) (findZ cs vars most k (ch ++ [-(v : Int)]) (n + 1)).made
                rw [find_step hc hv h1 h2 rfl]
                by_cases ha : (findZ cs vars most k (ch ++ [-(v : Int)]) (n + 1)).code = 2
                · obtain ⟨l1, l2⟩ := il.1 ha
                  rw [if_pos ha]
                  by_cases hb : (findZ cs vars most k (ch ++ [(v : Int)]) (findZ cs vars most k (ch ++ [-(v : Int)]) (n + 1)).made).code = 2
                  · rw [if_pos hb]
                    exact ⟨fun _ => ⟨l1, Nat.le_trans l2 gr⟩, fun h => by cases h⟩
                  · rw [if_neg hb]
                    refine ⟨fun h => absurd h hb, fun h hxm => ?_⟩
                    have e1 := (find_ext hok k _ _ r2 h).2 (v : Int) (by simp)
                    have e2 := find_both hok r2 hx0 h hxm (((hu _).1 hneg).mono (fun _ hc => hc) (fun q hq => by simp at hq ⊢; rcases hq with hq | hq <;> simp [hq]))
                    rw [so_neg (by omega), e1] at e2
                    cases e2
                · rw [if_neg ha]
                  exact ⟨fun h => absurd h ha, fun h hxm => il.2 h hxm⟩
              · have hpos : UP (cs ++ [[x]]) ch' (v : Int) := (upK_not hk0).resolve_right hneg
                rw [find_step hc hv h1 h2 rfl]
                by_cases ha : (findZ cs vars most k (ch ++ [-(v : Int)]) (n + 1)).code = 2
                · have ir := find_given hok hx0 hx1 hx2 k (j + 1) (ch ++ [(v : Int)]) ch' (findZ cs vars most k (ch ++ [-(v : Int)]) (n + 1)).made n' (by omega) (by omega) r2 (hu.keep hpos)
                  rw [if_pos ha]
                  by_cases hb : (findZ cs vars most k (ch ++ [(v : Int)]) (findZ cs vars most k (ch ++ [-(v : Int)]) (n + 1)).made).code = 2
                  · rw [if_pos hb]
                    exact ⟨fun _ => ir.1 hb, fun h => by cases h⟩
                  · rw [if_neg hb]
                    exact ⟨fun h => absurd h hb, fun h hxm => ir.2 h hxm⟩
                · rw [if_neg ha]
                  refine ⟨fun h => absurd h ha, fun h hxm => ?_⟩
                  have e1 := (find_ext hok k _ _ r1 h).2 (-(v : Int)) (by simp)
                  have e2 := find_both hok r1 hx0 h hxm (((hu _).1 hpos).mono (fun _ hc => hc) (fun q hq => by simp at hq ⊢; rcases hq with hq | hq <;> simp [hq]))
                  rw [so_neg (by omega), e2] at e1
                  cases e1
end
/-- With what is so in the first model said the first model is the same. -/
theorem sat_given {vars most : Int} {cs : List (List Int)} {m : List Bool} {p : List (List Int)} {x : Int} (h : satZ vars cs most = (1, m, p)) (hl : cs.length + 1 ≤ 6000) (hx0 : x ≠ 0) (hx1 : -vars ≤ x) (hx2 : x ≤ vars) (hx : soB m x = true) : ∃ p', satZ vars (cs ++ [[x]]) most = (1, m, p') := by
  cases hb : (cnfB vars cs && inB most 0 3000) with
  | false =>
    rw [satZ_bad hb] at h
    simp at h
  | true =>
    rw [Bool.and_eq_true] at hb
    obtain ⟨hok, hmo⟩ := hb
    obtain ⟨v0, v1⟩ := cnf_vars hok
    obtain ⟨n, hn⟩ : ∃ n : Nat, vars = n := ⟨vars.toNat, by omega⟩
    subst hn
    have hok' : cnfB (n : Int) (cs ++ [[x]]) = true := by
      have hq := hok
      simp only [cnfB, Bool.and_eq_true, decide_eq_true_eq, List.all_eq_true] at hq ⊢
      refine ⟨hq.1, by simp; omega, fun d hd => ?_⟩
      rcases List.mem_append.1 hd with hd | hd
      · exact hq.2.2 d hd
      · rw [List.mem_singleton] at hd
        subst hd
        simp [litsB, litB, inB]
        omega
    rw [satZ_find (by rw [Bool.and_eq_true]; exact ⟨hok, hmo⟩), Int.toNat_natCast] at h
    rw [satZ_find (by rw [Bool.and_eq_true]; exact ⟨hok', hmo⟩), Int.toNat_natCast]
    have h1 : (findZ cs n most.toNat 401 [] 0).code = 1 := congrArg (fun r : SatR => r.1) h
    have h2 : (findZ cs n most.toNat 401 [] 0).model = m := congrArg (fun r : SatR => r.2.1) h
    have hs : SameU cs x [] [] := by
      intro y
      constructor
      · intro hy
        induction hy with
        | given hm => cases hm
        | unit hc hm hall ih =>
          rcases List.mem_append.1 hc with hc | hc
          · exact .unit hc hm ih
          · rw [List.mem_singleton] at hc
            subst hc
            rw [List.mem_singleton] at hm
            subst hm
            exact .given (by simp)
      · intro hy
        refine hy.cut (fun c hc => List.mem_append_left _ hc) fun z hz => ?_
        simp at hz
        rw [hz]
        exact .unit (c := [x]) (by simp) (by simp) (fun y hy hn => absurd (List.mem_singleton.1 hy) hn)
    obtain ⟨q1, q2⟩ := (find_given hok hx0 hx1 hx2 401 401 [] [] 0 0 (Nat.le_refl _) (Nat.le_refl _) (fun x hx => by cases hx) hs).2 h1 (by rw [h2]; exact hx)
    refine ⟨(findZ (cs ++ [[x]]) n most.toNat 401 [] 0).proof, ?_⟩
    rw [← h2, ← q2, ← q1]
    rfl
end Go.Proofs.Ythkhaemlcmkkjar
