/- Drawn regions, as in RegM, of which an operation may wait, in one compiler alone, for a later one. A region that draws its order: operations of which each leaves a value of its kind, whatever the order; and a tail in order. As RegH, where values speak of memory. A region that draws its order: operations of which each leaves a value of its kind, whatever the order; and a tail in order. All blocks but one stay as they were. -/
import Derived.Test.YthkhaemlcmkkjarGReg
import Derived.Test.YthkhaemlcmkkjarGGrow
namespace Go.Proofs.Ythkhaemlcmkkjar
set_option linter.unusedVariables false
set_option linter.unusedSimpArgs false

variable {P : Program} {ops : Array Oper} {Q : Exit → Act → World → Prop} {md : Region.Mode}

/-- Edges backward alone, each slot once, what is looked at or guards is waited for. -/
def plainN (ops : Array Oper) : Bool :=
  (List.range ops.size).all fun i => match ops[i]? with
    | some o => o.after.all (fun e => !Region.binds .any e || decide (e.on < i)) && (match o.dst with | some d => (List.range i).all (fun j => slotOf ops j != some d) | none => true) && (match o.guard with | some (g, _) => o.after.any (fun e => Region.binds .any e && e.on == g) | none => true)
    | none => true
theorem plainN_at (h : plainN ops = true) {i : Nat} {o : Oper} (hi : ops[i]? = some o) : (∀ e ∈ o.after, Region.binds .any e = true → e.on < i) ∧ (∀ d, o.dst = some d → ∀ j, j < i → slotOf ops j ≠ some d) ∧ ∀ g want, o.guard = some (g, want) → ∃ e ∈ o.after, Region.binds .any e = true ∧ e.on = g := by
  have hlt : i < ops.size := (Array.getElem?_eq_some_iff.1 hi).1
  have h1 := List.all_eq_true.1 h i (List.mem_range.2 hlt)
  simp only [hi] at h1
  rw [Bool.and_eq_true, Bool.and_eq_true] at h1
  obtain ⟨⟨h3, h4⟩, h5⟩ := h1
  refine ⟨fun e he hb => ?_, fun d hd j hj => ?_, fun g want hg => ?_⟩
  · have := Array.all_eq_true'.1 h3 e he
    rw [hb] at this
    simpa using this
  · rw [hd] at h4
    have := List.all_eq_true.1 h4 j (List.mem_range.2 hj)
    simpa using this
  · rw [hg] at h5
    obtain ⟨e, he, hb⟩ := Array.any_eq_true'.1 h5
    simp only [Bool.and_eq_true, beq_iff_eq] at hb
    exact ⟨e, he, hb.1, hb.2⟩
theorem slotN_once (h : plainN ops = true) {i j : Nat} {d : Tmp} (hi : slotOf ops i = some d) (hj : slotOf ops j = some d) : i = j := by
  have key : ∀ i j, slotOf ops i = some d → slotOf ops j = some d → ¬ j < i := fun i j hi hj hlt => by
    unfold slotOf at hi
    obtain ⟨o, ho, hd⟩ := Option.bind_eq_some_iff.1 hi
    exact (plainN_at h ho).2.1 d hd j hlt hj
  have := key i j hi hj
  have := key j i hj hi
  omega
theorem allN_listed (h : plainN ops = true) {listed : Array Bool} (hr : Region.ready .any ops listed = []) (hs : listed.size = ops.size) : ∀ i, i < ops.size → listed.getD i false = true := by
  intro i
  induction i using Nat.strongRecOn with
  | _ i ih =>
    intro hi
    have ho : ops[i]? = some ops[i] := by simp [hi]
    cases hl : listed.getD i false
    · exfalso
      have hin : i ∈ Region.ready .any ops listed := by
        unfold Region.ready
        refine List.mem_filter.2 ⟨List.mem_range.2 hi, ?_⟩
        have hl' : listed.getD i true = false := by
          simp [Array.getD, hs, hi] at hl ⊢
          exact hl
        rw [hl', ho]
        simp only [Option.map_some, Option.getD_some, Bool.not_false, Bool.true_and]
        refine Array.all_eq_true'.2 fun e he => ?_
        cases hbe : Region.binds .any e with
        | false => simp
        | true =>
          have := ih e.on ((plainN_at h ho).1 e he hbe) (Nat.lt_trans ((plainN_at h ho).1 e he hbe) hi)
          rw [this]
          simp
      rw [hr] at hin
      cases hin
    · rfl
theorem putN_facts (hp : plainN ops = true) (V : List Value) {a0 : Act} (hs : slotsB ops a0.tmps.size = true) : ∀ n, n ≤ ops.size → (putAll ops V n a0).defers = a0.defers ∧ (putAll ops V n a0).tmps.size = a0.tmps.size ∧ (∀ t, (∀ i, i < n → slotOf ops i ≠ some t) → (putAll ops V n a0).tmps[t]? = a0.tmps[t]?) ∧ ∀ i, i < n → ∀ t, slotOf ops i = some t → (putAll ops V n a0).tmps[t]? = some (V.getD i undef)
  | 0, _ => ⟨rfl, rfl, fun _ _ => rfl, fun i hi => absurd hi (Nat.not_lt_zero _)⟩
  | n + 1, hn => by
    obtain ⟨h1, h2, h3, h4⟩ := putN_facts hp V hs n (by omega)
    unfold putAll
    cases hd : slotOf ops n with
    | none =>
      refine ⟨h1, h2, fun t ht => h3 t fun i hi => ht i (by omega), fun i hi t ht => ?_⟩
      by_cases e : i = n
      · subst e; rw [hd] at ht; cases ht
      · exact h4 i (by omega) t ht
    | some d =>
      refine ⟨h1, by simp [Act.put, h2], fun t ht => ?_, fun i hi t ht => ?_⟩
      · have hne : d ≠ t := fun e => ht n (by omega) (by rw [hd, e])
        simp only [Act.put, Array.getElem?_setIfInBounds, hne, if_false]
        exact h3 t fun i hi => ht i (by omega)
      · by_cases e : i = n
        · subst e
          rw [hd] at ht
          cases ht
          have hlt := slots_at hs hd
          simp [Act.put, Array.getElem?_setIfInBounds, h2, hlt]
        · have hne : d ≠ t := fun x => e (slotN_once hp ht (by rw [hd, x]))
          simp only [Act.put, Array.getElem?_setIfInBounds, hne, if_false]
          exact h4 i (by omega) t ht
theorem putP_factsN (hp : plainN ops = true) : ∀ (sp : List Nat) (us : List Value) {a : Act}, slotsB ops a.tmps.size = true → sp.Nodup → us.length ≤ sp.length → (putP ops sp us a).defers = a.defers ∧ (putP ops sp us a).tmps.size = a.tmps.size ∧ (∀ t, (∀ i, i < us.length → ∀ j, sp[i]? = some j → slotOf ops j ≠ some t) → (putP ops sp us a).tmps[t]? = a.tmps[t]?) ∧ ∀ i, i < us.length → ∀ j, sp[i]? = some j → ∀ t, slotOf ops j = some t → (putP ops sp us a).tmps[t]? = us[i]?
  | [], [], a, hs, hn, hl => ⟨rfl, rfl, fun _ _ => rfl, fun i hi => absurd hi (Nat.not_lt_zero _)⟩
  | [], _ :: _, a, hs, hn, hl => absurd hl (by simp)
  | j :: sp, [], a, hs, hn, hl => ⟨rfl, rfl, fun _ _ => rfl, fun i hi => absurd hi (Nat.not_lt_zero _)⟩
  | j :: sp, x :: us, a, hs, hn, hl => by
    have hsz : (a.put (slotOf ops j) x).tmps.size = a.tmps.size := by cases slotOf ops j <;> simp [Act.put]
    have hdf : (a.put (slotOf ops j) x).defers = a.defers := by cases slotOf ops j <;> rfl
    obtain ⟨hnj, hn'⟩ := List.nodup_cons.1 hn
    obtain ⟨h1, h2, h3, h4⟩ := putP_factsN hp sp us (a := a.put (slotOf ops j) x) (by rw [hsz]; exact hs) hn' (by simpa using hl)
    unfold putP
    refine ⟨h1.trans hdf, h2.trans hsz, fun t ht => ?_, fun i hi j' hj' t ht => ?_⟩
    · rw [h3 t (fun i hi j' hj' => ht (i + 1) (by simp; omega) j' (by simpa using hj'))]
      have h0 := ht 0 (by simp) j (by simp)
      cases hd : slotOf ops j with
      | none => rfl
      | some d =>
        have hne : d ≠ t := fun e => h0 (by rw [hd, e])
        simp [Act.put, Array.getElem?_setIfInBounds, hne]
    · match i with
      | 0 =>
        simp at hj'
        subst hj'
        rw [h3 t (fun i hi j' hj' h => by
          have := slotN_once hp ht h
          subst this
          exact hnj (List.mem_of_getElem? hj')), ht]
        have := slots_at hs ht
        simp [Act.put, Array.getElem?_setIfInBounds, this]
      | i + 1 =>
        rw [h4 i (by simpa using hi) j' (by simpa using hj') t ht]
        simp

/-- The theorem: m operations ahead of the tail; sp those whose values may be any. -/
theorem wp_region_mixN {id k : Nat} (m : Nat) (sp : List Nat) {a0 : Act} {w0 : World} (V : List Value) (C : Bool → List Value → World → Prop) (hm : P.follows .mixedOrders = true) (hp : plainN ops = true) (hs : slotsB ops a0.tmps.size = true) (hlk : looksB ops = true) (ht : tailB ops m = true) (hmx : mixB ops m sp = true)
    (hC : C false [] w0.drew)
    (hop : ∀ full, full = putAll ops V m a0 → ∀ (i : Nat) (o : Oper), i < m → i ∉ sp → ops[i]? = some o → ∀ (w : World) (b : Bool) (us : List Value), C b us w → (i = k → b = false) →
      gwp P ops full o full w (fun x w' => x = V.getD i undef ∧ C (b || decide (i = k)) us w'))
    (hmk : ∀ full, full = putAll ops V m a0 → ∀ (us : List Value) (j : Nat), sp[us.length]? = some j → ∀ (o : Oper), ops[j]? = some o → ∀ (w : World) (b : Bool), C b us w →
      gwp P ops full o (putP ops sp us full) w (fun x w' => C b (us ++ [x]) w'))
    (hend : ∀ full, full = putAll ops V m a0 → ∀ us w, us.length = sp.length → C (decide (k < m ∧ k ∉ sp)) us w → wpList P ops Q (ops.toList.drop m) (putP ops sp us full) w) : (Code.region id ops true).wp P Q a0 w0 := by
  have M := mix_of hmx
  simp only [tailB, Bool.and_eq_true, decide_eq_true_eq] at ht
  obtain ⟨⟨⟨hn, hsink⟩, hchain⟩, hseq⟩ := ht
  obtain ⟨full, hfull⟩ : ∃ f, f = putAll ops V m a0 := ⟨_, rfl⟩
  have hop := hop full hfull
  have hmk := hmk full hfull
  have hend := hend full hfull
  obtain ⟨f1, f2, f3, f4⟩ := putN_facts hp V hs m (by omega)
  rw [← hfull] at f1 f2 f3 f4
  have head : ∀ (f : Nat) (listed : Array Bool) (a : Act) (w : World) (us : List Value), leftOver m listed = f → HeadInv .any ops m listed → a.defers = a0.defers → a.tmps.size = a0.tmps.size → (∀ t, (∀ i, i < m → slotOf ops i ≠ some t) → a.tmps[t]? = a0.tmps[t]?) →
      (∀ i, i < m → i ∉ sp → listed.getD i false = true → ∀ t, slotOf ops i = some t → a.tmps[t]? = some (V.getD i undef)) → (us.length ≤ sp.length ∧ ∀ i j, sp[i]? = some j → listed.getD j false = decide (i < us.length)) → (∀ i j, i < us.length → sp[i]? = some j → ∀ t, slotOf ops j = some t → a.tmps[t]? = us[i]?) → C (listed.getD k false && decide (k < m ∧ k ∉ sp)) us w → wpAny P .any ops Q (f + (ops.size - m)) listed a w := by
    intro f
    induction f with
    | zero =>
      intro listed a w us hf inv g1 g2 g3 g4 g5 g6 hCw
      have hall : ∀ i, i < m → listed.getD i false = true := fun i hi => by
        have h0 := List.countP_eq_zero.1 hf i (List.mem_range.2 hi)
        have hil : i < listed.size := by rw [inv.size]; omega
        simp [hil] at h0 ⊢
        exact h0
      have hl : listed = headL ops.size m := by
        apply Array.ext_getElem?
        intro i
        by_cases hi : i < ops.size
        · have hil : i < listed.size := by rw [inv.size]; exact hi
          by_cases hin : i < m
          · have := hall i hin
            simp [hil] at this
            simp [headL, hi, hil, this, hin]
          · have := inv.tail i (by omega) hi
            simp [hil] at this
            simp [headL, hi, hil, this, hin]
        · rw [Array.getElem?_eq_none (by rw [inv.size]; omega), Array.getElem?_eq_none (by simp [headL]; omega)]
      have hlen : us.length = sp.length := by
        rcases Nat.lt_or_ge us.length sp.length with h | h
        · have e : sp[us.length]? = some sp[us.length] := by simp [h]
          have h2 := g5.2 _ _ e
          rw [hall _ (M.lt _ (List.getElem_mem h))] at h2
          simp at h2
        · exact Nat.le_antisymm g5.1 h
      obtain ⟨p1, p2, p3, p4⟩ := putP_factsN hp sp us (a := full) (by rw [f2]; exact hs) M.nodup g5.1
      have ha : a = putP ops sp us full := by
        have e1 : a.tmps = (putP ops sp us full).tmps := by
          apply Array.ext_getElem?
          intro t
          by_cases hst : ∃ i j, i < us.length ∧ sp[i]? = some j ∧ slotOf ops j = some t
          · obtain ⟨i, j, hi, hij, hit⟩ := hst
            rw [g6 i j hi hij t hit, p4 i hi j hij t hit]
          · have hst' : ∀ i, i < us.length → ∀ j, sp[i]? = some j → slotOf ops j ≠ some t := fun i hi j hij h => hst ⟨i, j, hi, hij, h⟩
            rw [p3 t hst']
            by_cases hx : ∃ i, i < m ∧ slotOf ops i = some t
            · obtain ⟨i, hi, hit⟩ := hx
              have hns : i ∉ sp := fun hmem => by
                obtain ⟨q, hq, hqe⟩ := List.getElem_of_mem hmem
                exact hst' q (by omega) i (by simp [hq, hqe]) hit
              rw [g4 i hi hns (hall i hi) t hit, f4 i hi t hit]
            · have hx' : ∀ i, i < m → slotOf ops i ≠ some t := fun i hi h => hx ⟨i, hi, h⟩
              rw [g3 t hx', f3 t hx']
        have e2 : a.defers = (putP ops sp us full).defers := by rw [g1, p1, f1]
        cases ha : a
        cases hb : putP ops sp us full
        rw [ha, hb] at e1 e2
        simp at e1 e2
        rw [e1, e2]
      subst ha
      have hCw' : C (decide (k < m ∧ k ∉ sp)) us w := by
        by_cases hk : k < m
        · have e := hall k hk
          rw [e] at hCw
          simpa using hCw
        · simpa [hk] using hCw
      have h := hend us w hlen hCw'
      rw [hl]
      have hdl : (ops.toList.drop m).length = ops.size - m := by simp
      have := wpAny_of_seq (P := P) (ops := ops) (md := .any) (Q' := Q) (ops.toList.drop m) m (headL ops.size m) (putP ops sp us full) w (fun j => by simp [List.getElem?_drop]) (by rw [hdl]; exact hseq) h
      rw [hdl] at this
      simpa using this
    | succ f ih =>
      intro listed a w us hf inv g1 g2 g3 g4 g5 g6 hCw
      obtain ⟨y, hu, hun⟩ : ∃ y, y < m ∧ listed.getD y true = false := by
        have : 0 < leftOver m listed := by omega
        obtain ⟨y, hu, h⟩ := List.countP_pos_iff.1 this
        exact ⟨y, List.mem_range.1 hu, by simpa using h⟩
      rw [show f + 1 + (ops.size - m) = (f + (ops.size - m)) + 1 by omega]
      refine ⟨fun hr => ?_, fun i hi => ?_⟩
      · exfalso
        have := allN_listed hp hr inv.size y (by omega)
        rw [getD_both hun] at this
        cases this
      · have hin1 : i < m := by
          rcases Nat.lt_or_ge i m with h | h
          · exact h
          · exact absurd hi (tail_waits hsink hchain hn inv _ y rfl hu hun i h)
        obtain ⟨hiun, o, ho, hdeps⟩ := mem_ready.1 hi
        obtain ⟨p1, p2, p3, p4⟩ := putP_factsN hp sp us (a := full) (by rw [f2]; exact hs) M.nodup g5.1
        have hpd : ∀ j, j < m → j ∉ sp → ∀ t, slotOf ops j = some t → (putP ops sp us full).tmps[t]? = full.tmps[t]? := fun j hj hns t hjt => p3 t (fun q hq j' hj' h => by
          have := slotN_once hp hjt h
          subst this
          exact hns (List.mem_of_getElem? hj'))
        have hexS : execOp a.eval o = execOp (putP ops sp us full).eval o := by
          refine execOp_congr o (looks_at hlk ho).1 fun x hx => ?_
          cases x with
          | tmp t =>
            show a.tmps.getD t undef = (putP ops sp us full).tmps.getD t undef
            have e : a.tmps[t]? = (putP ops sp us full).tmps[t]? := by
              by_cases hy : ∃ j, j < m ∧ slotOf ops j = some t
              · obtain ⟨j, hj, hjt⟩ := hy
                obtain ⟨e, he, hb, hon⟩ := (looks_at hlk ho).2 t (by simpa using hx) j hjt
                have hl := hdeps e he hb
                rw [hon] at hl
                by_cases hjs : j ∈ sp
                · obtain ⟨q, hq, hqe⟩ := List.getElem_of_mem hjs
                  have hqj : sp[q]? = some j := by simp [hq, hqe]
                  have e2 := g5.2 q j hqj
                  rw [hl] at e2
                  have hjl : q < us.length := by simpa using e2.symm
                  rw [g6 q j hjl hqj t hjt, p4 q hjl j hqj t hjt]
                · rw [g4 j hj hjs hl t hjt, hpd j hj hjs t hjt, f4 j hj t hjt]
              · have hy' : ∀ j, j < m → slotOf ops j ≠ some t := fun j hj h => hy ⟨j, hj, h⟩
                rw [g3 t hy', p3 t (fun q hq j hj => hy' j (M.lt j (List.mem_of_getElem? hj))), f3 t hy']
            rw [Array.getD_eq_getD_getElem?, Array.getD_eq_getD_getElem?, e]
          | _ => rfl
        have hwant : Region.wanted o (yielded ops a.tmps) = Region.wanted o (yielded ops full.tmps) := wanted_same fun g want hg t hgt => by
          obtain ⟨e, he, hb, hon⟩ := (plainN_at hp ho).2.2 g want hg
          have hl := hdeps e he hb
          rw [hon] at hl
          obtain ⟨hns, hgm⟩ := M.guard i o g want hin1 ho hg
          rw [g4 g hgm hns hl t hgt, f4 g hgm t hgt]
        have hfit : ∀ d, o.dst = some d → d < full.tmps.size := fun d hd => by
          rw [f2]
          exact slots_at hs (i := i) (by simp [slotOf, ho, hd])
        have hil : i < listed.size := by rw [inv.size]; omega
        have hslot : slotOf ops i = o.dst := by simp [slotOf, ho]
        have hdef : ∀ v, (a.put o.dst v).defers = a0.defers := fun v => by cases hd : o.dst <;> simp [Act.put, g1]
        have hsiz : ∀ v, (a.put o.dst v).tmps.size = a0.tmps.size := fun v => by cases hd : o.dst <;> simp [Act.put, g2]
        have hoth : ∀ v t, (∀ j, j < m → slotOf ops j ≠ some t) → (a.put o.dst v).tmps[t]? = a0.tmps[t]? := fun v t ht => by
          cases hd : o.dst with
          | none => exact g3 t ht
          | some d =>
            have hne : d ≠ t := fun e => ht i hin1 (by rw [hslot, hd, e])
            simp only [Act.put, Array.getElem?_setIfInBounds, hne, if_false]
            exact g3 t ht
        have hown : ∀ v t, slotOf ops i = some t → (a.put o.dst v).tmps[t]? = some v := fun v t ht => by
          rw [hslot] at ht
          rw [ht]
          have hlt := hfit t ht
          rw [f2] at hlt
          simp [Act.put, Array.getElem?_setIfInBounds, g2, hlt]
        have hnot : ∀ v j t, j ≠ i → slotOf ops j = some t → (a.put o.dst v).tmps[t]? = a.tmps[t]? := fun v j t e hjt => by
          cases hd : o.dst with
          | none => rfl
          | some d =>
            have hne : d ≠ t := fun x => e (slotN_once hp hjt (by rw [hslot, hd, x]))
            simp only [Act.put, Array.getElem?_setIfInBounds, hne, if_false]
        unfold wpOp
        simp only [ho]
        rw [hwant]
        by_cases his : i ∈ sp
        · obtain ⟨q, hq, hqe⟩ := List.getElem_of_mem his
          have hqi : sp[q]? = some i := by simp [hq, hqe]
          have hus : q = us.length := by
            have h1 := g5.2 q i hqi
            rw [getD_both hiun] at h1
            have h2 : ¬ q < us.length := by simpa using h1.symm
            rcases Nat.eq_zero_or_pos q with h0 | h0
            · omega
            · have hw := M.chain q h0 hq
              have hgq : sp.getD q 0 = i := by simp [List.getD, hq, hqe]
              rw [hgq] at hw
              obtain ⟨oj, hoj, e, he, hb, hon⟩ := Region.waitsFor_spec hw
              rw [ho] at hoj
              cases hoj
              have hl := hdeps e he hb
              rw [hon] at hl
              have hq1 : sp[q - 1]? = some (sp.getD (q - 1) 0) := by
                have : q - 1 < sp.length := by omega
                simp [List.getD, this]
              have h3 := g5.2 (q - 1) _ hq1
              rw [hl] at h3
              have h4 : q - 1 < us.length := by simpa using h3.symm
              omega
          subst hus
          have key : ∀ x w', C (listed.getD k false && decide (k < m ∧ k ∉ sp)) (us ++ [x]) w' → wpAny P .any ops Q (f + (ops.size - m)) (listed.setIfInBounds i true) (a.put o.dst x) w' := fun x w' hC' => by
            refine ih _ _ _ (us ++ [x]) (by have := left_step' hi hin1; omega) (inv.set hi hin1) (hdef _) (hsiz _) (hoth _) ?_ ⟨by simp; omega, ?_⟩ ?_ ?_
            · intro j hj hns hjl t hjt
              have e : j ≠ i := fun e => hns (by rw [e]; exact his)
              have hjl' : listed.getD j false = true := by rw [← hjl]; exact (getD_set_ne false (Ne.symm e)).symm
              rw [hnot _ j t e hjt]
              exact g4 j hj hns hjl' t hjt
            · intro q' j hj
              by_cases e : j = i
              · subst e
                have eq : q' = us.length := by
                  have h1 : q' < sp.length := (List.getElem?_eq_some_iff.1 hj).1
                  exact (List.getElem?_inj h1 M.nodup).1 (by rw [hj, hqi])
                subst eq
                have e2 : (listed.setIfInBounds j true).getD j false = true := by simp [Array.getD_eq_getD_getElem?, Array.getElem?_setIfInBounds, hil]
                rw [e2]
                simp
              · have hne : q' ≠ us.length := fun eq => by
                  subst eq
                  rw [hqi] at hj
                  cases hj
                  exact e rfl
                rw [getD_set_ne false (Ne.symm e), g5.2 q' j hj, List.length_append]
                simp
                omega
            · intro q' j hq' hj t ht
              by_cases e : j = i
              · subst e
                have eq : q' = us.length := by
                  have h1 : q' < sp.length := (List.getElem?_eq_some_iff.1 hj).1
                  exact (List.getElem?_inj h1 M.nodup).1 (by rw [hj, hqi])
                subst eq
                rw [hown _ t ht]
                simp
              · have hne : q' ≠ us.length := fun eq => by
                  subst eq
                  rw [hqi] at hj
                  cases hj
                  exact e rfl
                have hq2 : q' < us.length := by simp at hq'; omega
                rw [hnot _ j t e ht, g6 q' j hq2 hj t ht, List.getElem?_append_left hq2]
            · by_cases e : k = i
              · have : ¬ (k < m ∧ k ∉ sp) := fun h => h.2 (by rw [e]; exact his)
                simp only [this, decide_false, Bool.and_false] at hC' ⊢
                exact hC'
              · have e2 : (listed.setIfInBounds i true).getD k false = listed.getD k false := getD_set_ne false (Ne.symm e)
                rw [e2]
                exact hC'
          have hw := hmk us i hqi o ho w _ hCw
          unfold gwp at hw
          split at hw
          · rename_i hwt
            rw [if_pos hwt]
            have hw' : o.wp P a w (fun a' w' => ∃ x, a' = a.put o.dst x ∧ C (listed.getD k false && decide (k < m ∧ k ∉ sp)) (us ++ [x]) w') Q := wp_of_full_ex hexS (fun d hd => by rw [p2]; exact hfit d hd) hw
            refine Or.inl (Oper.wp_mono ?_ hw')
            rintro a' w' ⟨x, rfl, hC'⟩
            exact key x w' hC'
          · rename_i hwt
            rw [if_neg hwt]
            exact key undef w hw
        · have hex : execOp a.eval o = execOp full.eval o := by
            rw [hexS]
            refine execOp_congr o (looks_at hlk ho).1 fun x hx => ?_
            cases x with
            | tmp t =>
              show (putP ops sp us full).tmps.getD t undef = full.tmps.getD t undef
              have e : (putP ops sp us full).tmps[t]? = full.tmps[t]? := p3 t (fun q hq j hj h => M.looks i o hin1 ho his t (by simpa using hx) j (List.mem_of_getElem? hj) h)
              rw [Array.getD_eq_getD_getElem?, Array.getD_eq_getD_getElem?, e]
            | _ => rfl
          have hflag : i = k → (listed.getD k false && decide (k < m ∧ k ∉ sp)) = false := fun e => by
            subst e
            rw [getD_both hiun]
            rfl
          have key : ∀ w', C ((listed.getD k false && decide (k < m ∧ k ∉ sp)) || decide (i = k)) us w' → wpAny P .any ops Q (f + (ops.size - m)) (listed.setIfInBounds i true) (a.put o.dst (V.getD i undef)) w' := fun w' hC' => by
            refine ih _ _ _ us (by have := left_step' hi hin1; omega) (inv.set hi hin1) (hdef _) (hsiz _) (hoth _) ?_ ⟨g5.1, ?_⟩ ?_ ?_
            · intro j hj hns hjl t hjt
              by_cases e : j = i
              · subst e
                exact hown _ t hjt
              · have hjl' : listed.getD j false = true := by rw [← hjl]; exact (getD_set_ne false (Ne.symm e)).symm
                rw [hnot _ j t e hjt]
                exact g4 j hj hns hjl' t hjt
            · intro q j hj
              have e : j ≠ i := fun e => his (by rw [← e]; exact List.mem_of_getElem? hj)
              rw [getD_set_ne false (Ne.symm e)]
              exact g5.2 q j hj
            · intro q j hq hj t ht
              have e : j ≠ i := fun e => his (by rw [← e]; exact List.mem_of_getElem? hj)
              rw [hnot _ j t e ht]
              exact g6 q j hq hj t ht
            · by_cases e : i = k
              · subst e
                have e2 : (listed.setIfInBounds i true).getD i false = true := by simp [Array.getD_eq_getD_getElem?, Array.getElem?_setIfInBounds, hil]
                rw [e2]
                simpa [hin1, his] using hC'
              · have e2 : (listed.setIfInBounds i true).getD k false = listed.getD k false := getD_set_ne false e
                rw [e2]
                simpa [e] using hC'
          have hw := hop i o hin1 his ho w _ us hCw hflag
          unfold gwp at hw
          split at hw
          · rename_i hwt
            rw [if_pos hwt]
            have hw' := wp_of_full_ex (Q := Q) hex hfit hw
            refine Or.inl (Oper.wp_mono ?_ hw')
            rintro a' w' ⟨x, rfl, rfl, hC'⟩
            exact key w' hC'
          · rename_i hwt
            rw [if_neg hwt]
            obtain ⟨e, hC'⟩ := hw
            rw [e]
            exact key w hC'
  refine wp_region_any hm ?_
  have hl0 : leftOver m (Array.replicate ops.size false) = m := by
    unfold leftOver
    rw [List.countP_eq_length.2, List.length_range]
    intro i hi
    have := List.mem_range.1 hi
    have : i < ops.size := by omega
    simp [this]
  have := head m (Array.replicate ops.size false) a0 w0.drew [] hl0 ⟨by simp, fun j oj _ hl => (by rw [getD_replicate_false] at hl; cases hl), fun t _ ht => getD_in (by simpa using ht) (getD_replicate_false _ _)⟩ rfl rfl (fun _ _ => rfl) (fun i _ _ hl => by rw [getD_replicate_false] at hl; cases hl) ⟨Nat.zero_le _, fun i j _ => by rw [getD_replicate_false]; rfl⟩ (fun i j hi => absurd hi (Nat.not_lt_zero _)) (by rw [getD_replicate_false]; exact hC)
  rw [show m + (ops.size - m) = ops.size by omega] at this
  exact this
end Go.Proofs.Ythkhaemlcmkkjar

namespace Go.Proofs.Ythkhaemlcmkkjar
set_option linter.unusedVariables false
set_option linter.unusedSimpArgs false

variable {P : Program} {ops : Array Oper} {Q : Exit → Act → World → Prop}

/-- No operation is guarded. -/
def bareB (ops : Array Oper) : Bool := (List.range ops.size).all fun i => match ops[i]? with | some o => o.guard.isNone | none => true
theorem bare_at (h : bareB ops = true) {i : Nat} {o : Oper} (hi : ops[i]? = some o) : o.guard = none := by
  have hlt : i < ops.size := (Array.getElem?_eq_some_iff.1 hi).1
  have h1 := List.all_eq_true.1 h i (List.mem_range.2 hlt)
  simp only [hi] at h1
  simpa using h1
theorem valOf_put_otherN (h : plainN ops = true) {a : Act} {i j : Nat} {o : Oper} (hi : ops[i]? = some o) (hne : j ≠ i) (v : Value) : valOf ops (a.put o.dst v) j = valOf ops a j := by
  have e : slotOf ops i = o.dst := by simp [slotOf, hi]
  unfold valOf
  cases hj : slotOf ops j with
  | none => rfl
  | some d =>
    simp only
    cases hd : o.dst with
    | none => rfl
    | some dd =>
      have hdd : dd ≠ d := fun x => hne (slotN_once h hj (by rw [e, hd, x]))
      rw [eval_tmp, eval_tmp]
      simp [Act.put, Array.getD_eq_getD_getElem?, Array.getElem?_setIfInBounds, hdd]

end Go.Proofs.Ythkhaemlcmkkjar

namespace Go.Proofs.Ythkhaemlcmkkjar
set_option linter.unusedVariables false
set_option linter.unusedSimpArgs false

variable {P : Program} {ops : Array Oper} {Q : Exit → Act → World → Prop}

end Go.Proofs.Ythkhaemlcmkkjar

namespace Go.Proofs.Ythkhaemlcmkkjar
set_option linter.unusedVariables false
set_option linter.unusedSimpArgs false
open Go.RowKit Go.Deep

end Go.Proofs.Ythkhaemlcmkkjar
