/- Clauses with one more: the law's own ldMore. -/
import Derived.Test.YthkhaemlcmkkjarRegG
import Derived.Test.YthkhaemlcmkkjarGReg
import Derived.Test.YthkhaemlcmkkjarSuG
import Derived.Test.YthkhaemlcmkkjarGDcn
namespace Go.Proofs.Ythkhaemlcmkkjar
set_option linter.unusedVariables false
set_option linter.unusedSimpArgs false
open Go.RowKit Go.Deep

theorem Try.infoLM : (Try.prog.info? 26).map (fun i => (i.zero, i.size, i.bytes)) = some (some (.slice none 0 0), 1, 24) := by kernel_rfl
/-- What the operations leave, as long as none behind them takes it. -/
def MT (s0 b : Nat) (vars : Int) (A U : Value) (n : Nat) (xs : List Value) (L : Nat → Bool) (i : Nat) (v : Value) (x : World) : Prop := L i = true ∧ match i with
  | 0 => v = .pointer (some ⟨b, 0, none⟩)
  | 1 => v = .int .i64 vars
  | 2 => ∃ g, v = .slice (some ⟨g, 0, none⟩) 0 0 ∧ (L 5 = false → x.ownsRow s0 26 1 v 0 [])
  | 3 => v = .pointer (some ⟨b, 1, none⟩)
  | 4 => v = A
  | 5 => ∃ oa oc, v = .slice oa n oc ∧ (L 8 = false → x.ownsRow s0 26 1 v n xs)
  | 6 => v = U
  | 7 => ∃ g, v = .slice (some ⟨g, 0, none⟩) 1 1 ∧ (L 8 = false → x.heap[g]? = some (.cells #[U] 26 (0, 0)))
  | 8 => ∃ oa oc, v = .slice oa (n + 1) oc ∧ x.ownsRow s0 26 1 v (n + 1) (xs ++ [U])
  | 9 => ∃ oa oc, v = .agg #[.int .i64 vars, .slice oa (n + 1) oc] ∧ x.ownsRow s0 26 1 (.slice oa (n + 1) oc) (n + 1) (xs ++ [U])
  | _ => True
structure MC (s0 : Nat) (w0 : World) (vars : Int) (A : Value) (L : Nat → Bool) (x : World) : Prop where
  low : Below w0.heap.size w0 x
  box : x.heap[w0.heap.size]? = some (cnfCells vars A)
  res : x.heap[w0.heap.size + 1]? = some (cnfCells 0 (.slice none 0 0))
  size : s0 ≤ x.heap.size
  l8 : L 8 = true → L 5 = true
  l9 : L 9 = true → L 8 = true
theorem done_false {L : Nat → Bool} {k j : Nat} (h : doneOne L k j = false) : L j = false := by
  unfold doneOne at h
  simp only [Bool.or_eq_false_iff] at h
  exact h.2
theorem done_true {L : Nat → Bool} {k j : Nat} (h : L j = true) : doneOne L k j = true := by unfold doneOne; rw [h, Bool.or_true]
theorem done_self (L : Nat → Bool) (k : Nat) : doneOne L k k = true := by unfold doneOne; rw [beq_self_eq_true, Bool.true_or]
theorem done_ne {L : Nat → Bool} {k j : Nat} (h : j ≠ k) : doneOne L k j = L j := by unfold doneOne; rw [beq_eq_false_iff_ne.2 h, Bool.false_or]
section
variable {s0 b n : Nat} {vars : Int} {A U : Value} {xs : List Value} {L : Nat → Bool} {w0 x y : World}
theorem MT.below {i : Nat} {v : Value} (h : MT s0 b vars A U n xs L i v x) (hb : Below x.heap.size x y) (k : Nat) : MT s0 b vars A U n xs (doneOne L k) i v y := by
  obtain ⟨hl, h⟩ := h
  refine ⟨done_true hl, ?_⟩
  split at h
  case h_3 => obtain ⟨g, e, ho⟩ := h; exact ⟨g, e, fun hf => ownsRow_on (ho (done_false hf)) hb⟩
  case h_6 => obtain ⟨oa, oc, e, ho⟩ := h; exact ⟨oa, oc, e, fun hf => ownsRow_on (ho (done_false hf)) hb⟩
  case h_8 =>
    obtain ⟨g, e, ho⟩ := h
    refine ⟨g, e, fun hf => ?_⟩
    have h1 := ho (done_false hf)
    exact (hb.block g (Array.getElem?_eq_some_iff.1 h1).1).trans h1
  case h_9 => obtain ⟨oa, oc, e, ho⟩ := h; exact ⟨oa, oc, e, ownsRow_on ho hb⟩
  case h_10 => obtain ⟨oa, oc, e, ho⟩ := h; exact ⟨oa, oc, e, ownsRow_on ho hb⟩
  all_goals exact h
theorem MC.next (h : MC s0 w0 vars A L x) (hb : Below x.heap.size x y) (i : Nat) (h8 : i = 8 → L 5 = true) (h9 : i = 9 → L 8 = true) : MC s0 w0 vars A (doneOne L i) y := by
  have k' : ∀ {g : Nat} {O : Obj}, x.heap[g]? = some O → y.heap[g]? = some O := fun {g O} hg => (hb.block g (Array.getElem?_eq_some_iff.1 hg).1).trans hg
  refine ⟨h.low.trans (hb.mono h.low.size), k' h.box, k' h.res, Nat.le_trans h.size hb.size, fun hl => ?_, fun hl => ?_⟩
  · by_cases e : i = 8
    · exact done_true (h8 e)
    · rw [done_ne (Ne.symm e)] at hl; exact done_true (h.l8 hl)
  · by_cases e : i = 9
    · exact done_true (h9 e)
    · rw [done_ne (Ne.symm e)] at hl; exact done_true (h.l9 hl)
/-- A row grows: what is below it stays. -/
theorem MC.grown (h : MC s0 w0 vars A L x) {v : Value} {m : Nat} {vs : List Value} (ho : x.ownsRow s0 26 1 v m vs) (hg : x.grownBy y v.ownBlock) (h0 : w0.heap.size + 2 ≤ s0) (i : Nat) (h8 : i = 8 → L 5 = true) (h9 : i = 9 → L 8 = true) : MC s0 w0 vars A (doneOne L i) y := by
  have hlt := fun j hj => (World.ownsRow.lt ho j hj).1
  have k' : ∀ {g : Nat} {O : Obj}, g < s0 → x.heap[g]? = some O → y.heap[g]? = some O := fun {g O} hs he => (hg.block g (Array.getElem?_eq_some_iff.1 he).1 (fun e => by have := hlt g e.symm; omega)).trans he
  refine ⟨h.low.trans ⟨hg.os, hg.tape, hg.output, hg.size, fun g hgs => hg.block g (Nat.lt_of_lt_of_le hgs h.low.size) (fun e => by have := hlt g e.symm; omega)⟩, k' (by omega) h.box, k' (by omega) h.res, Nat.le_trans h.size hg.size, fun hl => ?_, fun hl => ?_⟩
  · by_cases e : i = 8
    · exact done_true (h8 e)
    · rw [done_ne (Ne.symm e)] at hl; exact done_true (h.l8 hl)
  · by_cases e : i = 9
    · exact done_true (h9 e)
    · rw [done_ne (Ne.symm e)] at hl; exact done_true (h.l9 hl)
end

/-- Rows of which each is as R says. -/
def RowsR (R : Option Addr → List Int → Prop) (w : World) (a : Option Addr) (cs : List (List Int)) : Prop := cs.length ≤ 1048576 ∧ (cs = [] ∨ ∃ b o, a = some ⟨b, o, none⟩ ∧ b < w.heap.size ∧ ∀ i, i < cs.length → ∃ a' c, w.cell? ⟨b, o + i, none⟩ = some (.slice a' (cs.getD i []).length c) ∧ R a' (cs.getD i []))
/-- A fresh list of rows, one more. -/
def MoreR (R : Option Addr → List Int → Prop) (B : Nat) (w' : World) (vars : Int) (cs : List (List Int)) (e : Ending) : Prop := ∃ g c', e = .returned (.agg #[.int .i64 vars, .slice (some ⟨g, 0, none⟩) cs.length c']) ∧ B ≤ g ∧ g < w'.heap.size ∧ ∀ i, i < cs.length → ∃ a' c, w'.cell? ⟨g, 0 + i, none⟩ = some (.slice a' (cs.getD i []).length c) ∧ R a' (cs.getD i [])

set_option maxRecDepth 100000 in
set_option maxHeartbeats 8000000 in
theorem ldMore_R (R : Option Addr → List Int → Prop) (vars : Int) (a : Option Addr) (cs : List (List Int)) (cap : Nat) (hac : a = none → cap = 0) (la : Option Addr) (c : List Int) (lc : Nat) (w : World) (h : RowsR R w a cs) (hc : R la c) (hl : cs.length ≤ 100000) :
    Calls Try.prog 15 #[.agg #[.int .i64 vars, .slice a cs.length cap], .slice la c.length lc] w fun e w' => MoreR R w.heap.size w' vars (cs ++ [c]) e ∧ Below w.heap.size w w' := by
  obtain ⟨i0, hi, hz0, hz1, hz2⟩ := info_parts Try.infoLM
  obtain ⟨xs, hxl, hxc, hxr⟩ : ∃ vs : List Value, vs.length = cs.length ∧ (∀ ad, a = some ad → ∀ j u, vs[j]? = some u → w.cell? (ad.add j) = some u) ∧ ∀ i, i < cs.length → ∃ a' c, vs.getD i undef = .slice a' (cs.getD i []).length c ∧ R a' (cs.getD i []) := by
    rcases h.2 with h0 | ⟨b, o, ha, hb, hc⟩
    · subst h0
      exact ⟨[], rfl, fun ad _ j u hj => (by simp at hj), fun i hi => (by simp at hi)⟩
    · refine ⟨(List.range cs.length).map fun i => (w.cell? ⟨b, o + i, none⟩).getD undef, by simp, fun ad e j u hj => ?_, fun i hi => ?_⟩
      · rw [ha] at e
        simp only [Option.some.injEq] at e
        subst e
        rw [List.getElem?_map] at hj
        obtain ⟨i, hi, e⟩ := Option.map_eq_some_iff.1 hj
        have hjl : j < cs.length := by have := (List.getElem?_eq_some_iff.1 hi).1; simpa using this
        have hij : i = j := by rw [List.getElem?_range hjl] at hi; simpa using hi.symm
        subst hij
        obtain ⟨a', c, h1, _⟩ := hc i hjl
        rw [show (⟨b, o, none⟩ : Addr).add i = ⟨b, o + i, none⟩ by simp [Addr.add], h1, ← e, h1]
        rfl
      · obtain ⟨a', c, h1, h2⟩ := hc i hi
        exact ⟨a', c, by simp [List.getD, hi, h1], h2⟩
  have hno : a = none → cs.length = 0 ∧ cap = 0 := fun e => by
    refine ⟨?_, hac e⟩
    rcases h.2 with h0 | ⟨b, o, ha, _⟩
    · rw [h0]; rfl
    · rw [e] at ha; cases ha
  have hab : ∀ ad, a = some ad → xs ≠ [] → ad.block < w.heap.size := fun ad e hne => by
    rcases h.2 with h0 | ⟨b, o, ha, hb, _⟩
    · rw [h0] at hxl; exact absurd (List.length_eq_zero_iff.1 hxl) hne
    · rw [e] at ha; simp only [Option.some.injEq] at ha; rw [ha]; exact hb
  have hone : ∀ u ∈ xs, u.oneCell' = true := fun u hu => by
    obtain ⟨i, hi', he⟩ := List.mem_iff_getElem.1 hu
    obtain ⟨a', c', e, _⟩ := hxr i (by rw [← hxl]; exact hi')
    rw [show xs.getD i undef = u by simp [List.getD, hi', he]] at e
    rw [e]
    rfl
  have HX := hide hxr
  have HC := hide hc
  have HN := hide hno
  have HXC := hide hxc
  have HONE := hide hone
  have HAB := hide hab
  clear h hc hxr hno hxc hone hab
  obtain ⟨w3, hw3⟩ : ∃ w3, w3 = (w.alloc (.cells #[.int .i64 vars, .slice a cs.length cap] 41)).alloc (.cells #[.int .i64 0, .slice none 0 0] 41) := ⟨_, rfl⟩
  have z3 : w3.heap.size = w.heap.size + 2 := by rw [hw3]; simp
  have s1 : (w.alloc (.cells #[.int .i64 vars, .slice a cs.length cap] 41)).heap.size = w.heap.size + 1 := by simp
  have hb3 : Below w.heap.size w w3 := by rw [hw3]; exact ((Below.refl _ _).alloc (Nat.le_refl _) _).alloc (by omega) _
  have hq1 : w3.heap[w.heap.size]? = some (cnfCells vars (.slice a cs.length cap)) := by rw [hw3, blk_alloc_lt _ _ _ (by omega)]; exact blk_alloc_new _ _
  have hq2 : w3.heap[w.heap.size + 1]? = some (cnfCells 0 (.slice none 0 0)) := by rw [hw3, ← s1]; exact blk_alloc_new _ _
  have HC0 : Hid (MC (w.heap.size + 2) w vars (.slice a cs.length cap) (fun _ => false) w3.drew) := ⟨hb3.drew, hq1, hq2, by show _ ≤ w3.heap.size; omega, fun h => (by cases h), fun h => (by cases h)⟩
  clear hb3 hq1 hq2 s1
  go_enter Try.func15, Try.ntmps15
  go_upto_region 1 with fail
  rw [← hw3]
  clear hw3
  refine wp_region_headL 10 (by kernel_rfl) (by kernel_rfl) (by kernel_rfl) (by kernel_rfl) (by kernel_rfl) (MT (w.heap.size + 2) w.heap.size vars (.slice a cs.length cap) (.slice la c.length lc) cs.length xs) (MC (w.heap.size + 2) w vars (.slice a cs.length cap)) (unhide HC0) ?_ ?_
  · intro i o him hi' ac x L hL ha hc hd
    match i with
    | 0 =>
      simp at hi'
      subst hi'
      have e2 : ac.tmps[2]? = some (.pointer (some ⟨w.heap.size, 0, none⟩)) := (ha.slot 2 (slots_no (by kernel_rfl))).trans rfl
      have HMC := hide hc
      have HK := hide (fun (j : Nat) (v : Value) (hT : MT (w.heap.size + 2) w.heap.size vars (.slice a cs.length cap) (.slice la c.length lc) cs.length xs L j v x) => hT.below (Below.refl _ _) 0)
      have HS := hide (done_self L 0)
      go_simp
      exact ⟨_, rfl, ⟨unhide HS, rfl⟩, (unhide HMC).next (Below.refl _ _) 0 (fun e => by omega) (fun e => by omega), fun j v hj hl hT => unhide HK j v hT⟩
    | 1 =>
      simp at hi'
      subst hi'
      have d0 := (hd ⟨0, .data⟩ (by simp) rfl).2
      rw [valOf_at (d := 5) rfl] at d0
      simp only [] at d0
      obtain ⟨x0, x1, xf⟩ := two hc.box
      have HMC := hide hc
      have HK := hide (fun (j : Nat) (v : Value) (hT : MT (w.heap.size + 2) w.heap.size vars (.slice a cs.length cap) (.slice la c.length lc) cs.length xs L j v x) => hT.below (Below.refl _ _) 1)
      have HS := hide (done_self L 1)
      go_simp
      exact ⟨_, rfl, ⟨unhide HS, rfl⟩, (unhide HMC).next (Below.refl _ _) 1 (fun e => by omega) (fun e => by omega), fun j v hj hl hT => unhide HK j v hT⟩
    | 2 =>
      simp at hi'
      subst hi'
      have bx := (Below.refl x.heap.size x).alloc (Nat.le_refl _) (.cells #[] 26)
      have hown : (x.alloc (.cells #[] 26)).ownsRow (w.heap.size + 2) 26 1 (.slice (some ⟨x.heap.size, 0, none⟩) 0 0) 0 [] := by
        have := World.ownsRow_lit (base := w.heap.size + 2) (e := 26) (size := 1) x #[] 0 hc.size (Nat.zero_le _) rfl
        simpa using this
      have HOW := hide hown
      have HMC := hide (hc.next bx 2 (fun e => by omega) (fun e => by omega))
      have HK := hide (fun (j : Nat) (v : Value) (hT : MT (w.heap.size + 2) w.heap.size vars (.slice a cs.length cap) (.slice la c.length lc) cs.length xs L j v x) => hT.below bx 2)
      have HS := hide (done_self L 2)
      clear bx hown hc
      go_simp
      exact ⟨_, rfl, ⟨unhide HS, _, rfl, fun _ => unhide HOW⟩, unhide HMC, fun j v hj hl hT => unhide HK j v hT⟩
    | 3 =>
      simp at hi'
      subst hi'
      have e2 : ac.tmps[2]? = some (.pointer (some ⟨w.heap.size, 0, none⟩)) := (ha.slot 2 (slots_no (by kernel_rfl))).trans rfl
      have HMC := hide hc
      have HK := hide (fun (j : Nat) (v : Value) (hT : MT (w.heap.size + 2) w.heap.size vars (.slice a cs.length cap) (.slice la c.length lc) cs.length xs L j v x) => hT.below (Below.refl _ _) 3)
      have HS := hide (done_self L 3)
      go_simp
      exact ⟨_, rfl, ⟨unhide HS, rfl⟩, (unhide HMC).next (Below.refl _ _) 3 (fun e => by omega) (fun e => by omega), fun j v hj hl hT => unhide HK j v hT⟩
    | 4 =>
      simp at hi'
      subst hi'
      have d0 := (hd ⟨3, .data⟩ (by simp) rfl).2
      rw [valOf_at (d := 8) rfl] at d0
      simp only [] at d0
      obtain ⟨x0, x1, xf⟩ := two hc.box
      have HMC := hide hc
      have HK := hide (fun (j : Nat) (v : Value) (hT : MT (w.heap.size + 2) w.heap.size vars (.slice a cs.length cap) (.slice la c.length lc) cs.length xs L j v x) => hT.below (Below.refl _ _) 4)
      have HS := hide (done_self L 4)
      go_simp
      exact ⟨_, rfl, ⟨unhide HS, rfl⟩, (unhide HMC).next (Below.refl _ _) 4 (fun e => by omega) (fun e => by omega), fun j v hj hl hT => unhide HK j v hT⟩
    | 5 =>
      simp at hi'
      subst hi'
      obtain ⟨l2, g, h7, ho2⟩ := hd ⟨2, .data⟩ (by simp) rfl
      have hown := ho2 hL
      rw [valOf_at (d := 7) rfl] at h7 hown
      have h9 := (hd ⟨4, .data⟩ (by simp) rfl).2
      rw [valOf_at (d := 9) rfl] at h9
      simp only [] at h9
      rw [h7] at hown
      have hL8 : L 8 = false := by
        cases e : L 8 with
        | false => rfl
        | true => rw [hc.l8 e] at hL; cases hL
      have hL9 : L 9 = false := by
        cases e : L 9 with
        | false => rfl
        | true => rw [hc.l9 e] at hL8; cases hL8
      have hs1 : ac.eval (.tmp 7) = .slice (some ⟨g, 0, none⟩) 0 0 := by simp only [Act.eval, Array.getD_eq_getD_getElem?]; exact h7
      have hs2 : ac.eval (.tmp 9) = .slice a cs.length cap := by simp only [Act.eval, Array.getD_eq_getD_getElem?]; exact h9
      obtain ⟨v', y, hr, hown', hgrow⟩ : ∃ v' y, (Builtin.append_ #[39, 39] 39 #[.slice (some ⟨g, 0, none⟩) 0 0, .slice a cs.length cap]).run Try.prog x = .ok v' y ∧ y.ownsRow (w.heap.size + 2) 26 1 v' cs.length xs ∧ x.grownBy y (some g) := by
        cases ha' : a with
        | none =>
          obtain ⟨hn0, hc0⟩ := unhide HN ha'
          have hx0 : xs = [] := List.length_eq_zero_iff.1 (by rw [hxl, hn0])
          rw [hn0, hc0, hx0]
          exact ⟨_, x, run_append_owned_none x (w.heap.size + 2) 39 39 26 i0 1 Try.underlying39 hi _ 0 [] hown, hown, ⟨rfl, rfl, rfl, Nat.le_refl _, fun _ _ _ => rfl⟩⟩
        | some ad =>
          obtain ⟨v', y, hr, h2, h3, _, _⟩ := run_append_own_at (P := Try.prog) (w := x) (w.heap.size + 2) 39 39 26 i0 (.slice none 0 0) 1 24 Try.underlying39 hi hz0 hz1 hz2 rfl (by decide) _ 0 [] hown ad cs.length cap xs (by rw [hxl, Nat.mul_one]) (fun j u hju => by
            have hne : xs ≠ [] := fun e => by rw [e] at hju; simp at hju
            have hblk := unhide HAB ad ha' hne
            exact (hc.low.cell (p := ad.add j) (by unfold Addr.add; split <;> exact hblk)).trans (unhide HXC ad ha' j u hju)) (unhide HONE) (by unfold maxLen; omega) (by omega) hc.size
          exact ⟨v', y, hr, by simpa using h2, h3⟩
      obtain ⟨a', c', hv'⟩ : ∃ a' c', v' = .slice a' cs.length c' := by
        rcases hown'.2 with ⟨hv, h0⟩ | ⟨g, cp, cur, hv, _⟩
        · exact ⟨none, 0, by rw [hv, h0]⟩
        · exact ⟨_, _, hv⟩
      refine wp_append_runV (.tmp 7) (.tmp 9) 39 rfl _ _ v' y hs1 hs2 hr ⟨v', rfl, ⟨done_self L 5, a', c', hv', fun _ => hown'⟩, hc.grown hown hgrow (by omega) 5 (fun e => by omega) (fun e => by omega), fun j v hj hlj hT => ?_⟩
      obtain ⟨hlt, hT⟩ := hT
      refine ⟨done_true hlt, ?_⟩
      match j, hT with
      | 0, hT => exact hT
      | 1, hT => exact hT
      | 2, hT => obtain ⟨g', e, _⟩ := hT; exact ⟨g', e, fun hf => (by rw [done_self] at hf; cases hf)⟩
      | 3, hT => exact hT
      | 4, hT => exact hT
      | 5, hT => rw [hL] at hlt; cases hlt
      | 6, hT => exact hT
      | 7, hT =>
        obtain ⟨g', e, ho⟩ := hT
        refine ⟨g', e, fun hf => ?_⟩
        have h1 := ho hL8
        refine (hgrow.block g' (Array.getElem?_eq_some_iff.1 h1).1 (fun e2 => ?_)).trans h1
        simp only [Option.some.injEq] at e2
        subst e2
        rcases hown.2 with ⟨hv, _⟩ | ⟨g2, cp, cur, hv, _, hcc, _, _, hsz, _⟩
        · cases hv
        · simp only [Value.slice.injEq, Option.some.injEq, Addr.mk.injEq] at hv
          obtain ⟨⟨rfl, _⟩, _, rfl⟩ := hv
          rw [h1] at hcc
          simp only [Option.some.injEq, Obj.cells.injEq] at hcc
          rw [← hcc.1] at hsz
          simp at hsz
      | 8, hT => rw [hL8] at hlt; cases hlt
      | 9, hT => rw [hL9] at hlt; cases hlt
      | j + 10, hT => omega
    | 6 =>
      simp at hi'
      subst hi'
      have e1 : ac.tmps[1]? = some (.slice la c.length lc) := (ha.slot 1 (slots_no (by kernel_rfl))).trans rfl
      have HMC := hide hc
      have HK := hide (fun (j : Nat) (v : Value) (hT : MT (w.heap.size + 2) w.heap.size vars (.slice a cs.length cap) (.slice la c.length lc) cs.length xs L j v x) => hT.below (Below.refl _ _) 6)
      have HS := hide (done_self L 6)
      go_simp
      exact ⟨_, rfl, ⟨unhide HS, rfl⟩, (unhide HMC).next (Below.refl _ _) 6 (fun e => by omega) (fun e => by omega), fun j v hj hl hT => unhide HK j v hT⟩
    | 7 =>
      simp at hi'
      subst hi'
      have d6 := (hd ⟨6, .data⟩ (by simp) rfl).2
      rw [valOf_at (d := 11) rfl] at d6
      simp only [] at d6
      have bx := (Below.refl x.heap.size x).alloc (Nat.le_refl _) (.cells #[.slice la c.length lc] 26)
      have hbn := blk_alloc_new x (.cells #[.slice la c.length lc] 26)
      have HOW := hide hbn
      have HMC := hide (hc.next bx 7 (fun e => by omega) (fun e => by omega))
      have HK := hide (fun (j : Nat) (v : Value) (hT : MT (w.heap.size + 2) w.heap.size vars (.slice a cs.length cap) (.slice la c.length lc) cs.length xs L j v x) => hT.below bx 7)
      have HS := hide (done_self L 7)
      clear bx hbn hc
      go_simp
      exact ⟨_, rfl, ⟨unhide HS, _, rfl, fun _ => unhide HOW⟩, unhide HMC, fun j v hj hl hT => unhide HK j v hT⟩
    | 8 =>
      simp at hi'
      subst hi'
      obtain ⟨l5, oa, oc, h10, ho5⟩ := hd ⟨5, .data⟩ (by simp) rfl
      have hown := ho5 hL
      rw [valOf_at (d := 10) rfl] at h10 hown
      obtain ⟨_, g, h12, ho7⟩ := hd ⟨7, .data⟩ (by simp) rfl
      have hx := ho7 hL
      rw [valOf_at (d := 12) rfl] at h12
      rw [h10] at hown
      have hL9 : L 9 = false := by
        cases e : L 9 with
        | false => rfl
        | true => rw [hc.l9 e] at hL; cases hL
      have hs1 : ac.eval (.tmp 10) = .slice oa cs.length oc := by simp only [Act.eval, Array.getD_eq_getD_getElem?]; exact h10
      have hs2 : ac.eval (.tmp 12) = .slice (some ⟨g, 0, none⟩) 1 1 := by simp only [Act.eval, Array.getD_eq_getD_getElem?]; exact h12
      obtain ⟨v', y, hr, hown', hgrow, _, _⟩ := run_append_own_at (P := Try.prog) (w := x) (w.heap.size + 2) 39 39 26 i0 (.slice none 0 0) 1 24 Try.underlying39 hi hz0 hz1 hz2 rfl (by decide) _ cs.length xs hown ⟨g, 0, none⟩ 1 1 [.slice la c.length lc] rfl (fun j u hj => by
        match j, hj with
        | 0, hj => simp at hj; subst hj; simp [Addr.add, World.cell?, hx]) (fun u hu => by simp at hu; subst hu; rfl) (by unfold maxLen; omega) (by omega) hc.size
      obtain ⟨a', c', hv'⟩ : ∃ a' c', v' = .slice a' (cs.length + 1) c' := by
        rcases hown'.2 with ⟨hv, h0⟩ | ⟨g, cp, cur, hv, _⟩
        · omega
        · exact ⟨_, _, hv⟩
      refine wp_append_runV (.tmp 10) (.tmp 12) 39 rfl _ _ v' y hs1 hs2 hr ⟨v', rfl, ⟨done_self L 8, a', c', hv', hown'⟩, hc.grown hown hgrow (by omega) 8 (fun _ => l5) (fun e => by omega), fun j v hj hlj hT => ?_⟩
      obtain ⟨hlt, hT⟩ := hT
      refine ⟨done_true hlt, ?_⟩
      match j, hT with
      | 0, hT => exact hT
      | 1, hT => exact hT
      | 2, hT => obtain ⟨g', e, _⟩ := hT; exact ⟨g', e, fun hf => (by rw [done_true l5] at hf; cases hf)⟩
      | 3, hT => exact hT
      | 4, hT => exact hT
      | 5, hT => obtain ⟨oa, oc, e, _⟩ := hT; exact ⟨oa, oc, e, fun hf => (by rw [done_self] at hf; cases hf)⟩
      | 6, hT => exact hT
      | 7, hT => obtain ⟨g', e, _⟩ := hT; exact ⟨g', e, fun hf => (by rw [done_self] at hf; cases hf)⟩
      | 8, hT => rw [hL] at hlt; cases hlt
      | 9, hT => rw [hL9] at hlt; cases hlt
      | j + 10, hT => omega
    | 9 =>
      simp at hi'
      subst hi'
      have d1 := (hd ⟨1, .data⟩ (by simp) rfl).2
      rw [valOf_at (d := 6) rfl] at d1
      simp only [] at d1
      obtain ⟨l8, oa, oc, h13, hown⟩ := hd ⟨8, .data⟩ (by simp) rfl
      rw [valOf_at (d := 13) rfl] at h13 hown
      rw [h13] at hown
      have HOW := hide hown
      have HMC := hide (hc.next (Below.refl _ _) 9 (fun e => by omega) (fun _ => l8))
      have HK := hide (fun (j : Nat) (v : Value) (hT : MT (w.heap.size + 2) w.heap.size vars (.slice a cs.length cap) (.slice la c.length lc) cs.length xs L j v x) => hT.below (Below.refl _ _) 9)
      have HS := hide (done_self L 9)
      clear hown hc
      go_simp
      exact ⟨_, rfl, ⟨unhide HS, _, _, rfl, unhide HOW⟩, unhide HMC, fun j v hj hl hT => unhide HK j v hT⟩
    | i + 10 => omega
  · intro ac x ha hcL
    obtain ⟨L, hL, ht, hc⟩ := hcL
    obtain ⟨_, oa, oc, h14, hown⟩ := ht 9 (by omega)
    rw [valOf_at (d := 14) rfl] at h14
    have hl' := ha.list
    simp [slotOf, List.range_succ] at hl'
    rw [hl']
    clear hl' ha ht
    obtain ⟨r0, r1, rf⟩ := two hc.res
    have rf0 := rf 0
    have rf1 := rf 1
    rw [h14]
    obtain ⟨g, cp, cur, hv, hg, hcc, hcap, hcm, hsz, hx⟩ : ∃ g cp cur, Value.slice oa (cs.length + 1) oc = .slice (some ⟨g, 0, none⟩) (cs.length + 1) cp ∧ w.heap.size + 2 ≤ g ∧ x.heap[g]? = some (.cells cur 26 (0, 0)) ∧ cs.length + 1 ≤ cp ∧ cp ≤ maxLen ∧ cur.size = cp * 1 ∧ cur.toList.take ((cs.length + 1) * 1) = xs ++ [.slice la c.length lc] := by
      rcases hown.2 with ⟨_, h0⟩ | h
      · omega
      · exact h
    simp only [Value.slice.injEq, true_and] at hv
    obtain ⟨rfl, rfl⟩ := hv
    have h1 := blk_set hc.res 0 (.int .i64 vars)
    have hy : ((x.setCell ⟨w.heap.size + 1, 0, none⟩ (.int .i64 vars)).setCell ⟨w.heap.size + 1, 1, none⟩ (.slice (some ⟨g, 0, none⟩) (cs.length + 1) oc)).heap[w.heap.size + 1]? = some (cnfCells vars (.slice (some ⟨g, 0, none⟩) (cs.length + 1) oc)) := by rw [blk_set h1 1 _]; rfl
    obtain ⟨q0, q1, _⟩ := two hy
    have hB : Below w.heap.size w ((x.setCell ⟨w.heap.size + 1, 0, none⟩ (.int .i64 vars)).setCell ⟨w.heap.size + 1, 1, none⟩ (.slice (some ⟨g, 0, none⟩) (cs.length + 1) oc)) := Below.setCell (Below.setCell hc.low (by show w.heap.size ≤ w.heap.size + 1; omega) _) (by show w.heap.size ≤ w.heap.size + 1; omega) _
    have hC : g < ((x.setCell ⟨w.heap.size + 1, 0, none⟩ (.int .i64 vars)).setCell ⟨w.heap.size + 1, 1, none⟩ (.slice (some ⟨g, 0, none⟩) (cs.length + 1) oc)).heap.size ∧ ∀ i, i < (cs ++ [c]).length → ∃ a' c1, ((x.setCell ⟨w.heap.size + 1, 0, none⟩ (.int .i64 vars)).setCell ⟨w.heap.size + 1, 1, none⟩ (.slice (some ⟨g, 0, none⟩) (cs.length + 1) oc)).cell? ⟨g, 0 + i, none⟩ = some (.slice a' ((cs ++ [c]).getD i []).length c1) ∧ R a' ((cs ++ [c]).getD i []) := by
      refine ⟨?_, fun i hi => ?_⟩
      · have := (Array.getElem?_eq_some_iff.1 hcc).1
        rw [nblk_setCell, nblk_setCell]; exact this
      · have hi' : i < cs.length + 1 := by simpa using hi
        have ei : cur.toList[i]? = (xs ++ [.slice la c.length lc])[i]? := by
          rw [← hx, List.getElem?_take, if_pos (by omega)]
        have hcell : ((x.setCell ⟨w.heap.size + 1, 0, none⟩ (.int .i64 vars)).setCell ⟨w.heap.size + 1, 1, none⟩ (.slice (some ⟨g, 0, none⟩) (cs.length + 1) oc)).cell? ⟨g, 0 + i, none⟩ = (xs ++ [.slice la c.length lc])[i]? := by
          rw [World.cell?_of_block (w := x) (a := ⟨g, 0 + i, none⟩) ((blk_setCell_other _ _ _ _ (by show g ≠ w.heap.size + 1; omega)).trans (blk_setCell_other _ _ _ _ (by show g ≠ w.heap.size + 1; omega))), ← ei]
          simp only [World.cell?, hcc, Nat.zero_add]
          simp
        rw [hcell]
        by_cases hlt : i < cs.length
        · obtain ⟨a1, c1, e1, e2⟩ := unhide HX i hlt
          refine ⟨a1, c1, ?_, ?_⟩
          · rw [List.getElem?_append_left (by omega), show (cs ++ [c]).getD i [] = cs.getD i [] by simp [List.getD, List.getElem?_append, hlt], ← e1]
            have : i < xs.length := by omega
            simp [List.getD, this]
          · rw [show (cs ++ [c]).getD i [] = cs.getD i [] by simp [List.getD, List.getElem?_append, hlt]]
            exact e2
        · have hie : i = cs.length := by omega
          subst hie
          refine ⟨la, lc, ?_, ?_⟩
          · rw [List.getElem?_append_right (by omega), hxl]
            simp [List.getD]
          · rw [show (cs ++ [c]).getD cs.length [] = c by simp [List.getD]]
            exact unhide HC
    have HF := hide (And.intro hC hB)
    clear hc hC hB hy h1 rf hcc hx hown
    go_wp2_with fail
    obtain ⟨f1, f2⟩ := unhide HF
    exact bodyPost_ret (v := .agg #[.int .i64 vars, .slice (some ⟨g, 0, none⟩) (cs.length + 1) oc]) (by simp [results, Try.results15, go_sem, q0, q1]) rfl ⟨⟨g, oc, by rw [List.length_append]; rfl, by omega, f1.1, f1.2⟩, f2⟩
theorem ldMore_any (vars : Int) (a : Option Addr) (cs : List (List Int)) (cap : Nat) (hac : a = none → cap = 0) (la : Option Addr) (c : List Int) (lc : Nat) (w : World) (h : ClsAt w a cs) (hc : SetAt w la c) (hl : cs.length ≤ 100000) :
    Calls Try.prog 15 #[.agg #[.int .i64 vars, .slice a cs.length cap], .slice la c.length lc] w fun e w' => (∃ a' c', e = .returned (.agg #[.int .i64 vars, .slice (some a') (cs.length + 1) c']) ∧ ClsAt w' (some a') (cs ++ [c])) ∧ Below w.heap.size w w' := by
  refine (ldMore_R (SetAt w) vars a cs cap hac la c lc w h hc hl).mono ?_
  rintro e w' ⟨⟨g, c', rfl, h1, h2, h3⟩, hb⟩
  rw [show (cs ++ [c]).length = cs.length + 1 by simp]
  refine ⟨⟨_, _, rfl, by simp; omega, .inr ⟨g, 0, rfl, h2, fun i hi => ?_⟩⟩, hb⟩
  obtain ⟨a', c1, h4, h5⟩ := h3 i hi
  exact ⟨a', c1, h4, h5.on hb⟩
end Go.Proofs.Ythkhaemlcmkkjar
