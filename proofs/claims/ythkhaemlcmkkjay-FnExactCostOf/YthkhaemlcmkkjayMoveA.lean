/- The program's moveOf: a step as a move, found among all. -/
import Derived.Test.YthkhaemlcmkkjayGMv
import Derived.Test.YthkhaemlcmkkjayGMw
import Derived.Deep.QuietTactic
namespace Go.Proofs.Ythkhaemlcmkkjay
set_option linter.unusedVariables false
set_option linter.unusedSimpArgs false
open Go.RowKit Go.Deep

set_option maxRecDepth 100000 in
set_option maxHeartbeats 2000000 in
theorem moveLit_any (m : MvD) (s : StepD) (sb : Nat) (w : World) (hsl : sb < w.heap.size) (s0 : w.cell? ⟨sb, 0, none⟩ = some (.int .i64 s.kind)) (s1 : w.cell? ⟨sb, 1, none⟩ = some (.int .i64 s.inn)) (s2 : w.cell? ⟨sb, 2, none⟩ = some (.int .i64 s.out)) :
    Calls Try.prog 97 #[m.val, .pointer (some ⟨sb, 0, none⟩)] w fun e w' => e = .returned (.bool (eqS m.step s)) ∧ Below w.heap.size w w' := by
  have HS := hide (fun x => stepOf_any m x)
  have hv : ∃ T X, m.val = .iface T X := by cases m <;> exact ⟨_, _, rfl⟩
  obtain ⟨T, X, hv⟩ := hv
  rw [hv] at HS ⊢
  have HE := hide (show eqS m.step s = (m.step.kind == s.kind && m.step.inn == s.inn && m.step.out == s.out) from rfl)
  generalize eqS m.step s = R at HE
  unfold stepV at HS
  generalize m.step = t at HS HE
  obtain ⟨k1, i1, o1⟩ := t
  obtain ⟨k2, i2, o2⟩ := s
  simp only at s0 s1 s2 HE HS
  clear hv
  go_enter Try.func97, Try.ntmps97
  go_upto_region 1 with fail
  refine wp_region_mix (k := 100) 3 [] [.iface T X, .agg #[.int .i64 k1, .int .i64 i1, .int .i64 o1], .agg #[.int .i64 k2, .int .i64 i2, .int .i64 o2]] (CZ w) (by kernel_rfl) (by kernel_rfl) (by kernel_rfl) (by kernel_rfl) (by kernel_rfl) (by kernel_rfl) ⟨(Below.refl _ _).drew⟩ ?_ ?_ ?_
  · intro full hfull i oo hi hns ho x fl us hC hb
    simp [putAll, slotOf, Act.put] at hfull
    subst hfull
    have bx := hC.below
    rw [← bx.cell (p := ⟨sb, _, none⟩) hsl] at s0 s1 s2
    have hC0 := hC.on (b' := fl) (Below.refl _ _)
    match i with
    | 0 => simp at ho; subst ho; simp [gwp, Region.wanted, yielded]; go_simp; first | done | exact hC0 | exact ⟨rfl, hC0⟩ | (simp; exact hC0)
    | 1 =>
      simp at ho; subst ho; simp [gwp, Region.wanted, yielded]; go_simp
      refine (unhide HS x).mono ?_
      rintro e w' ⟨rfl, hb2⟩
      go_simp
      first | done | exact hC.on hb2 | exact ⟨rfl, hC.on hb2⟩ | (simp; exact hC.on hb2)
    | 2 => simp at ho; subst ho; simp [gwp, Region.wanted, yielded]; go_simp; first | done | exact hC0 | exact ⟨rfl, hC0⟩ | (simp; exact hC0)
    | i + 3 => omega
  · intro full hfull us j hj
    simp at hj
  · intro full hfull us wz hus hC
    simp [putAll, slotOf, Act.put] at hfull
    subst hfull
    match us, hus with
    | [], _ =>
    have HBz := hide hC.below
    clear hC s0 s1 s2 HS
    simp [putP]
    by_cases hk : k1 = k2
    · subst hk
      by_cases hi : i1 = i2
      · subst hi
        by_cases ho : o1 = o2
        · subst ho
          have HR := hide (show R = true from (unhide HE).trans (by simp))
          go_wp2_with fail
          go_ret
          exact ⟨ret_bool (unhide HR).symm, unhide HBz⟩
        · have HR := hide (show R = false from (unhide HE).trans (by simp [ho]))
          go_wp2_with fail
          go_ret
          exact ⟨ret_bool (unhide HR).symm, unhide HBz⟩
      · have HR := hide (show R = false from (unhide HE).trans (by simp [hi]))
        go_wp2_with fail
        go_ret
        exact ⟨ret_bool (unhide HR).symm, unhide HBz⟩
    · have HR := hide (show R = false from (unhide HE).trans (by simp [hk]))
      go_wp2_with fail
      go_ret
      exact ⟨ret_bool (unhide HR).symm, unhide HBz⟩
theorem find_at {ms : List MvD} {s : StepD} {k : Nat} (hk : k ≤ ms.length) (h1 : ∀ i, i < k → eqS (ms.getD i (.put 0)).step s = false) (h2 : k < ms.length → eqS (ms.getD k (.put 0)).step s = true) : ms.find? (fun m => eqS m.step s) = if k < ms.length then some (ms.getD k (.put 0)) else none := by
  by_cases hlt : k < ms.length
  · rw [if_pos hlt, List.find?_eq_some_iff_getElem]
    refine ⟨h2 hlt, k, hlt, by simp [List.getD, hlt], fun j hj => ?_⟩
    have := h1 j hj
    simp [List.getD, show j < ms.length by omega] at this
    simpa using this
  · rw [if_neg hlt, List.find?_eq_none]
    intro m hm
    obtain ⟨i, hi, rfl⟩ := List.getElem_of_mem hm
    have := h1 i (by omega)
    simp [List.getD, hi] at this
    simpa using this

set_option maxRecDepth 100000 in
set_option maxHeartbeats 2000000 in
theorem searchMv_any (s : StepD) (sb : Nat) (qa : Option Addr) (ms : List MvD) (qc B : Nat) (w : World) (hl : ms.length ≤ 1000) (hsl : sb < w.heap.size) (s0 : w.cell? ⟨sb, 0, none⟩ = some (.int .i64 s.kind)) (s1 : w.cell? ⟨sb, 1, none⟩ = some (.int .i64 s.inn)) (s2 : w.cell? ⟨sb, 2, none⟩ = some (.int .i64 s.out)) (hrow : w.ownsRow B 113 1 (.slice qa ms.length qc) ms.length (mvVs ms)) :
    Calls Try.prog 96 #[.slice qa ms.length qc, .int .i64 0, .func (.func 97) #[] #[.pointer (some ⟨sb, 0, none⟩)]] w
      fun e w' => (∃ k : Nat, e = .returned (.int .i64 k) ∧ k ≤ ms.length ∧ (∀ i, i < k → eqS (ms.getD i (.put 0)).step s = false) ∧ (k < ms.length → eqS (ms.getD k (.put 0)).step s = true)) ∧ Below w.heap.size w w' := by
  have HROW := hide hrow
  have HS := hide (And.intro s0 (And.intro s1 s2))
  clear hrow s0 s1 s2
  go_enter Try.func96, Try.ntmps96
  go_wp2_with fail
  go_loopw [1] (fun i wr => ∃ k : Nat, k ≤ ms.length ∧ i = .int .i64 k ∧ Hid (∀ i, i < k → eqS (ms.getD i (.put 0)).step s = false) ∧ Hid (Below w.heap.size w wr)) (fun i _ => ms.length - (intOf i).toNat)
  case atStart => exact ⟨0, Nat.zero_le _, rfl, fun i hi => by omega, Below.refl _ _⟩
  case round =>
    rename World => wo
    obtain ⟨k, hk, rfl, HN, HB⟩ := hrel
    by_cases hlt : k < ms.length
    · have j1 : (k : Int) < (ms.length : Int) := by omega
      have j0 : (0 : Int) ≤ (k : Int) := by omega
      obtain ⟨g, gc, hgv, hgl, pc0⟩ := mv_cell (ownsRow_on (unhide HROW) (unhide HB)) hlt
      simp at hgv
      obtain ⟨rfl, rfl⟩ := hgv
      obtain ⟨s0, s1, s2⟩ := unhide HS
      rw [← (unhide HB).cell (p := ⟨sb, _, none⟩) hsl] at s0 s1 s2
      have HL := hide (moveLit_any (ms.getD k (.put 0)) s sb wo (Nat.lt_of_lt_of_le hsl (unhide HB).size) s0 s1 s2)
      have HNX : Hid (eqS (ms.getD k (.put 0)).step s = false → ∀ i, i < k + 1 → eqS (ms.getD i (.put 0)).step s = false) := fun h i hi => by
        rcases Nat.lt_or_ge i k with h1 | h1
        · exact unhide HN i h1
        · rw [show i = k by omega]; exact h
      generalize hR : eqS (ms.getD k (.put 0)).step s = R at HL HNX
      have HREQ := hide hR
      clear hR
      have hmv : ∃ T X, (ms.getD k (.put 0)).val = .iface T X := by cases ms.getD k (.put 0) <;> exact ⟨_, _, rfl⟩
      obtain ⟨T, X, hmv⟩ := hmv
      rw [hmv] at pc0 HL
      clear hmv s0 s1 s2
      go_wp2_with fail
      refine (unhide HL).mono ?_
      rintro e w1 ⟨rfl, b1⟩
      have HB1 := hide ((unhide HB).trans (b1.mono (unhide HB).size))
      clear b1 HL pc0 HB
      cases R with
      | false =>
        have HN2 := hide (unhide HNX rfl)
        clear HNX HREQ
        go_wp2_with fail
        go_roundw
        case rel => exact ⟨k + 1, by omega, by go_num, HN2, HB1⟩
        case measure => simp [intOf]; omega
      | true =>
        go_wp2_with fail
        go_ret
        exact ⟨⟨k, rfl, hk, unhide HN, fun _ => unhide HREQ⟩, unhide HB1⟩
    · have j1 : ¬ (k : Int) < (ms.length : Int) := by omega
      go_wp2_with fail
      go_ret
      exact ⟨⟨k, rfl, hk, unhide HN, fun h => absurd h hlt⟩, unhide HB⟩

/-- The place of a step among moves. -/
def PlaceOut (s : StepD) (ms : List MvD) (e : Ending) : Prop := ∃ k : Nat, e = .returned (.int .i64 k) ∧ k ≤ ms.length ∧ (∀ i, i < k → eqS (ms.getD i (.put 0)).step s = false) ∧ (k < ms.length → eqS (ms.getD k (.put 0)).step s = true)

set_option maxRecDepth 100000 in
set_option maxHeartbeats 4000000 in
theorem placeOf_any (s : StepD) (qa : Option Addr) (ms : List MvD) (qc B : Nat) (w : World) (hl : ms.length ≤ 1000) (hrow : w.ownsRow B 113 1 (.slice qa ms.length qc) ms.length (mvVs ms)) :
    Calls Try.prog 88 #[.agg #[.int .i64 s.kind, .int .i64 s.inn, .int .i64 s.out], .slice qa ms.length qc] w
      fun e w' => PlaceOut s ms e ∧ Below w.heap.size w w' := by
  have b0 := (Below.refl w.heap.size w).alloc (Nat.le_refl _) (.cells #[.int .i64 s.kind, .int .i64 s.inn, .int .i64 s.out] 44)
  have HSE := hide (searchMv_any s w.heap.size qa ms qc B (w.alloc (.cells #[.int .i64 s.kind, .int .i64 s.inn, .int .i64 s.out] 44)) hl (by simp) (by simp) (by simp) (by simp) (ownsRow_on hrow b0))
  have HB0 := hide b0
  clear hrow b0
  go_enter Try.func88, Try.ntmps88
  go_wp2_with fail
  refine (unhide HSE).mono ?_
  rintro e w1 ⟨⟨k, rfl, hk, hk1, hk2⟩, b1⟩
  have HB1 := hide ((unhide HB0).trans (b1.mono (by simp)))
  have HK := hide (And.intro hk (And.intro hk1 hk2))
  clear HSE b1 hk hk1 hk2
  go_wp2_with fail
  go_ret
  exact ⟨⟨k, rfl, (unhide HK).1, (unhide HK).2.1, (unhide HK).2.2⟩, unhide HB1⟩

/-- What moveOf answers. -/
def moveV (o : Option MvD) : Value := match o with
  | none => .tuple #[.nilIface, .bool false]
  | some m => .tuple #[m.val, .bool true]

set_option maxRecDepth 100000 in
set_option maxHeartbeats 4000000 in
theorem moveOf_any (l : List PackD) (room : Int) (V : Value) (s : StepD) (hl8 : l.length ≤ 8) (w : World) (h : Stock w V l room) :
    Calls Try.prog 65 #[V, .agg #[.int .i64 s.kind, .int .i64 s.inn, .int .i64 s.out]] w fun e w' => e = .returned (moveV ((movesL l).find? (fun m => eqS m.step s))) ∧ Below w.heap.size w w' := by
  have HST := hide h
  obtain ⟨a, cap, bm, v, rfl, hP, ⟨⟨xa, xc, rfl⟩, hA⟩⟩ := h
  clear hP hA
  generalize hR : moveV ((movesL l).find? (fun m => eqS m.step s)) = R
  have HR0 := hide hR
  clear hR
  go_enter Try.func65, Try.ntmps65
  go_upto_region 1 with fail
  obtain ⟨w0, hw0⟩ : ∃ w0, w0 = (w.alloc (.cells #[.slice a l.length cap, .int .i64 room, .map (some bm), .slice xa l.length xc] 68)).alloc (.cells #[.int .i64 s.kind, .int .i64 s.inn, .int .i64 s.out] 44) := ⟨_, rfl⟩
  rw [← hw0]
  have b0 : Below w.heap.size w w0 := by rw [hw0]; exact ((Below.refl _ _).alloc (Nat.le_refl _) _).alloc (by simp) _
  have z0 : w0.heap.size = w.heap.size + 1 + 1 := by rw [hw0]; simp
  have x0 : w0.cell? ⟨w.heap.size, 0, none⟩ = some (.slice a l.length cap) := by rw [hw0]; simp
  have x1 : w0.cell? ⟨w.heap.size, 1, none⟩ = some (.int .i64 room) := by rw [hw0]; simp
  have x2 : w0.cell? ⟨w.heap.size, 2, none⟩ = some (.map (some bm)) := by rw [hw0]; simp
  have x3 : w0.cell? ⟨w.heap.size, 3, none⟩ = some (.slice xa l.length xc) := by rw [hw0]; simp
  have s0 : w0.cell? ⟨w.heap.size + 1, 0, none⟩ = some (.int .i64 s.kind) := by rw [hw0]; simp
  have s1 : w0.cell? ⟨w.heap.size + 1, 1, none⟩ = some (.int .i64 s.inn) := by rw [hw0]; simp
  have s2 : w0.cell? ⟨w.heap.size + 1, 2, none⟩ = some (.int .i64 s.out) := by rw [hw0]; simp
  have HB0 := hide b0
  clear hw0 b0
  have HMV := hide (moves_any l room _ hl8 w0 ((unhide HST).on (unhide HB0)))
  go_wp2_with fail
  refine (unhide HMV).mono ?_
  rintro e w2 ⟨⟨mv, rfl, hmv⟩, b2⟩
  have hml := moves_le l
  obtain ⟨qa, qc, hq⟩ : ∃ qa qc, mv = .slice qa (movesL l).length qc := by
    rcases hmv.2 with ⟨hv, h0⟩ | ⟨g, cap, cur, hv, _⟩
    · exact ⟨none, 0, by rw [hv, h0]⟩
    · exact ⟨_, _, hv⟩
  subst hq
  have HB2 := hide ((unhide HB0).trans (b2.mono (unhide HB0).size))
  have hz2 := b2.size
  rw [← b2.cell (p := ⟨w.heap.size + 1, _, none⟩) (by simp; omega)] at s0 s1 s2
  have HM2 := hide hmv
  have HSE := hide (placeOf_any s qa (movesL l) qc _ w2 (by omega) (unhide HM2))
  clear HMV hmv b2 HB0 x0 x1 x2 x3 z0
  generalize movesL l = ms at *
  go_wp2_with fail
  refine (unhide HSE).mono ?_
  rintro e w3 ⟨⟨k, rfl, hk, hk1, hk2⟩, b3⟩
  have hfd := find_at hk hk1 hk2
  have HB3 := hide ((unhide HB2).trans (b3.mono (unhide HB2).size))
  have HM3 := hide (ownsRow_on (unhide HM2) b3)
  have HFD := hide ((unhide HR0).symm.trans (congrArg moveV hfd))
  clear HSE b3 HB2 HM2 hk1 hk2 hfd HST hz2 HR0 s0 s1 s2
  by_cases hlt : k < ms.length
  · have q1 : ((k : Int) == (ms.length : Int)) = false := by rw [beq_eq_false_iff_ne]; omega
    have j1 : (k : Int) < (ms.length : Int) := by omega
    have j0 : (0 : Int) ≤ (k : Int) := by omega
    rw [if_pos hlt] at HFD
    obtain ⟨g, gc, hgv, hgl, pc0⟩ := mv_cell (unhide HM3) hlt
    simp at hgv
    obtain ⟨rfl, rfl⟩ := hgv
    generalize ms.getD k (.put 0) = m at pc0 HFD
    have hv : ∃ T X, m.val = .iface T X := by cases m <;> exact ⟨_, _, rfl⟩
    obtain ⟨T, X, hv⟩ := hv
    have HR := hide ((unhide HFD).trans (show moveV (some m) = .tuple #[.iface T X, .bool true] by simp only [moveV]; rw [hv]))
    rw [hv] at pc0
    clear hv HM3 HFD
    go_wp2_with fail
    exact bodyPost_ret (v := .tuple #[.iface T X, .bool true]) (by simp [results, Try.results65, go_sem]) rfl ⟨by rw [unhide HR], unhide HB3⟩
  · have q1 : ((k : Int) == (ms.length : Int)) = true := by rw [beq_iff_eq]; omega
    rw [if_neg hlt] at HFD
    have HR := hide ((unhide HFD).trans (show moveV none = .tuple #[.nilIface, .bool false] from rfl))
    clear HM3 HFD
    go_wp2_with fail
    exact bodyPost_ret (v := .tuple #[.nilIface, .bool false]) (by simp [results, Try.results65, go_sem]) rfl ⟨by rw [unhide HR], unhide HB3⟩
end Go.Proofs.Ythkhaemlcmkkjay
