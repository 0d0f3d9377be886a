/- The program's WhyNot: all that is wrong with a state. -/
import Derived.Test.YtcmgddkifhcmlanWhyA
import Derived.Laws.EntriesVeiled
namespace Go.Proofs.Ytcmgddkifhcmlan
set_option linter.unusedVariables false
set_option linter.unusedSimpArgs false
open Go.RowKit Go.Deep

theorem WR.one (w : World) (s : StepD) : WR w.heap.size (w.alloc (.cells #[.int .i64 s.kind, .int .i64 s.inn, .int .i64 s.out] 36)) (.slice (some ⟨w.heap.size, 0, none⟩) 1 1) [s] :=
  ⟨rfl, Or.inr ⟨w.heap.size, 1, _, rfl, Nat.le_refl _, blk_alloc_new _ _, Nat.le_refl _, by unfold maxLen; omega, rfl, rfl⟩⟩
/-- All kinds of faults of a pack, by number. -/
def kindL (l : List PackD) (s p : Nat) : Nat → List StepD
  | 0 => twiceL l s p
  | 1 => unfittedL l s p
  | _ => bannedL l s p
def partL (l : List PackD) (s p k : Nat) : List StepD := (List.range k).flatMap (kindL l s p)
theorem part_succ (l : List PackD) (s p k : Nat) : partL l s p (k + 1) = partL l s p k ++ kindL l s p k := by
  unfold partL
  rw [List.range_succ, List.flatMap_append]
  simp
theorem kind_len (j : Nat) (l : List PackD) (s p : Nat) (hok : OkL l) (hp : p < l.length) : (kindL l s p j).length ≤ 8 := by
  have hw : ∀ (k q : Int) (o : Nat), (whysWith k q (placesTo o 8)).length ≤ 8 := fun k q o => by unfold whysWith; rw [List.length_map]; exact places_le o 8
  match j with
  | 0 => exact hw _ _ _
  | 1 =>
    have h1 := lackRows_len s (p : Int) ((l.getD p dPack).deps.map (rowN l)) (l.getD p dPack).deps.length
    have h2 := (hok.reqs p hp).1
    show (unfittedL l s p).length ≤ 8
    unfold unfittedL
    omega
  | j + 2 => exact hw _ _ _
/-- What is wrong with a state. -/
def faultsL (l : List PackD) (room : Int) (s : Nat) : List StepD := lackingL l room s ++ (placesTo s 8).flatMap fun p => partL l s p 3
def whyZ (l : List PackD) (room : Int) (set : List Int) : List StepD := if formB l room set then faultsL l room (setBits set) else []

set_option maxRecDepth 100000 in
set_option maxHeartbeats 4000000 in
theorem lacking_any (l : List PackD) (room : Int) (V : Value) (s : Nat) (hs : s < 65536) (hps : ∀ p ∈ placesTo s 8, p < l.length) (hok : OkL l) (hroom : 0 ≤ room ∧ room ≤ 999) (w : World) (h : Stock w V l room) :
    Calls Try.prog 39 #[V, .int .u64 (s : Int)] w fun e w' => (∃ v, e = .returned v ∧ WR w.heap.size w' v (lackingL l room s)) ∧ Below w.heap.size w w' := by
  obtain ⟨a, cap, bm, v, rfl, hP, ⟨xa, xc, rfl⟩, hA⟩ := h
  have HPP := hide hP
  have hbs := sumP_bound hps hok.size (placesTo s 8).length (Nat.le_refl _)
  have hp1 := places_le s 8
  have hwr : IntKind.i64.wrap (sumP l (placesTo s 8) (placesTo s 8).length - room) = sumP l (placesTo s 8) (placesTo s 8).length - room := by rw [IntKind.wrap_i64]; omega
  have HZ0 := hide (fun x (hx : Below w.heap.size w x) => size_any s hs a l cap room (.map (some bm)) (.slice xa l.length xc) ⟨_, _, _, rfl⟩ rfl x ((unhide HPP).on hx) hps hok.size)
  have HE := hide (show lackingL l room s = if sumP l (placesTo s 8) (placesTo s 8).length - room ≤ 0 then [] else [⟨1, -1, sumP l (placesTo s 8) (placesTo s 8).length - room⟩] from rfl)
  generalize sumP l (placesTo s 8) (placesTo s 8).length = z at hwr HZ0 HE
  clear hP hA hbs hps hok HPP
  obtain ⟨w0, hw0⟩ : ∃ w0, w0 = w.alloc (.cells #[.slice a l.length cap, .int .i64 room, .map (some bm), .slice xa l.length xc] 53) := ⟨_, rfl⟩
  have b0 : Below w.heap.size w w0 := by rw [hw0]; exact (Below.refl _ _).alloc (Nat.le_refl _) _
  have z0 : w.heap.size < w0.heap.size := by rw [hw0]; simp
  have x0 : w0.cell? ⟨w.heap.size, 0, none⟩ = some (.slice a l.length cap) := by rw [hw0]; simp
  have x1 : w0.cell? ⟨w.heap.size, 1, none⟩ = some (.int .i64 room) := by rw [hw0]; simp
  have x2 : w0.cell? ⟨w.heap.size, 2, none⟩ = some (.map (some bm)) := by rw [hw0]; simp
  have x3 : w0.cell? ⟨w.heap.size, 3, none⟩ = some (.slice xa l.length xc) := by rw [hw0]; simp
  have HB0 := hide b0
  have HZ := hide (fun x (hx : Below w0.heap.size w0 x) => unhide HZ0 x ((unhide HB0).trans (hx.mono (unhide HB0).size)))
  clear b0 HZ0
  go_enter Try.func39, Try.ntmps39
  go_upto_region 1 with fail
  rw [← hw0]
  clear hw0
  refine wp_region_mix (k := 100) 6 [] [.agg #[.slice a l.length cap, .int .i64 room, .map (some bm), .slice xa l.length xc], .int .u64 (s : Int), .int .i64 z, .pointer (some ⟨w.heap.size, 1, none⟩), .int .i64 room, .int .i64 (z - room)] (CZ w0) (by kernel_rfl) (by kernel_rfl) (by kernel_rfl) (by kernel_rfl) (by kernel_rfl) (by kernel_rfl) ⟨(Below.refl _ _).drew⟩ ?_ ?_ ?_
  · intro full hfull i oo hi hns ho x fl us hC hb
    simp [putAll, slotOf, Act.put] at hfull
    subst hfull
    have bx := hC.below
    rw [← bx.cell (p := ⟨w.heap.size, _, none⟩) z0] at x0 x1 x2 x3
    have hC0 := hC.on (b' := fl) (Below.refl _ _)
    match i with
    | 0 => simp at ho; subst ho; simp [gwp, Region.wanted, yielded]; go_simp; first | done | exact hC0 | exact ⟨rfl, hC0⟩ | (simp; exact hC0)
    | 1 => simp at ho; subst ho; simp [gwp, Region.wanted, yielded]; go_simp; first | done | exact hC0 | exact ⟨rfl, hC0⟩ | (simp; exact hC0)
    | 2 =>
      simp at ho; subst ho; simp [gwp, Region.wanted, yielded]; go_simp
      refine (unhide HZ x bx).mono ?_
      rintro e w' ⟨rfl, hb2⟩
      go_simp
      first | done | exact hC.on hb2 | exact ⟨rfl, hC.on hb2⟩ | (simp; exact hC.on hb2)
    | 3 => simp at ho; subst ho; simp [gwp, Region.wanted, yielded]; go_simp; first | done | exact hC0 | exact ⟨rfl, hC0⟩ | (simp; exact hC0)
    | 4 => simp at ho; subst ho; simp [gwp, Region.wanted, yielded]; go_simp; first | done | exact hC0 | exact ⟨rfl, hC0⟩ | (simp; exact hC0)
    | 5 => simp at ho; subst ho; simp [gwp, Region.wanted, yielded]; go_simp; first | done | exact hC0 | exact ⟨rfl, hC0⟩ | (simp; exact hC0)
    | i + 6 => omega
  · intro full hfull us j hj
    simp at hj
  intro full hfull us w1 hus hC
  simp [putAll, slotOf, Act.put] at hfull
  subst hfull
  match us, hus with
  | [], _ =>
  have HB1 := hide ((unhide HB0).trans (hC.below.mono (unhide HB0).size))
  have hz1 := (unhide HB1).size
  clear hC HB0 HZ x0 x1 x2 x3 hwr
  simp [putP]
  by_cases hlk : z - room ≤ 0
  · have HR := hide (show lackingL l room s = [] from (unhide HE).trans (if_pos hlk))
    generalize z - room = lk at hlk
    clear HE
    go_wp2_with fail
    go_ret
    exact ⟨⟨_, rfl, by rw [unhide HR]; exact WR.nil _ _⟩, unhide HB1⟩
  · have HR := hide (show lackingL l room s = [⟨1, -1, z - room⟩] from (unhide HE).trans (if_neg hlk))
    generalize z - room = lk at hlk HR
    clear HE
    go_wp2_with fail
    go_ret
    exact ⟨⟨_, rfl, by rw [unhide HR]; exact row_base (WR.one w1 ⟨1, -1, lk⟩) hz1⟩, (unhide HB1).alloc hz1 _⟩

set_option maxRecDepth 100000 in
set_option maxHeartbeats 8000000 in
theorem faults_any (l : List PackD) (room : Int) (V : Value) (s : Nat) (hs : s < 65536) (hps : ∀ p ∈ placesTo s 8, p < l.length) (hok : OkL l) (hroom : 0 ≤ room ∧ room ≤ 999) (w : World) (h : Stock w V l room) :
    Calls Try.prog 23 #[V, .int .u64 (s : Int)] w fun e w' => (∃ v, e = .returned v ∧ WR w.heap.size w' v (faultsL l room s)) ∧ Below w.heap.size w w' := by
  obtain ⟨i0, hi, hz0, hz1, hz2⟩ := info_parts Try.infoWhy
  have HST0 := hide h
  obtain ⟨a, cap, bm, v, rfl, hP, ⟨xa, xc, rfl⟩, hA⟩ := h
  clear hP hA
  obtain ⟨w0, hw0⟩ : ∃ w0, w0 = (w.alloc (.cells #[.slice a l.length cap, .int .i64 room, .map (some bm), .slice xa l.length xc] 53)).alloc (.cells #[.func (.func 36) #[] #[], .func (.func 37) #[] #[], .func (.func 38) #[] #[]] 75) := ⟨_, rfl⟩
  have b0 : Below w.heap.size w w0 := by rw [hw0]; exact ((Below.refl _ _).alloc (Nat.le_refl _) _).alloc (by simp) _
  have z0 : w.heap.size + 1 < w0.heap.size := by rw [hw0]; simp
  have x0 : w0.cell? ⟨w.heap.size, 0, none⟩ = some (.slice a l.length cap) := by rw [hw0]; simp
  have x1 : w0.cell? ⟨w.heap.size, 1, none⟩ = some (.int .i64 room) := by rw [hw0]; simp
  have x2 : w0.cell? ⟨w.heap.size, 2, none⟩ = some (.map (some bm)) := by rw [hw0]; simp
  have x3 : w0.cell? ⟨w.heap.size, 3, none⟩ = some (.slice xa l.length xc) := by rw [hw0]; simp
  have g0 : w0.cell? ⟨w.heap.size + 1, 0, none⟩ = some (.func (.func 36) #[] #[]) := by rw [hw0]; simp
  have g1 : w0.cell? ⟨w.heap.size + 1, 1, none⟩ = some (.func (.func 37) #[] #[]) := by rw [hw0]; simp
  have g2 : w0.cell? ⟨w.heap.size + 1, 2, none⟩ = some (.func (.func 38) #[] #[]) := by rw [hw0]; simp
  have ix0 : ∀ W : World, Sem.run Try.prog (Instr.index 75 (.agg #[.func (.func 36) #[] #[], .func (.func 37) #[] #[], .func (.func 38) #[] #[]]) (.int .i64 0)) W = Result.ok (.func (.func 36) #[] #[]) W := fun W => by kernel_rfl
  have cf0 : ∀ (x y z : Value) (W : World), Sem.run Try.prog (callFunc 36 #[x, y, z]) W = Result.ok (Next.enter 36 #[x, y, z]) W := fun x y z W => by kernel_rfl
  have ix1 : ∀ W : World, Sem.run Try.prog (Instr.index 75 (.agg #[.func (.func 36) #[] #[], .func (.func 37) #[] #[], .func (.func 38) #[] #[]]) (.int .i64 1)) W = Result.ok (.func (.func 37) #[] #[]) W := fun W => by kernel_rfl
  have cf1 : ∀ (x y z : Value) (W : World), Sem.run Try.prog (callFunc 37 #[x, y, z]) W = Result.ok (Next.enter 37 #[x, y, z]) W := fun x y z W => by kernel_rfl
  have ix2 : ∀ W : World, Sem.run Try.prog (Instr.index 75 (.agg #[.func (.func 36) #[] #[], .func (.func 37) #[] #[], .func (.func 38) #[] #[]]) (.int .i64 2)) W = Result.ok (.func (.func 38) #[] #[]) W := fun W => by kernel_rfl
  have cf2 : ∀ (x y z : Value) (W : World), Sem.run Try.prog (callFunc 38 #[x, y, z]) W = Result.ok (Next.enter 38 #[x, y, z]) W := fun x y z W => by kernel_rfl
  have HST := hide ((unhide HST0).on b0)
  have HB0 := hide b0
  clear b0 HST0
  go_enter Try.func23, Try.ntmps23
  go_upto_region 2 with fail
  rw [← hw0]
  clear hw0
  go_wp2_with fail
  refine (lacking_any l room _ s hs hps hok hroom w0 (unhide HST)).mono ?_
  rintro e w1 ⟨⟨v1, rfl, hr1⟩, b1⟩
  obtain ⟨va, vn, vc, hv1⟩ : ∃ qa qn qc, v1 = .slice qa qn qc := by
    rcases hr1.slice with ⟨hv, _⟩ | ⟨g, cap, hv, _⟩
    · exact ⟨_, _, _, hv⟩
    · exact ⟨_, _, _, hv⟩
  subst hv1
  have HR1 := hide hr1
  have HB1 := hide b1
  have hz1' := b1.size
  clear hr1 b1
  go_wp2_with fail
  refine (places_any s hs w1).mono ?_
  rintro e w2 ⟨⟨pv, rfl, hpr⟩, b2⟩
  have hl8 := places_le s 8
  obtain ⟨qa, qc, hq⟩ : ∃ qa qc, pv = .slice qa (placesTo s 8).length qc := by
    rcases hpr.2 with ⟨hv, h0⟩ | ⟨g, cap, cur, hv, _⟩
    · exact ⟨none, 0, by rw [hv, h0]⟩
    · exact ⟨_, _, hv⟩
  subst hq
  have HP2 := hide hpr
  have HB2 := hide ((unhide HB1).trans (b2.mono (unhide HB1).size))
  have HR2 := hide (ownsRow_on (unhide HR1) b2)
  have hz2' := b2.size
  have HLL : Hid ((lackingL l room s).length ≤ 1) := by
    show _ ≤ _
    unfold lackingL
    split <;> simp
  have HFE : Hid (faultsL l room s = lackingL l room s ++ (placesTo s 8).flatMap fun p => partL l s p 3) := rfl
  clear hpr b2 HB1 HR1
  generalize placesTo s 8 = ps at HP2 hl8 hps HFE ⊢
  go_wp2_with fail
  go_loopw [6, 18] (fun v i wr => ∃ (k : Nat) (N : List StepD), k ≤ ps.length ∧ i = .int .i64 k ∧ N.length ≤ 1 + 24 * k ∧ Hid (N = lackingL l room s ++ (ps.take k).flatMap fun p => partL l s p 3) ∧ Hid (WR w0.heap.size wr v N) ∧ Hid (wr.ownsRow w0.heap.size 3 1 (.slice qa ps.length qc) ps.length (natVs ps)) ∧ Hid (Below w0.heap.size w0 wr)) (fun _ i _ => ps.length - (intOf i).toNat)
  case atStart => exact ⟨0, lackingL l room s, Nat.zero_le _, rfl, by have := unhide HLL; omega, by show _ = _; simp, HR2, row_base (unhide HP2) hz1', HB2⟩
  case round =>
    rename World => wq
    obtain ⟨k, N, hk, rfl, hNl, HN, HO, HP, HB⟩ := hrel
    have hzb := (unhide HB).size
    by_cases hlt : k < ps.length
    · have j1 : (k : Int) < (ps.length : Int) := by omega
      have j0 : (0 : Int) ≤ (k : Int) := by omega
      obtain ⟨qa', qc', he, hpl0⟩ := PlAt.of_row (unhide HP)
      simp at he
      obtain ⟨rfl, rfl⟩ := he
      rcases hpl0 with hpl0 | ⟨b, rfl, _, hpl0⟩
      · rw [hpl0] at hlt; simp at hlt
      have c0 := hpl0 k hlt
      have hpl := hps _ (getD_mem (d := 0) hlt)
      have HSN : Hid ((ps.take (k + 1)).flatMap (fun p => partL l s p 3) = (ps.take k).flatMap (fun p => partL l s p 3) ++ partL l s (ps.getD k 0) 3) := by
        show _ = _
        rw [List.take_succ_eq_append_getElem hlt, List.flatMap_append]
        simp [List.getD, hlt]
      generalize ps.getD k 0 = p at c0 hpl HSN
      have y0 := x0
      have y1 := x1
      have y2 := x2
      have y3 := x3
      have f0 := g0
      have f1 := g1
      have f2 := g2
      rw [← (unhide HB).cell (p := ⟨w.heap.size, _, none⟩) (by show w.heap.size < _; omega)] at y0 y1 y2 y3
      rw [← (unhide HB).cell (p := ⟨w.heap.size + 1, _, none⟩) (by show w.heap.size + 1 < _; omega)] at f0 f1 f2
      clear hpl0
      go_wp2_with fail
      go_loopw [6, 23] (fun v i wr => ∃ (j : Nat) (M : List StepD), j ≤ 3 ∧ i = .int .i64 j ∧ M.length ≤ N.length + 8 * j ∧ Hid (M = N ++ partL l s p j) ∧ Hid (WR w0.heap.size wr v M) ∧ Hid (wr.ownsRow w0.heap.size 3 1 (.slice (some ⟨b, 0, none⟩) ps.length qc) ps.length (natVs ps)) ∧ Hid (Below w0.heap.size w0 wr)) (fun _ i _ => 3 - (intOf i).toNat)
      case atStart => exact ⟨0, N, by omega, rfl, by omega, by show _ = _; simp [partL], HO, HP, HB⟩
      case round =>
        rename World => wo
        clear HO HP HB y0 y1 y2 y3 f0 f1 f2 hzb c0
        obtain ⟨j, M, hj, rfl, hMl, HM, HO, HP, HB⟩ := hrel
        have hzb := (unhide HB).size
        have y0 := x0
        have y1 := x1
        have y2 := x2
        have y3 := x3
        have f0 := g0
        have f1 := g1
        have f2 := g2
        rw [← (unhide HB).cell (p := ⟨w.heap.size, _, none⟩) (by show w.heap.size < _; omega)] at y0 y1 y2 y3
        rw [← (unhide HB).cell (p := ⟨w.heap.size + 1, _, none⟩) (by show w.heap.size + 1 < _; omega)] at f0 f1 f2
        by_cases hj3 : j < 3
        · rcases (by omega : j = 0 ∨ j = 1 ∨ j = 2) with rfl | rfl | rfl
          · go_wp2_with fail
            refine (twice_of l room _ s p hs hpl hok wo ((unhide HST).on (unhide HB))).mono ?_
            rintro e w4 ⟨⟨v4, rfl, hr4⟩, b4⟩
            have HB4 := hide ((unhide HB).trans (b4.mono (unhide HB).size))
            have hown := ownsRow_on (unhide HO) b4
            have HP4 := hide (ownsRow_on (unhide HP) b4)
            have hz4 := (unhide HB4).size
            have hll : (twiceL l s p).length ≤ 8 := kind_len 0 l s p hok hpl
            have hM2 : M ++ twiceL l s p = N ++ partL l s p 1 := by rw [unhide HM, List.append_assoc]; congr 1; exact (part_succ l s p 0).symm
            have HM2 := hide hM2
            generalize twiceL l s p = X at hr4 hll HM2
            clear b4 HB HP HO hM2 y0 y1 y2 y3 f0 f1 f2
            rcases hr4.slice with ⟨hv4, hX⟩ | ⟨g4, c4, hv4, hg4, hg4l, hcells⟩
            · subst hv4 hX
              clear hr4
              go_wp2_with (first
                | (at_builtin; refine wpList_append_own_none rfl _ _ 29 rfl w0.heap.size 36 i0 3 Try.underlying29 hi _ _ _ rfl hown rfl ?_))
              have HO5 := hide hown
              clear hown
              go_wp2_with fail
              go_roundw
              case rel => exact ⟨1, M, by omega, by go_num, by simp at hll; omega, hide (by have := unhide HM2; simpa using this), HO5, HP4, HB4⟩
              case measure => simp [intOf]
            · subst hv4
              have hmx : M.length ≤ 1000 := by omega
              clear hr4
              go_wp2_with (first
                | (at_builtin; refine wpList_append_own _ rfl _ _ 29 rfl w0.heap.size 36 i0 (.agg #[.int .i64 0, .int .i64 0, .int .i64 0]) 3 24 Try.underlying29 hi hz0 hz1 hz2 rfl (by decide) _ _ _ rfl hown ⟨g4, 0, none⟩ X.length c4 (stepVs X) rfl (stepVs_len X) hcells (steps_one X) (by unfold maxLen; omega) (by omega) (by omega) ?_))
              intro v' w5 hown' hgrow _
              have hb1 := (unhide HB4).grown hgrow (by omega) (fun j hj => (World.ownsRow.lt hown j hj).1)
              have HP5 := hide (row_types (unhide HP4) hown (by decide) hgrow)
              have HO5 : Hid (WR w0.heap.size w5 v' (M ++ X)) := by
                show WR _ _ _ _
                unfold WR
                rw [stepVs_app]
                simpa using hown'
              have HB5 := hide hb1
              clear hown hown' hgrow hb1 HP4 HB4 hcells
              go_wp2_with fail
              go_roundw
              case rel => exact ⟨1, M ++ X, by omega, by go_num, by simp; omega, HM2, HO5, HP5, HB5⟩
              case measure => simp [intOf]
          · go_wp2_with fail
            refine (unfitted_any l room _ s p hs hpl hok wo ((unhide HST).on (unhide HB))).mono ?_
            rintro e w4 ⟨⟨v4, rfl, hr4⟩, b4⟩
            have HB4 := hide ((unhide HB).trans (b4.mono (unhide HB).size))
            have hown := ownsRow_on (unhide HO) b4
            have HP4 := hide (ownsRow_on (unhide HP) b4)
            have hz4 := (unhide HB4).size
            have hll : (unfittedL l s p).length ≤ 8 := kind_len 1 l s p hok hpl
            have hM2 : M ++ unfittedL l s p = N ++ partL l s p 2 := by rw [unhide HM, List.append_assoc]; congr 1; exact (part_succ l s p 1).symm
            have HM2 := hide hM2
            generalize unfittedL l s p = X at hr4 hll HM2
            clear b4 HB HP HO hM2 y0 y1 y2 y3 f0 f1 f2
            rcases hr4.slice with ⟨hv4, hX⟩ | ⟨g4, c4, hv4, hg4, hg4l, hcells⟩
            · subst hv4 hX
              clear hr4
              go_wp2_with (first
                | (at_builtin; refine wpList_append_own_none rfl _ _ 29 rfl w0.heap.size 36 i0 3 Try.underlying29 hi _ _ _ rfl hown rfl ?_))
              have HO5 := hide hown
              clear hown
              go_wp2_with fail
              go_roundw
              case rel => exact ⟨2, M, by omega, by go_num, by simp at hll; omega, hide (by have := unhide HM2; simpa using this), HO5, HP4, HB4⟩
              case measure => simp [intOf]
            · subst hv4
              have hmx : M.length ≤ 1000 := by omega
              clear hr4
              go_wp2_with (first
                | (at_builtin; refine wpList_append_own _ rfl _ _ 29 rfl w0.heap.size 36 i0 (.agg #[.int .i64 0, .int .i64 0, .int .i64 0]) 3 24 Try.underlying29 hi hz0 hz1 hz2 rfl (by decide) _ _ _ rfl hown ⟨g4, 0, none⟩ X.length c4 (stepVs X) rfl (stepVs_len X) hcells (steps_one X) (by unfold maxLen; omega) (by omega) (by omega) ?_))
              intro v' w5 hown' hgrow _
              have hb1 := (unhide HB4).grown hgrow (by omega) (fun j hj => (World.ownsRow.lt hown j hj).1)
              have HP5 := hide (row_types (unhide HP4) hown (by decide) hgrow)
              have HO5 : Hid (WR w0.heap.size w5 v' (M ++ X)) := by
                show WR _ _ _ _
                unfold WR
                rw [stepVs_app]
                simpa using hown'
              have HB5 := hide hb1
              clear hown hown' hgrow hb1 HP4 HB4 hcells
              go_wp2_with fail
              go_roundw
              case rel => exact ⟨2, M ++ X, by omega, by go_num, by simp; omega, HM2, HO5, HP5, HB5⟩
              case measure => simp [intOf]
          · go_wp2_with fail
            refine (banned_any l room _ s p hs hpl hok wo ((unhide HST).on (unhide HB))).mono ?_
            rintro e w4 ⟨⟨v4, rfl, hr4⟩, b4⟩
            have HB4 := hide ((unhide HB).trans (b4.mono (unhide HB).size))
            have hown := ownsRow_on (unhide HO) b4
            have HP4 := hide (ownsRow_on (unhide HP) b4)
            have hz4 := (unhide HB4).size
            have hll : (bannedL l s p).length ≤ 8 := kind_len 2 l s p hok hpl
            have hM2 : M ++ bannedL l s p = N ++ partL l s p 3 := by rw [unhide HM, List.append_assoc]; congr 1; exact (part_succ l s p 2).symm
            have HM2 := hide hM2
            generalize bannedL l s p = X at hr4 hll HM2
            clear b4 HB HP HO hM2 y0 y1 y2 y3 f0 f1 f2
            rcases hr4.slice with ⟨hv4, hX⟩ | ⟨g4, c4, hv4, hg4, hg4l, hcells⟩
            · subst hv4 hX
              clear hr4
              go_wp2_with (first
                | (at_builtin; refine wpList_append_own_none rfl _ _ 29 rfl w0.heap.size 36 i0 3 Try.underlying29 hi _ _ _ rfl hown rfl ?_))
              have HO5 := hide hown
              clear hown
              go_wp2_with fail
              go_roundw
              case rel => exact ⟨3, M, by omega, by go_num, by simp at hll; omega, hide (by have := unhide HM2; simpa using this), HO5, HP4, HB4⟩
              case measure => simp [intOf]
            · subst hv4
              have hmx : M.length ≤ 1000 := by omega
              clear hr4
              go_wp2_with (first
                | (at_builtin; refine wpList_append_own _ rfl _ _ 29 rfl w0.heap.size 36 i0 (.agg #[.int .i64 0, .int .i64 0, .int .i64 0]) 3 24 Try.underlying29 hi hz0 hz1 hz2 rfl (by decide) _ _ _ rfl hown ⟨g4, 0, none⟩ X.length c4 (stepVs X) rfl (stepVs_len X) hcells (steps_one X) (by unfold maxLen; omega) (by omega) (by omega) ?_))
              intro v' w5 hown' hgrow _
              have hb1 := (unhide HB4).grown hgrow (by omega) (fun j hj => (World.ownsRow.lt hown j hj).1)
              have HP5 := hide (row_types (unhide HP4) hown (by decide) hgrow)
              have HO5 : Hid (WR w0.heap.size w5 v' (M ++ X)) := by
                show WR _ _ _ _
                unfold WR
                rw [stepVs_app]
                simpa using hown'
              have HB5 := hide hb1
              clear hown hown' hgrow hb1 HP4 HB4 hcells
              go_wp2_with fail
              go_roundw
              case rel => exact ⟨3, M ++ X, by omega, by go_num, by simp; omega, HM2, HO5, HP5, HB5⟩
              case measure => simp [intOf]
        · have hje : j = 3 := by omega
          have hjn : ¬ (j : Int) < 3 := by omega
          have HN2 : Hid (M = lackingL l room s ++ (ps.take (k + 1)).flatMap fun p => partL l s p 3) := by
            show _ = _
            rw [unhide HSN, unhide HM, unhide HN, hje, List.append_assoc]
          clear hje HM HN
          go_wp2_with fail
          go_roundw
          case rel => exact ⟨k + 1, M, by omega, by go_num, by omega, HN2, HO, HP, HB⟩
          case measure => simp [intOf]; omega
    · have j1 : ¬ (k : Int) < (ps.length : Int) := by omega
      have hke : ps.take k = ps := List.take_of_length_le (by omega)
      have HN2 := hide (show faultsL l room s = N by rw [unhide HFE, unhide HN, hke])
      have HB6 := hide ((unhide HB0).trans ((unhide HB).mono (unhide HB0).size))
      have HO6 := hide (show WR w.heap.size wq _ N from row_base (unhide HO) (by omega))
      clear hke HO HB
      go_wp2_with fail
      go_ret
      exact ⟨⟨_, rfl, by rw [unhide HN2]; simpa using unhide HO6⟩, unhide HB6⟩
end Go.Proofs.Ytcmgddkifhcmlan
