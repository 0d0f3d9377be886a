/- The specification's StepFrom. -/
import Derived.Test.YthkhaemlcmkkjasGreatGSp
import Derived.Test.YthkhaemlcmkkjasGreatGPd
import Derived.Test.YthkhaemlcmkkjasGreatGRn
import Derived.Test.YthkhaemlcmkkjasGreatGReg
namespace Go.Proofs.YthkhaemlcmkkjasGreat
set_option linter.unusedVariables false
set_option linter.unusedSimpArgs false
open Go.RowKit Go.Deep

theorem filter_take_succ {α : Type} (f : α → Bool) (d : α) (L : List α) {k : Nat} (h : k < L.length) : (L.take (k + 1)).filter f = (L.take k).filter f ++ (if f (L.getD k d) then [L.getD k d] else []) := by
  rw [List.take_succ_eq_append_getElem h, List.filter_append]
  have e : L.getD k d = L[k] := by simp [List.getD, h]
  rw [e]
  congr 1
  cases hf : f L[k] <;> simp [hf]
theorem stepVs_snoc (ss : List StepD) (s : StepD) : stepVs (ss ++ [s]) = stepVs ss ++ stepVs [s] := by simp [stepVs]

/-- What the operations of a call that answers two leave. -/
def TF (P U LV A S : Value) (k : Int) (b : Bool) (i : Nat) (v : Value) : Prop := match i with
  | 0 => v = P
  | 1 => v = U
  | 2 => v = LV
  | 3 => v = .int .i64 k
  | 4 => v = A
  | 5 => v = S
  | 6 => ∃ x, v = .tuple #[x, .bool b]
  | 7 => ∃ x, v = .tuple #[x, .bool b]
  | 9 => v = .bool b
  | _ => True

set_option maxRecDepth 100000 in
set_option maxHeartbeats 8000000 in
theorem specStepFrom_any (a : Option Addr) (l : List PackD) (cap : Nat) (room : Int) (sa : Option Addr) (set : List Int) (sc : Nat) (w : World) (h : PacksAt (Old w) w a l) (hca : CapsAt w a l) (hs : SetAt w sa set) (hsc : sa = none → sc = 0) (hsl : set.length ≤ 1048576) :
    Calls Tryz.prog 18 #[.agg #[.slice a l.length cap, .int .i64 room], .slice sa set.length sc] w fun e w' => (∃ v, e = .returned v ∧ w'.ownsRow w.heap.size 50 3 v (fromL l room set).length (stepVs (fromL l room set))) ∧ Below w.heap.size w w' := by
  obtain ⟨i0, hi, hz0, hz1, hz2⟩ := info_parts Tryz.infoStep
  have b1 := ((Below.refl w.heap.size w).alloc (Nat.le_refl _) (.cells #[.slice a l.length cap, .int .i64 room] 25)).alloc (by simp) (.cells #[] 50)
  have HC := hide (specStepAll_any a l cap room _ (h.on b1))
  have HP := hide h
  have HCA := hide hca
  have HSET := hide hs
  have HSC := hide hsc
  clear h hca hs hsc
  go_enter Tryz.func18, Tryz.ntmps18
  go_wp2_with fail
  refine (unhide HC).mono ?_
  rintro e w2 ⟨⟨v, rfl, hrow⟩, b2⟩
  have z2 := b2.size
  simp at z2
  have x0 := b2.cell (p := ⟨w.heap.size, 0, none⟩) (by simp; omega)
  have x1 := b2.cell (p := ⟨w.heap.size, 1, none⟩) (by simp; omega)
  simp at x0 x1
  have HB2 := hide (b1.trans (b2.mono (by simp; omega)))
  have own0 : w2.ownsRow w.heap.size 50 3 (.slice (some ⟨w.heap.size + 1, 0, none⟩) 0 0) 0 [] := by
    refine ⟨rfl, Or.inr ⟨w.heap.size + 1, 0, #[], rfl, by omega, ?_, Nat.zero_le _, Nat.zero_le _, rfl, rfl⟩⟩
    rw [b2.block (w.heap.size + 1) (by simp)]
    have := blk_alloc_new (w.alloc (.cells #[.slice a l.length cap, .int .i64 room] 25)) (.cells #[] 50)
    simpa using this
  have HO0 := hide own0
  have hlen := stepsL_few l room
  obtain ⟨qa, qc, rfl, _, _, hS⟩ := StepsAt.of_row hrow (by omega)
  have hown := fun g (hg : (Value.slice qa (stepsL l room).length qc).ownBlock = some g) => (World.ownsRow.lt hrow g hg).1
  simp only [nblk_alloc] at hown
  have HG := hide hown
  have HS := hide hS
  clear HC b2 b1 hrow hS own0 hown
  have HFR := hide (show fromL l room set = (stepsL l room).filter (fun s => (specDo l room set s).isSome) by
    unfold fromL
    congr 1
    funext s
    rw [do_same])
  generalize stepsL l room = L at HS hlen HG HFR ⊢
  have hlt0 : w.heap.size + 1 < w2.heap.size := by omega
  go_wp2_with fail
  go_loopw [5, 7] (fun v i wr => ∃ k : Nat, k ≤ L.length ∧ i = .int .i64 k ∧ Hid (wr.ownsRow w.heap.size 50 3 v ((L.take k).filter (fun s => (specDo l room set s).isSome)).length (stepVs ((L.take k).filter (fun s => (specDo l room set s).isSome)))) ∧ Hid (Bar (w.heap.size + 1) w2 wr v) ∧ Hid (Below w.heap.size w wr)) (fun _ i _ => L.length - (intOf i).toNat)
  case atStart => exact ⟨0, Nat.zero_le _, rfl, unhide HO0, Bar.refl (fun g hg => by simp [Value.ownBlock] at hg; omega), unhide HB2⟩
  case round =>
    rename World => wo
    obtain ⟨k, hk, rfl, HO, HX, HB⟩ := hrel
    have hzb := (unhide HB).size
    by_cases hlt : k < L.length
    · have j1 : (k : Int) < (L.length : Int) := by omega
      have j0 : (0 : Int) ≤ (k : Int) := by omega
      rcases (unhide HS).2 with hnil | ⟨b, o, rfl, hbl, hrk⟩
      · rw [hnil] at hlt; simp at hlt
      obtain ⟨c0, c1, c2⟩ := hrk k hlt
      have hgb := unhide HG b rfl
      have htk := filter_take_succ (fun s => (specDo l room set s).isSome) dStep L hlt
      generalize L.getD k dStep = t at c0 c1 c2 htk
      have hN : ((L.take k).filter (fun s => (specDo l room set s).isSome)).length ≤ 1000 := by
        have := List.length_filter_le (fun s => (specDo l room set s).isSome) (L.take k)
        simp at this
        omega
      generalize (L.take k).filter (fun s => (specDo l room set s).isSome) = N at HO htk hN
      have HTK := hide htk
      rw [← (unhide HX).cell (p := ⟨b, _, none⟩) hbl (by simp; omega)] at c0 c1 c2
      have y0 := x0
      have y1 := x1
      rw [← (unhide HX).cell (p := ⟨w.heap.size, _, none⟩) (by simp; omega) (by simp)] at y0 y1
      have HDO := hide (fun x (hx : Below wo.heap.size wo x) => specStepDo_full a l cap room sa set sc t x ((unhide HP).on ((unhide HB).trans (hx.mono (unhide HB).size))) ((unhide HCA).on ((unhide HB).trans (hx.mono (unhide HB).size))) ((unhide HSET).on ((unhide HB).trans (hx.mono (unhide HB).size))) (unhide HSC))
      have hbw : b < wo.heap.size := Nat.lt_of_lt_of_le hbl (unhide HX).size
      generalize specDo l room set t = ds at HDO HTK
      clear htk hrk HG
      have hltk : w.heap.size < wo.heap.size := by omega
      go_upto_region 6 with fail
      refine wp_region_head 11 (by kernel_rfl) (by kernel_rfl) (by kernel_rfl) (by kernel_rfl) (by kernel_rfl) (TF (.agg #[.slice a l.length cap, .int .i64 room]) (.slice sa set.length sc) (.slice (some ⟨b, o, none⟩) L.length qc) (.pointer (some ⟨b, o + k * 3, none⟩)) (.agg #[.int .i64 t.kind, .int .i64 t.inn, .int .i64 t.out]) (k : Int) ds.isSome) (fun _ x => Hid (Below wo.heap.size wo x)) (Below.refl _ _).drew ?_ ?_
      · intro i oo him hi ac x n hn ha HC hd
        have hC := unhide HC
        match i with
        | 0 =>
          simp at hi
          subst hi
          have e2 : ac.tmps[2]? = some (.pointer (some ⟨w.heap.size, 0, none⟩)) := (ha.slot 2 (slots_no (by kernel_rfl))).trans rfl
          rw [← hC.cell (p := ⟨w.heap.size, _, none⟩) hltk] at y0 y1
          go_simp
          exact ⟨_, rfl, rfl, (by first | exact HC | exact True.intro)⟩
        | 1 =>
          simp at hi
          subst hi
          have e1 : ac.tmps[1]? = some (.slice sa set.length sc) := (ha.slot 1 (slots_no (by kernel_rfl))).trans rfl
          go_simp
          exact ⟨_, rfl, rfl, (by first | exact HC | exact True.intro)⟩
        | 2 =>
          simp at hi
          subst hi
          have e6 : ac.tmps[6]? = some (.slice (some ⟨b, o, none⟩) L.length qc) := (ha.slot 6 (slots_no (by kernel_rfl))).trans rfl
          go_simp
          exact ⟨_, rfl, rfl, (by first | exact HC | exact True.intro)⟩
        | 3 =>
          simp at hi
          subst hi
          have e7 : ac.tmps[7]? = some (.int .i64 (k : Int)) := (ha.slot 7 (slots_no (by kernel_rfl))).trans rfl
          go_simp
          exact ⟨_, rfl, rfl, (by first | exact HC | exact True.intro)⟩
        | 4 =>
          simp at hi
          subst hi
          have d2 := hd ⟨2, .data⟩ (by simp) rfl
          rw [valOf_at (d := 22) rfl] at d2
          have d2' : ac.tmps[22]?.getD undef = .slice (some ⟨b, o, none⟩) L.length qc := d2
          have d3 := hd ⟨3, .data⟩ (by simp) rfl
          rw [valOf_at (d := 23) rfl] at d3
          have d3' : ac.tmps[23]?.getD undef = .int .i64 (k : Int) := d3
          go_simp
          exact ⟨_, rfl, rfl, (by first | exact HC | exact True.intro)⟩
        | 5 =>
          simp at hi
          subst hi
          have d4 := hd ⟨4, .data⟩ (by simp) rfl
          rw [valOf_at (d := 24) rfl] at d4
          have d4' : ac.tmps[24]?.getD undef = .pointer (some ⟨b, o + k * 3, none⟩) := d4
          rw [← hC.cell (p := ⟨b, _, none⟩) hbw] at c0 c1 c2
          go_simp
          exact ⟨_, rfl, rfl, (by first | exact HC | exact True.intro)⟩
        | 6 =>
          simp at hi
          subst hi
          have d0 := hd ⟨0, .data⟩ (by simp) rfl
          rw [valOf_at (d := 20) rfl] at d0
          have d0' : ac.tmps[20]?.getD undef = .agg #[.slice a l.length cap, .int .i64 room] := d0
          have d1 := hd ⟨1, .data⟩ (by simp) rfl
          rw [valOf_at (d := 21) rfl] at d1
          have d1' : ac.tmps[21]?.getD undef = .slice sa set.length sc := d1
          have d5 := hd ⟨5, .data⟩ (by simp) rfl
          rw [valOf_at (d := 25) rfl] at d5
          have d5' : ac.tmps[25]?.getD undef = .agg #[.int .i64 t.kind, .int .i64 t.inn, .int .i64 t.out] := d5
          go_simp
          refine (unhide HDO x hC).mono ?_
          rintro e y ⟨⟨v3, rfl, _⟩, b3⟩
          exact ⟨_, rfl, ⟨v3, rfl⟩, hC.trans (b3.mono hC.size)⟩
        | 7 =>
          simp at hi
          subst hi
          obtain ⟨u6, h6⟩ := hd ⟨6, .data⟩ (by simp) rfl
          rw [valOf_at (d := 26) rfl] at h6
          go_simp
          exact ⟨_, rfl, ⟨u6, rfl⟩, (by first | exact HC | exact True.intro)⟩
        | 8 =>
          simp at hi
          subst hi
          obtain ⟨u7, h7⟩ := hd ⟨7, .data⟩ (by simp) rfl
          rw [valOf_at (d := 19) rfl] at h7
          go_simp
          exact ⟨_, rfl, trivial, (by first | exact HC | exact True.intro)⟩
        | 9 =>
          simp at hi
          subst hi
          obtain ⟨u7, h7⟩ := hd ⟨7, .data⟩ (by simp) rfl
          rw [valOf_at (d := 19) rfl] at h7
          go_simp
          exact ⟨_, rfl, rfl, (by first | exact HC | exact True.intro)⟩
        | 10 =>
          simp at hi
          subst hi
          go_simp
          exact ⟨_, rfl, trivial, (by first | exact HC | exact True.intro)⟩
        | i + 11 => omega
      · intro ac w3 ha hT b3
        replace b3 := unhide b3
        have t28 : ac.tmps[28]?.getD undef = .bool ds.isSome := by have := hT 9 (by omega); rwa [valOf_at (d := 28) rfl] at this
        have hl := ha.list
        simp [slotOf, List.range_succ] at hl
        rw [hl]
        clear hl ha hT
        rw [t28]
        generalize ac.tmps[27]?.getD undef = u27
        have HX3 := hide ((unhide HX).on b3)
        have HB3 := hide ((unhide HB).trans (b3.mono (unhide HB).size))
        have hown := ownsRow_on (unhide HO) b3
        rw [← b3.cell (p := ⟨b, _, none⟩) hbw] at c0 c1 c2
        have hz3 := (unhide HB3).size
        clear b3 HDO HB HX HO y0 y1 hltk hzb
        cases hds : ds.isSome with
        | false =>
          have HO3 := hide (show w3.ownsRow w.heap.size 50 3 _ ((L.take (k + 1)).filter (fun s => (specDo l room set s).isSome)).length (stepVs ((L.take (k + 1)).filter (fun s => (specDo l room set s).isSome))) by
            rw [unhide HTK, hds]
            simpa using hown)
          clear hown hds HTK
          go_wp2_with fail
          go_roundw
          case rel => exact ⟨k + 1, by omega, by go_num, HO3, HX3, HB3⟩
          case measure => simp [intOf]; omega
        | true =>
          have HE2 := hide (show (L.take (k + 1)).filter (fun s => (specDo l room set s).isSome) = N ++ [t] by
            rw [unhide HTK, hds]
            rfl)
          clear hds HTK
          go_wp2_with (first
            | (at_builtin; refine wpList_append_two rfl _ _ 29 rfl w.heap.size 50 i0 (.agg #[.int .i64 0, .int .i64 0, .int .i64 0]) 3 24 Tryz.underlying29 hi hz0 hz1 hz2 rfl (by decide) _ _ _ rfl (hown.alloc _) ⟨w3.heap.size, 0, none⟩ 1 (stepVs [t]) rfl rfl ?ca1 ?ca2 ?ca3 ?ca4 ?ca5 ?_))
          case ca1 =>
            intro j u hj
            match j, hj with
            | 0, hj => simp [stepVs] at hj; subst hj; simp [Addr.add]
            | 1, hj => simp [stepVs] at hj; subst hj; simp [Addr.add]
            | 2, hj => simp [stepVs] at hj; subst hj; simp [Addr.add]
          case ca2 => intro u hu; simp [stepVs] at hu; rcases hu with rfl | rfl | rfl <;> rfl
          case ca3 => unfold maxLen; omega
          case ca4 => omega
          case ca5 => simp; omega
          intro v' w4 hown' hgrow hfr
          have hb4 := ((unhide HB3).alloc (by omega) (.cells #[.int .i64 t.kind, .int .i64 t.inn, .int .i64 t.out] 50)).grown hgrow (by simp; omega) (fun j hj => (World.ownsRow.lt hown j hj).1)
          have HX4 := hide (((unhide HX3).on ((Below.refl _ _).alloc (Nat.le_refl _) _)).grown hgrow (by simpa using hfr))
          have HO4 : Hid (w4.ownsRow w.heap.size 50 3 v' ((L.take (k + 1)).filter (fun s => (specDo l room set s).isSome)).length (stepVs ((L.take (k + 1)).filter (fun s => (specDo l room set s).isSome)))) := by
            show World.ownsRow _ _ _ _ _ _ _
            rw [unhide HE2, stepVs_snoc]
            simpa using hown'
          have HB4 := hide hb4
          clear hown hown' hgrow hb4 HX3 HB3 hfr c0 c1 c2
          go_wp2_with fail
          go_roundw
          case rel => exact ⟨k + 1, by omega, by go_num, HO4, HX4, HB4⟩
          case measure => simp [intOf]; omega
    · have j1 : ¬ (k : Int) < (L.length : Int) := by omega
      have hke : L.take k = L := List.take_of_length_le (by omega)
      rw [hke, ← unhide HFR] at HO
      go_wp2_with fail
      go_ret
      exact ⟨⟨_, rfl, unhide HO⟩, unhide HB⟩
end Go.Proofs.YthkhaemlcmkkjasGreat
