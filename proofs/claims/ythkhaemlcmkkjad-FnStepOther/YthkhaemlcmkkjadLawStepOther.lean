/- The walk of the law FnStepOther: of every code it answers true, and writes nothing that was there. -/
import Derived.Test.YthkhaemlcmkkjadDrawUF
import Derived.Test.YthkhaemlcmkkjadSpF
import Derived.Test.YthkhaemlcmkkjadGIm
import Derived.Test.YthkhaemlcmkkjadStepsA
import Derived.Test.YthkhaemlcmkkjadGPd
import Derived.Test.YthkhaemlcmkkjadGCv
import Derived.Test.YthkhaemlcmkkjadGStL
import Derived.Test.YthkhaemlcmkkjadTupG
import Derived.Test.YthkhaemlcmkkjadGLd
import Derived.Test.YthkhaemlcmkkjadLdInts
import Derived.Test.YthkhaemlcmkkjadGDcn
namespace Go.Proofs.Ythkhaemlcmkkjad
set_option linter.unusedVariables false
set_option linter.unusedSimpArgs false
open Go.RowKit Go.Deep

def toZ (l : List PackD) (room : Int) (set : List Int) (s : StepD) : List Int := (implDo l room set s).getD []
/-- Each is allowed, and none leads where one ahead of it led. -/
theorem from_other {l : List PackD} {room : Int} {set : List Int} {k : Nat} (hk : k < (fromL l room set).length) : ∃ t, implDo l room set ((fromL l room set).getD k dStep) = some t ∧ t.length ≤ set.length + 1 ∧ ((((fromL l room set).take k).map (toZ l room set)).any (fun x => decide (x = t))) = false ∧ decide (t = set) = false := by
  have hm := getD_mem (d := dStep) hk
  obtain ⟨t, ht⟩ := Option.isSome_iff_exists.1 (List.mem_filter.1 hm).2
  have hlen := do_len (l := l) (room := room) (set := set) (s := (fromL l room set).getD k dStep)
  rw [ht] at hlen
  refine ⟨t, ht, hlen, ?_, decide_eq_false (do_moves ht)⟩
  rw [List.any_eq_false]
  intro x hx
  obtain ⟨s, hs, rfl⟩ := List.mem_map.1 hx
  obtain ⟨j, hj, hje⟩ := List.getElem_of_mem hs
  simp at hj
  have hsm : s ∈ fromL l room set := List.mem_of_mem_take hs
  obtain ⟨t2, ht2⟩ := Option.isSome_iff_exists.1 (List.mem_filter.1 hsm).2
  have e2 : toZ l room set s = t2 := by unfold toZ; rw [ht2]; rfl
  rw [e2]
  simp
  intro e
  subst e
  have hse := do_other ht2 ht
  have hne : (fromL l room set).Pairwise (· ≠ ·) := List.Pairwise.filter _ (steps_once l room)
  have := List.pairwise_iff_getElem.1 hne j k (by omega) hk (by omega)
  apply this
  rw [List.getElem_take] at hje
  rw [hje, hse]
  simp [List.getD, hk]
set_option maxRecDepth 100000 in
set_option maxHeartbeats 8000000 in
theorem other_any (a : Option Addr) (n c : Nat) (w : World) (h : CodeAt w.heap.size w a n) (hc : n ≤ c) (hc2 : c ≤ maxLen) :
    Calls Try.prog 6 #[.slice a n c] w fun e w' => e = .returned (.bool true) ∧ Below w.heap.size w w' := by
  have hmx := hc2
  unfold maxLen at hmx
  by_cases hbig : 1048576 < n
  · have hb' : (1048576 : Int) < (n : Int) := by omega
    go_enter Try.func6, Try.ntmps6
    go_wp2_with fail
    go_ret
    exact ⟨rfl, Below.refl _ _⟩
  have hb' : ¬ (1048576 : Int) < (n : Int) := by omega
  go_enter Try.func6, Try.ntmps6
  go_wp2_with fail
  refine (DrawStepFrom_V a n c w h (by omega) hc hc2).mono ?_
  rintro e w1 ⟨⟨v, room, u, rfl, hV, set, hrow, hsl⟩, b1⟩
  obtain ⟨va, vn, vc, rfl, _⟩ := SlBy.slice hV
  obtain ⟨l, rfl, hP⟩ := V2.packs hV
  obtain ⟨sa, sc, hu, hset⟩ := RowI.set hrow (by omega)
  subst hu
  have HSC : Hid (sa = none → sc = 0) := row_cap0 hrow
  have HC1 := hide (V2.caps hV hP)
  have HP1 := hide hP
  have HS1 := hide hset
  have HB1 := hide b1
  clear hV hrow hP hset b1 h
  go_upto_region 4 with fail
  obtain ⟨w2, hw2⟩ : ∃ w2, w2 = w1.alloc (.cells #[.slice va l.length vc, .int .i64 room] 25) := ⟨_, rfl⟩
  rw [← hw2]
  have b2 : Below w1.heap.size w1 w2 := by rw [hw2]; exact (Below.refl _ _).alloc (Nat.le_refl _) _
  have x0 : w2.cell? ⟨w1.heap.size, 0, none⟩ = some (.slice va l.length vc) := by rw [hw2]; simp
  have x1 : w2.cell? ⟨w1.heap.size, 1, none⟩ = some (.int .i64 room) := by rw [hw2]; simp
  have hlt2 : w1.heap.size < w2.heap.size := by rw [hw2]; simp
  have HP2 := hide ((unhide HP1).on b2)
  have HS2 := hide ((unhide HS1).on b2)
  have HC2 := hide ((unhide HC1).on b2)
  have HB2 := hide ((unhide HB1).trans (b2.mono (unhide HB1).size))
  clear hw2 b2 HP1 HS1 HB1 HC1
  have hfew := from_few l room set
  have hsfew := stepsL_few l room
  go_wp2_with fail
  refine (implStepFrom_any va l vc room sa set sc w2 (unhide HP2) (unhide HS2)).mono ?_
  rintro e w3 ⟨⟨v3, rfl, hs3⟩, b3⟩
  obtain ⟨la, lc, rfl, _, _, hS3⟩ := StepsAt.of_row hs3 (by omega)
  have HL3 := hide hS3
  have HP3 := hide ((unhide HP2).on b3)
  have HS3 := hide ((unhide HS2).on b3)
  have HC3 := hide ((unhide HC2).on b3)
  have HB3 := hide ((unhide HB2).trans (b3.mono (unhide HB2).size))
  have hlt3 : w1.heap.size < w3.heap.size := Nat.lt_of_lt_of_le hlt2 b3.size
  rw [← b3.cell (p := ⟨w1.heap.size, _, none⟩) hlt2] at x0 x1
  clear HB2 b3 hlt2 HP2 HS2 HC2
  clear hs3 hS3
  go_wp2_with fail
  refine (specStepFrom_any va l vc room sa set sc w3 (unhide HP3) (unhide HC3) (unhide HS3) (unhide HSC) (by omega)).mono ?_
  rintro e w4 ⟨⟨v4, rfl, hs4⟩, b4⟩
  obtain ⟨pa, pc, rfl, _, _, hS4⟩ := StepsAt.of_row hs4 (by omega)
  have HW4 := hide hS4
  have HP4 := hide ((unhide HP3).on b4)
  have HS4 := hide ((unhide HS3).on b4)
  have HC4 := hide ((unhide HC3).on b4)
  have HL4 := hide ((unhide HL3).on b4)
  have HB4 := hide ((unhide HB3).trans (b4.mono (unhide HB3).size))
  have hlt4 : w1.heap.size < w4.heap.size := Nat.lt_of_lt_of_le hlt3 b4.size
  rw [← b4.cell (p := ⟨w1.heap.size, _, none⟩) hlt3] at x0 x1
  clear HB3 b4 hlt3 HP3 HS3 HC3 HL3
  clear hs4 hS4
  have HFO : Hid (∀ k, k < (fromL l room set).length → ∃ t, implDo l room set ((fromL l room set).getD k dStep) = some t ∧ t.length ≤ set.length + 1 ∧ ((((fromL l room set).take k).map (toZ l room set)).any (fun x => decide (x = t))) = false ∧ decide (t = set) = false) := fun k hk => from_other hk
  generalize fromL l room set = F at *
  go_wp2_with fail
  refine (ldSteps_same la F lc pa pc w4 (unhide HL4) (unhide HW4)).mono ?_
  rintro e w5 ⟨rfl, b5⟩
  have HP5 := hide ((unhide HP4).on b5)
  have HS5 := hide ((unhide HS4).on b5)
  have HC5 := hide ((unhide HC4).on b5)
  have HL5 := hide ((unhide HL4).on b5)
  have HB5 := hide ((unhide HB4).trans (b5.mono (unhide HB4).size))
  have hlt5 : w1.heap.size < w5.heap.size := Nat.lt_of_lt_of_le hlt4 b5.size
  rw [← b5.cell (p := ⟨w1.heap.size, _, none⟩) hlt4] at x0 x1
  clear HB4 b5 hlt4 HP4 HS4 HC4 HL4
  clear HW4
  obtain ⟨i0, hi0, hz0, hz1, hz2⟩ := info_parts Try.infoInts
  go_wp2_with fail
  go_loopw [6, 7] (fun v i wr => ∃ (k : Nat) (vs : List Value), k ≤ F.length ∧ i = .int .i64 k ∧ Hid (LstI w5.heap.size wr v ((F.take k).map (toZ l room set)) vs) ∧ Hid (∀ i, i < k → (((F.take k).map (toZ l room set)).getD i []).length ≤ 300000) ∧ Hid (Below w5.heap.size w5 wr)) (fun _ i _ => F.length - (intOf i).toNat)
  case atStart =>
    refine ⟨0, [], Nat.zero_le _, rfl, ⟨rfl, ⟨rfl, Or.inr ⟨w5.heap.size, 0, #[], rfl, Nat.le_refl _, blk_alloc_new _ _, Nat.zero_le _, Nat.zero_le _, rfl, rfl⟩⟩, fun i hi => (by simp at hi), fun i j _ hj => (by simp at hj)⟩, fun i hi => (by omega), (Below.refl _ _).alloc (Nat.le_refl _) _⟩
  case round =>
    rename World => wo
    obtain ⟨k, vs, hk, rfl, HLS, HLN, HBO⟩ := hrel
    by_cases hlt : k < F.length
    · have j1 : (k : Int) < (F.length : Int) := by omega
      have j0 : (0 : Int) ≤ (k : Int) := by omega
      obtain ⟨tt, htt, htl, hno, hns⟩ := unhide HFO k hlt
      have HNO := hide hno
      have HNS := hide hns
      have HSU := hide (show (F.take (k + 1)).map (toZ l room set) = (F.take k).map (toZ l room set) ++ [tt] by
        rw [List.take_succ_eq_append_getElem hlt, List.map_append]
        congr 1
        have e : F.getD k dStep = F[k] := by simp [List.getD, hlt]
        rw [e] at htt
        simp [toZ, htt])
      have hsl2 : ((F.take k).map (toZ l room set)).length = k := by simp; omega
      have HSL := hide hsl2
      have hsl3 : ((F.take k).map (toZ l room set)).length ≤ 100 := by omega
      clear hsl2
      generalize (F.take k).map (toZ l room set) = SS at *
      rcases (unhide HL5).2 with hnil | ⟨b, o, rfl, hbl, hrk⟩
      · rw [hnil] at hlt; simp at hlt
      obtain ⟨c0, c1, c2⟩ := hrk k hlt
      generalize F.getD k dStep = t at c0 c1 c2 htt
      have y0 := x0
      have y1 := x1
      rw [← (unhide HBO).cell (p := ⟨w1.heap.size, _, none⟩) hlt5] at y0 y1
      rw [← (unhide HBO).cell (p := ⟨b, _, none⟩) hbl] at c0 c1 c2
      have hltk : w1.heap.size < wo.heap.size := Nat.lt_of_lt_of_le hlt5 (unhide HBO).size
      have hbw : b < wo.heap.size := Nat.lt_of_lt_of_le hbl (unhide HBO).size
      have HDO := hide (fun x (hx : Below wo.heap.size wo x) => implStepDo_any va l vc room sa set sc t x (((unhide HP5).on (unhide HBO)).on hx) (((unhide HS5).on (unhide HBO)).on hx))
      obtain ⟨ds, hds⟩ : ∃ ds, ds = some tt := ⟨_, rfl⟩
      rw [htt, ← hds] at HDO
      have HDS := hide hds
      clear hrk htt hno hns hds
      go_upto_region 11 with fail
      refine wp_region_headE 11 (by kernel_rfl) (by kernel_rfl) (by kernel_rfl) (by kernel_rfl) (by kernel_rfl) (TG (.agg #[.slice va l.length vc, .int .i64 room]) (.slice sa set.length sc) (.slice (some ⟨b, o, none⟩) F.length lc) (.pointer (some ⟨b, o + k * 3, none⟩)) (.agg #[.int .i64 t.kind, .int .i64 t.inn, .int .i64 t.out]) (k : Int) wo.heap.size ds) (fun _ x => Hid (Below wo.heap.size wo x)) (fun x y => Below x.heap.size x y) (fun i v x y h hb => TG_on h hb) (Below.refl _ _).drew ?_ ?_
      · intro i oo him hi ac x n hn ha HC hd
        have hC := unhide HC
        match i with
        | 0 =>
          simp at hi
          subst hi
          have e3 : ac.tmps[3]? = some (.pointer (some ⟨w1.heap.size, 0, none⟩)) := (ha.slot 3 (slots_no (by kernel_rfl))).trans rfl
          rw [← hC.cell (p := ⟨w1.heap.size, _, none⟩) hltk] at y0 y1
          go_simp
          exact ⟨_, rfl, rfl, (by first | exact HC | exact True.intro), Below.refl _ _⟩
        | 1 =>
          simp at hi
          subst hi
          have e4 : ac.tmps[4]? = some (.slice sa set.length sc) := (ha.slot 4 (slots_no (by kernel_rfl))).trans rfl
          go_simp
          exact ⟨_, rfl, rfl, (by first | exact HC | exact True.intro), Below.refl _ _⟩
        | 2 =>
          simp at hi
          subst hi
          have e5 : ac.tmps[5]? = some (.slice (some ⟨b, o, none⟩) F.length lc) := (ha.slot 5 (slots_no (by kernel_rfl))).trans rfl
          go_simp
          exact ⟨_, rfl, rfl, (by first | exact HC | exact True.intro), Below.refl _ _⟩
        | 3 =>
          simp at hi
          subst hi
          have e7 : ac.tmps[7]? = some (.int .i64 (k : Int)) := (ha.slot 7 (slots_no (by kernel_rfl))).trans rfl
          go_simp
          exact ⟨_, rfl, rfl, (by first | exact HC | exact True.intro), Below.refl _ _⟩
        | 4 =>
          simp at hi
          subst hi
          have d2 := hd ⟨2, .data⟩ (by simp) rfl
          rw [valOf_at (d := 37) rfl] at d2
          have d2' : ac.tmps[37]?.getD undef = .slice (some ⟨b, o, none⟩) F.length lc := d2
          have d3 := hd ⟨3, .data⟩ (by simp) rfl
          rw [valOf_at (d := 38) rfl] at d3
          have d3' : ac.tmps[38]?.getD undef = .int .i64 (k : Int) := d3
          go_simp
          exact ⟨_, rfl, rfl, (by first | exact HC | exact True.intro), Below.refl _ _⟩
        | 5 =>
          simp at hi
          subst hi
          have d4 := hd ⟨4, .data⟩ (by simp) rfl
          rw [valOf_at (d := 39) rfl] at d4
          have d4' : ac.tmps[39]?.getD undef = .pointer (some ⟨b, o + k * 3, none⟩) := d4
          rw [← hC.cell (p := ⟨b, _, none⟩) hbw] at c0 c1 c2
          go_simp
          exact ⟨_, rfl, rfl, (by first | exact HC | exact True.intro), Below.refl _ _⟩
        | 6 =>
          simp at hi
          subst hi
          have d0 := hd ⟨0, .data⟩ (by simp) rfl
          rw [valOf_at (d := 35) rfl] at d0
          have d0' : ac.tmps[35]?.getD undef = .agg #[.slice va l.length vc, .int .i64 room] := d0
          have d1 := hd ⟨1, .data⟩ (by simp) rfl
          rw [valOf_at (d := 36) rfl] at d1
          have d1' : ac.tmps[36]?.getD undef = .slice sa set.length sc := d1
          have d5 := hd ⟨5, .data⟩ (by simp) rfl
          rw [valOf_at (d := 40) rfl] at d5
          have d5' : ac.tmps[40]?.getD undef = .agg #[.int .i64 t.kind, .int .i64 t.inn, .int .i64 t.out] := d5
          go_simp
          refine (unhide HDO x hC).mono ?_
          rintro e y ⟨⟨v3, rfl, hr3⟩, b3⟩
          exact ⟨_, rfl, ⟨v3, rfl, row_down hr3 hC.size⟩, hC.trans (b3.mono hC.size), b3⟩
        | 7 =>
          simp at hi
          subst hi
          obtain ⟨u6, h6, r6⟩ := hd ⟨6, .data⟩ (by simp) rfl
          rw [valOf_at (d := 41) rfl] at h6
          have HR6 := hide r6
          clear r6
          go_simp
          exact ⟨_, rfl, ⟨u6, rfl, unhide HR6⟩, (by first | exact HC | exact True.intro), Below.refl _ _⟩
        | 8 =>
          simp at hi
          subst hi
          obtain ⟨u7, h7, r7⟩ := hd ⟨7, .data⟩ (by simp) rfl
          rw [valOf_at (d := 34) rfl] at h7
          have HR7 := hide r7
          clear r7
          go_simp
          exact ⟨_, rfl, unhide HR7, (by first | exact HC | exact True.intro), Below.refl _ _⟩
        | 9 =>
          simp at hi
          subst hi
          obtain ⟨u7, h7, r7⟩ := hd ⟨7, .data⟩ (by simp) rfl
          rw [valOf_at (d := 34) rfl] at h7
          clear r7
          go_simp
          exact ⟨_, rfl, rfl, (by first | exact HC | exact True.intro), Below.refl _ _⟩
        | 10 =>
          simp at hi
          subst hi
          have r8 := hd ⟨8, .data⟩ (by simp) rfl
          rw [valOf_at (d := 42) rfl] at r8
          have HR8 := hide r8
          clear r8
          go_simp
          exact ⟨_, rfl, unhide HR8, (by first | exact HC | exact True.intro), Below.refl _ _⟩
        | i + 11 => omega
      · intro ac w3 ha hT b3
        replace b3 := unhide b3
        have t28 : ac.tmps[43]?.getD undef = .bool ds.isSome := by have := hT 9 (by omega); rwa [valOf_at (d := 43) rfl] at this
        have r27 : RowI wo.heap.size w3 (ac.tmps[8]?.getD undef) (ds.getD []) := by have := hT 10 (by omega); rwa [valOf_at (d := 8) rfl] at this
        have hl := ha.list
        simp [slotOf, List.range_succ] at hl
        rw [hl]
        clear hl ha hT
        rw [t28]
        clear t28
        generalize ac.tmps[8]?.getD undef = u27 at r27
        rw [unhide HDS] at r27 ⊢
        simp only [Option.getD_some, Option.isSome_some] at r27 ⊢
        obtain ⟨ra, rc, hu, hset3⟩ := RowI.set r27 (by omega)
        subst hu
        have HR3 := hide r27
        have HT3 := hide hset3
        have hL3 := (unhide HLS).on b3
        have HB3 := hide ((unhide HBO).trans (b3.mono (unhide HBO).size))
        have HOLD : Hid (∀ i j, i < SS.length → (vs.getD i undef).ownBlock = some j → j < wo.heap.size) := (unhide HLS).lt
        have HS3' := hide (((unhide HS5).on (unhide HBO)).on b3)
        have hzo : w5.heap.size ≤ wo.heap.size := (unhide HBO).size
        have hz3 : wo.heap.size ≤ w3.heap.size := b3.size
        obtain ⟨za, zc, hz, _, _, _, hLA⟩ := hL3.lists (by omega) (fun i hi => by have := unhide HLN i (by have := unhide HSL; omega); omega)
        subst hz
        have HLS3 := hide hL3
        have HLA := hide hLA
        clear b3 HDO HBO HLS y0 y1 hltk hbw r27 hset3 c0 c1 c2 hL3 hLA HDS
        go_wp2_with fail
        refine (ldHas_any za SS zc ra tt rc w3 (unhide HLA) (unhide HT3)).mono ?_
        rintro e w6 ⟨rfl, b6⟩
        rw [unhide HNO]
        have HB6 := hide ((unhide HB3).trans (b6.mono (unhide HB3).size))
        have HR6 := hide (show RowI wo.heap.size w6 _ tt from ownsRow_on (unhide HR3) b6)
        have HT6 := hide ((unhide HT3).on b6)
        have HS6 := hide ((unhide HS3').on b6)
        have HLS6 := hide ((unhide HLS3).on b6)
        have hz6 := b6.size
        clear b6 HB3 HR3 HT3 HS3' HLS3 HLA HNO
        go_wp2_with fail
        refine (ldIntsZ_any ra tt rc sa set sc w6 (unhide HT6) (unhide HS6)).mono ?_
        rintro e w7 ⟨rfl, b7⟩
        rw [unhide HNS]
        have HB7 := hide ((unhide HB6).trans (b7.mono (unhide HB6).size))
        have HR7 := hide (show RowI wo.heap.size w7 _ tt from ownsRow_on (unhide HR6) b7)
        have hL7 := (unhide HLS6).on b7
        have hown7 := hL7.own
        have HOB := hide (fun j hj => (World.ownsRow.lt hown7 j hj).1)
        have hz7 := b7.size
        clear b7 HB6 HR6 HT6 HS6 HLS6 HNS
        go_wp2_with (first
          | (at_builtin; refine wpList_append_own _ rfl _ _ 47 rfl w5.heap.size 26 i0 (.slice none 0 0) 1 24 Try.underlying47 hi0 hz0 hz1 hz2 rfl (by decide) _ _ _ rfl (hown7.alloc _) ⟨w7.heap.size, 0, none⟩ 1 1 [.slice ra tt.length rc] rfl rfl ?c1 ?c2 ?c3 ?c4 ?c5 ?_))
        case c1 =>
          intro j u hj
          match j, hj with
          | 0, hj => simp at hj; subst hj; simp [Addr.add]
        case c2 => intro u hu; simp at hu; subst hu; rfl
        case c3 => unfold maxLen; omega
        case c4 => omega
        case c5 => simp; omega
        intro v' w8 hown8 hgrow _
        have bA8 := (Below.refl w7.heap.size w7).alloc (Nat.le_refl _) (.cells #[.slice ra tt.length rc] 26)
        have hL8 := LstI.snoc (r := tt) (u := .slice ra tt.length rc) (B2 := wo.heap.size) (hL7.on bA8) (ownsRow_on (unhide HR7) bA8) hzo (unhide HOLD) hown8 hgrow
        have hb8 := ((unhide HB7).alloc (by omega) (.cells #[.slice ra tt.length rc] 26)).grown hgrow (by simp; omega) (fun j hj => unhide HOB j hj)
        have HL8 := hide hL8
        have HB8 := hide hb8
        have HLN8 : Hid (∀ i, i < k + 1 → ((SS ++ [tt]).getD i []).length ≤ 300000) := fun i hi => by
          by_cases e : i < SS.length
          · have : (SS ++ [tt]).getD i [] = SS.getD i [] := by simp [List.getD, List.getElem?_append, e]
            rw [this]
            exact unhide HLN i (by have := unhide HSL; omega)
          · have e2 : i = SS.length := by have := unhide HSL; omega
            subst e2
            simp [List.getD]
            omega
        clear hL8 hb8 hown8 hgrow hL7 hown7 bA8 HLN
        go_wp2_with fail
        go_roundw
        case rel => exact ⟨k + 1, vs ++ [.slice ra tt.length rc], by omega, by go_num, by rw [unhide HSU]; exact unhide HL8, by rw [unhide HSU]; exact HLN8, HB8⟩
        case measure => simp [intOf]; omega
    · have j1 : ¬ (k : Int) < (F.length : Int) := by omega
      have HB7 := hide ((unhide HB5).trans ((unhide HBO).mono (unhide HB5).size))
      go_wp2_with fail
      go_ret
      exact ⟨by simp, unhide HB7⟩
end Go.Proofs.Ythkhaemlcmkkjad
