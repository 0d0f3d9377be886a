/- The walk of the law FnPlanFirst: of every code it answers true, and writes nothing that was there. -/
import Derived.Test.YthkhaemlcmkkjaeDrawPF
import Derived.Test.YthkhaemlcmkkjaeGPl
import Derived.Test.YthkhaemlcmkkjaeStepsA
import Derived.Test.YthkhaemlcmkkjaeGSf
import Derived.Test.YthkhaemlcmkkjaeGRf
import Derived.Test.YthkhaemlcmkkjaePfT
import Derived.Test.YthkhaemlcmkkjaeGForm
import Derived.Test.YthkhaemlcmkkjaeGSv
import Derived.Test.YthkhaemlcmkkjaeGIm
import Derived.Test.YthkhaemlcmkkjaeTupG
import Derived.Test.YthkhaemlcmkkjaeGPd
namespace Go.Proofs.Ythkhaemlcmkkjae
set_option linter.unusedVariables false
set_option linter.unusedSimpArgs false
open Go.RowKit Go.Deep

theorem from_fit {l : List PackD} {room : Int} {set dst : List Int} {P : List StepD} (h : findZ l room set dst = some P) {n : Nat} (hP : P.length = n + 1) : (fromL l room set).find? (fitS l room (setBits dst) n (setBits set)) = some (P.getD 0 dStep) := by
  obtain ⟨h1, h2, h3, _, h5⟩ := find_some h
  obtain ⟨hg, he⟩ := good_of h1
  have e : fromL l room set = fromL l room (setOf (setBits set)) := by rw [he]
  rw [e]
  rw [hP] at h5 h3
  cases hf : (fromL l room (setOf (setBits set))).find? (fitS l room (setBits dst) n (setBits set)) with
  | none =>
    obtain ⟨m, hm⟩ := dist_step hg h3
    rw [find_from hg, hm] at hf
    cases hf
  | some st =>
    obtain ⟨t, _, _, h6⟩ := planTo_fit hg hf
    rw [h5, h6]
    rfl
theorem find_before {α : Type} (p : α → Bool) (d : α) : ∀ (L : List α) (x : α), L.find? p = some x → ∀ k, k < L.length → (∀ j, j ≤ k → L.getD j d ≠ x) → p (L.getD k d) = false
  | [], x, h, k, hk, _ => by simp at hk
  | y :: L, x, h, k, hk, hne => by
    rw [List.find?_cons] at h
    cases hp : p y with
    | true =>
      rw [hp] at h
      simp only [Option.some.injEq] at h
      exact absurd h (hne 0 (by omega))
    | false =>
      rw [hp] at h
      cases k with
      | zero => exact hp
      | succ k => exact find_before p d L x h k (by simpa using hk) (fun j hj => hne (j + 1) (by omega))
/-- A step ahead of a plan's first one lets no fewer lack. -/
theorem first_best {l : List PackD} {room : Int} {set dst : List Int} {P : List StepD} (h : findZ l room set dst = some P) (hP : 0 < P.length) (k : Nat) (hk : k < (fromL l room set).length) (hne : ∀ j, j ≤ k → (fromL l room set).getD j dStep ≠ P.getD 0 dStep) :
    ∃ x, implDo l room set ((fromL l room set).getD k dStep) = some x ∧ x.length ≤ 8 ∧ ∀ R, findZ l room x dst = some R → P.length ≤ R.length := by
  obtain ⟨n, hn⟩ : ∃ n, P.length = n + 1 := ⟨P.length - 1, by omega⟩
  have hfit := find_before _ dStep _ _ (from_fit h hn) k hk hne
  obtain ⟨h1, h2, h3, _, h5⟩ := find_some h
  obtain ⟨hg, he⟩ := good_of h1
  have hm := getD_mem (d := dStep) hk
  obtain ⟨x, hx⟩ := Option.isSome_iff_exists.1 (List.mem_filter.1 hm).2
  generalize (fromL l room set).getD k dStep = st at hfit hx
  have hx' := hx
  rw [← he] at hx'
  obtain ⟨t, rfl, hgt, hts⟩ := do_succ hg hx'
  refine ⟨setOf t, hx, by unfold setOf intsOf; rw [List.length_map]; exact places_le _ _, fun R hR => ?_⟩
  have hd := (find_some hR).2.2.1
  rw [hgt.bits] at hd
  unfold fitS at hfit
  rw [hx', Option.getD_some, hgt.bits, hd, decide_eq_false_iff_not] at hfit
  have hst := ((dist_iff t (setBits dst) R.length).1 hd).1
  have h6 := ((dist_iff (setBits set) (setBits dst) P.length).1 h3).2
  rcases Nat.lt_or_ge (R.length + 1) P.length with hlt | hge
  · exact absurd (steps_cons hts hst) (h6 _ hlt)
  · omega
set_option maxRecDepth 100000 in
set_option maxHeartbeats 8000000 in
theorem planfirst_law (a : Option Addr) (n c : Nat) (w : World) (h : CodeAt w.heap.size w a n) (hc : n ≤ c) (hc2 : c ≤ maxLen) :
    Calls Try.prog 4 #[.slice a n c] w fun e w' => e = .returned (.bool true) ∧ Below w.heap.size w w' := by
  have hmx := hc2
  unfold maxLen at hmx
  by_cases hbig : 1048576 < n
  · have hb' : (1048576 : Int) < (n : Int) := by omega
    go_enter Try.func4, Try.ntmps4
    go_wp2_with fail
    go_ret
    exact ⟨rfl, Below.refl _ _⟩
  have hb' : ¬ (1048576 : Int) < (n : Int) := by omega
  go_enter Try.func4, Try.ntmps4
  go_wp2_with fail
  refine (DrawPlanFind_V a n c w h (by omega) hc hc2).mono ?_
  rintro e w1 ⟨⟨v, room, u, tv, rfl, hV, ⟨set, hrow, hsl⟩, ⟨too, hrow2, hsl2⟩⟩, b1⟩
  obtain ⟨va, vn, vc, rfl, _⟩ := SlBy.slice hV
  obtain ⟨l, rfl, hP⟩ := V2.packs hV
  obtain ⟨sa, sc, hu, hset⟩ := RowI.set hrow (by omega)
  subst hu
  obtain ⟨ta, tc, hu2, hset2⟩ := RowI.set hrow2 (by omega)
  subst hu2
  have HSC : Hid (sa = none → sc = 0) := row_cap0 hrow
  have HTC : Hid (ta = none → tc = 0) := row_cap0 hrow2
  have HC1 := hide (V2.caps hV hP)
  have HP1 := hide hP
  have HS1 := hide hset
  have HT1 := hide hset2
  have HB1 := hide b1
  clear hV hrow hP hset b1 h hrow2 hset2
  go_upto_region 4 with fail
  obtain ⟨w2, hw2⟩ : ∃ w2, w2 = w1.alloc (.cells #[.slice va l.length vc, .int .i64 room] 25) := ⟨_, rfl⟩
  rw [← hw2]
  have b2 : Below w1.heap.size w1 w2 := by rw [hw2]; exact (Below.refl _ _).alloc (Nat.le_refl _) _
  have x0 : w2.cell? ⟨w1.heap.size, 0, none⟩ = some (.slice va l.length vc) := by rw [hw2]; simp
  have x1 : w2.cell? ⟨w1.heap.size, 1, none⟩ = some (.int .i64 room) := by rw [hw2]; simp
  have hlt2 : w1.heap.size < w2.heap.size := by rw [hw2]; simp
  have HP2 := hide ((unhide HP1).on b2)
  have HS2 := hide ((unhide HS1).on b2)
  have HC2 := hide ((unhide HC1).on b2)
  have HT2 := hide ((unhide HT1).on b2)
  have HB2 := hide ((unhide HB1).trans (b2.mono (unhide HB1).size))
  clear hw2 b2 HP1 HS1 HB1 HC1 HT1
  obtain ⟨od, hod⟩ : ∃ od, od = findZ l room set too := ⟨_, rfl⟩
  have hpl : (od.getD []).length ≤ 300 := by rw [hod]; exact find_len
  have HOD := hide hod
  have HC3X := hide (specPlanFind_any va l vc room sa set sc ta too tc w2 (unhide HP2) (unhide HC2) (unhide HS2) (unhide HSC) (unhide HT2))
  rw [← hod] at HC3X
  have HC4X := hide (fun x (hx : Below w2.heap.size w2 x) => implPlanFind_any va l vc room sa set sc ta too tc x ((unhide HP2).on hx) ((unhide HS2).on hx) ((unhide HT2).on hx))
  rw [← hod] at HC4X
  clear hod
  go_wp2_with fail
  refine (unhide HC3X).mono ?_
  rintro e w3 ⟨⟨v3, rfl, hr3⟩, b3⟩
  obtain ⟨pa, pc, hv3, _, _, hW3⟩ := StepsAt.of_row hr3 (by omega)
  subst hv3
  have HW3 := hide hW3
  have HC4b := hide (unhide HC4X w3 b3)
  have HP3 := hide ((unhide HP2).on b3)
  have HS3 := hide ((unhide HS2).on b3)
  have HC3 := hide ((unhide HC2).on b3)
  have HT3 := hide ((unhide HT2).on b3)
  have HB3 := hide ((unhide HB2).trans (b3.mono (unhide HB2).size))
  have hlt3 : w1.heap.size < w3.heap.size := Nat.lt_of_lt_of_le hlt2 b3.size
  rw [← b3.cell (p := ⟨w1.heap.size, _, none⟩) hlt2] at x0 x1
  clear HB2 b3 hlt2 HP2 HS2 HC2 HT2
  clear hr3 hW3 HC3X HC4X
  go_wp2_with fail
  refine (unhide HC4b).mono ?_
  rintro e w4 ⟨⟨v4, rfl, hr4⟩, b4⟩
  obtain ⟨ka, kc, hv4, hkl, hkm, hK4⟩ := StepsAt.of_row hr4 (by omega)
  subst hv4
  have HK4 := hide hK4
  have HKO4 := hide hr4
  have HP4 := hide ((unhide HP3).on b4)
  have HS4 := hide ((unhide HS3).on b4)
  have HC4 := hide ((unhide HC3).on b4)
  have HT4 := hide ((unhide HT3).on b4)
  have HW4 := hide ((unhide HW3).on b4)
  have HB4 := hide ((unhide HB3).trans (b4.mono (unhide HB3).size))
  have hlt4 : w1.heap.size < w4.heap.size := Nat.lt_of_lt_of_le hlt3 b4.size
  rw [← b4.cell (p := ⟨w1.heap.size, _, none⟩) hlt3] at x0 x1
  clear HB3 b4 hlt3 HP3 HS3 HC3 HT3 HW3
  clear hr4 hK4 HC4b
  have HLD := hide (fun x (hx : Below w4.heap.size w4 x) => ldSteps_same ka (od.getD []) kc pa pc x ((unhide HK4).on hx) ((unhide HW4).on hx))
  cases od with
  | none =>
    clear HOD
    simp only [Option.getD_none, Option.isSome_none, List.length_nil] at HLD HK4 HW4 HKO4 hkl ⊢
    go_wp2_with fail
    refine (unhide HLD w4 (Below.refl _ _)).mono ?_
    rintro e w5 ⟨rfl, b5⟩
    have HLD5 := hide (unhide HLD w5 b5)
    have HB5 := hide ((unhide HB4).trans (b5.mono (unhide HB4).size))
    clear b5 HB4 HLD
    go_wp2_with fail
    refine (unhide HLD5).mono ?_
    rintro e w6 ⟨rfl, b6⟩
    have HB6 := hide ((unhide HB5).trans (b6.mono (unhide HB5).size))
    clear b6 HB5 HLD5
    go_wp2_with fail
    go_ret
    exact ⟨by simp, unhide HB6⟩
  | some P =>
    simp only [Option.getD_some, Option.isSome_some] at HLD HK4 HW4 HKO4 hpl hkl ⊢
    by_cases hp0 : P.length = 0
    · have hpz : ((P.length : Int) == 0) = true := by rw [beq_iff_eq]; omega
      have hpzz : (P.length : Int) = 0 := by omega
      clear HOD hp0
      go_wp2_with fail
      refine (unhide HLD w4 (Below.refl _ _)).mono ?_
      rintro e w5 ⟨rfl, b5⟩
      have HLD5 := hide (unhide HLD w5 b5)
      have HB5 := hide ((unhide HB4).trans (b5.mono (unhide HB4).size))
      clear b5 HB4 HLD
      go_wp2_with fail
      refine (unhide HLD5).mono ?_
      rintro e w6 ⟨rfl, b6⟩
      have HB6 := hide ((unhide HB5).trans (b6.mono (unhide HB5).size))
      clear b6 HB5 HLD5
      go_wp2_with fail
      go_ret
      exact ⟨by simp, unhide HB6⟩
    have hpz : ((P.length : Int) == 0) = false := by rw [beq_eq_false_iff_ne]; omega
    have hpos : 0 < P.length := by omega
    have HBEST := hide (first_best (unhide HOD).symm hpos)
    have hfew := from_few l room set
    have hsfew := stepsL_few l room
    clear hp0
    go_wp2_with fail
    refine (unhide HLD w4 (Below.refl _ _)).mono ?_
    rintro e w5 ⟨rfl, b5⟩
    have HKO5 := hide (ownsRow_on (unhide HKO4) b5)
    have HP5 := hide ((unhide HP4).on b5)
    have HS5 := hide ((unhide HS4).on b5)
    have HC5 := hide ((unhide HC4).on b5)
    have HT5 := hide ((unhide HT4).on b5)
    have HW5 := hide ((unhide HW4).on b5)
    have HK5 := hide ((unhide HK4).on b5)
    have HB5 := hide ((unhide HB4).trans (b5.mono (unhide HB4).size))
    have hlt5 : w1.heap.size < w5.heap.size := Nat.lt_of_lt_of_le hlt4 b5.size
    rw [← b5.cell (p := ⟨w1.heap.size, _, none⟩) hlt4] at x0 x1
    clear HB4 b5 hlt4 HP4 HS4 HC4 HT4 HW4 HK4
    clear HLD HKO4
    have HFS := hide (implStepFrom_any va l vc room sa set sc w5 (unhide HP5) (unhide HS5))
    clear HKO5 HOD
    go_wp2_with fail
    refine (unhide HFS).mono ?_
    rintro e w6 ⟨⟨v6, rfl, hs6⟩, b6⟩
    obtain ⟨fa, fc, hfv, _, _, hS6⟩ := StepsAt.of_row hs6 (by omega)
    subst hfv
    have HL6 := hide hS6
    have HP6 := hide ((unhide HP5).on b6)
    have HS6 := hide ((unhide HS5).on b6)
    have HC6 := hide ((unhide HC5).on b6)
    have HT6 := hide ((unhide HT5).on b6)
    have HK6 := hide ((unhide HK5).on b6)
    have HW6 := hide ((unhide HW5).on b6)
    have HB6 := hide ((unhide HB5).trans (b6.mono (unhide HB5).size))
    have hlt6 : w1.heap.size < w6.heap.size := Nat.lt_of_lt_of_le hlt5 b6.size
    rw [← b6.cell (p := ⟨w1.heap.size, _, none⟩) hlt5] at x0 x1
    clear HB5 b6 hlt5 HP5 HS5 HC5 HT5 HK5 HW5
    clear hs6 hS6 HFS HW6
    generalize fromL l room set = F at *
    rcases (unhide HK6).2 with hnil | ⟨pb, po, hka, hpl2, hprk⟩
    · rw [hnil] at hpos; simp at hpos
    subst hka
    obtain ⟨p0, p1, p2⟩ := hprk 0 hpos
    generalize P.getD 0 dStep = st at p0 p1 p2 HBEST
    obtain ⟨k2, i2, o2s⟩ := st
    simp only [Nat.zero_mul, Nat.add_zero] at p0 p1 p2
    have hposI : (0 : Int) < (P.length : Int) := by omega
    clear hprk
    go_wp2_with fail
    go_loopw [11] (fun i wr => ∃ k : Nat, k ≤ F.length ∧ i = .int .i64 k ∧ Hid (∀ j, j < k → F.getD j dStep ≠ ⟨k2, i2, o2s⟩) ∧ Hid (Below w6.heap.size w6 wr)) (fun i _ => F.length - (intOf i).toNat)
    case atStart => exact ⟨0, Nat.zero_le _, rfl, fun j hj => absurd hj (Nat.not_lt_zero _), Below.refl _ _⟩
    case round =>
      rename World => wo
      obtain ⟨k, hk, rfl, HNE, HBO⟩ := hrel
      rw [← (unhide HBO).cell (p := ⟨pb, _, none⟩) hpl2] at p0 p1 p2
      by_cases hlt : k < F.length
      · have j1 : (k : Int) < (F.length : Int) := by omega
        have j0 : (0 : Int) ≤ (k : Int) := by omega
        rcases (unhide HL6).2 with hnil | ⟨b, o, hfa, hbl, hrk⟩
        · rw [hnil] at hlt; simp at hlt
        subst hfa
        obtain ⟨c0, c1, c2⟩ := hrk k hlt
        have hbst := unhide HBEST k hlt
        obtain ⟨t, ht⟩ : ∃ t, t = F.getD k dStep := ⟨_, rfl⟩
        rw [← ht] at c0 c1 c2 hbst
        have y0 := x0
        have y1 := x1
        rw [← (unhide HBO).cell (p := ⟨w1.heap.size, _, none⟩) hlt6] at y0 y1
        rw [← (unhide HBO).cell (p := ⟨b, _, none⟩) hbl] at c0 c1 c2
        have hltk : w1.heap.size < wo.heap.size := Nat.lt_of_lt_of_le hlt6 (unhide HBO).size
        have hbw : b < wo.heap.size := Nat.lt_of_lt_of_le hbl (unhide HBO).size
        by_cases hte : t = ⟨k2, i2, o2s⟩
        · subst hte
          simp only at c0 c1 c2
          have HB7 := hide ((unhide HB6).trans ((unhide HBO).mono (unhide HB6).size))
          clear ht hrk hbst y0 y1 HBO
          go_wp2_with fail
          go_quiet (fail)
          have HB8 := hide (below_drewN' (unhide HB7) nq)
          clear HB7
          go_wp2_with fail
          go_ret
          exact ⟨by simp, unhide HB8⟩
        · have HNX : Hid (∀ j, j < k + 1 → F.getD j dStep ≠ ⟨k2, i2, o2s⟩) := fun j hj => by
            by_cases e : j = k
            · rw [e, ← ht]; exact hte
            · exact unhide HNE j (by omega)
          obtain ⟨X, hX1, hX2, hX3⟩ := hbst (fun j hj => unhide HNX j (by omega))
          have HBS : Hid (∀ o2, findZ l room X too = o2 → ∀ R, o2 = some R → P.length ≤ R.length) := fun o2 e R hR => hX3 R (e.trans hR)
          have HDO := hide (fun x (hx : Below wo.heap.size wo x) => implStepDo_any va l vc room sa set sc t x (((unhide HP6).on (unhide HBO)).on hx) (((unhide HS6).on (unhide HBO)).on hx))
          obtain ⟨ds, hds⟩ : ∃ ds, ds = some X := ⟨_, rfl⟩
          rw [hX1, ← hds] at HDO
          have HDS := hide hds
          obtain ⟨k1, i1, o1⟩ := t
          simp only at c0 c1 c2
          have hneq : ¬ (k1 = k2 ∧ i1 = i2 ∧ o1 = o2s) := fun ⟨e1, e2, e3⟩ => hte (by rw [e1, e2, e3])
          clear hrk hbst hte hX3 hds ht HNE hX1
          by_cases hk12 : k1 = k2
          · by_cases hi12 : i1 = i2
            · have ho12 : ¬ o1 = o2s := fun e => hneq ⟨hk12, hi12, e⟩
              rw [← hk12] at p0
              rw [← hi12] at p1
              clear hk12 hi12 hneq
              go_wp2_with fail
              go_quiet (fail)
              obtain ⟨wq, hwq⟩ : ∃ wq, wq = wo.drewN nq := ⟨_, rfl⟩
              have bq : Below wo.heap.size wo wq := by rw [hwq]; exact below_drewN' (Below.refl _ _) nq
              rw [← hwq]
              rw [← bq.cell (p := ⟨w1.heap.size, _, none⟩) hltk] at y0 y1
              rw [← bq.cell (p := ⟨b, _, none⟩) hbw] at c0 c1 c2
              have hltq : w1.heap.size < wq.heap.size := Nat.lt_of_lt_of_le hltk bq.size
              have hbq : b < wq.heap.size := Nat.lt_of_lt_of_le hbw bq.size
              have HBQ := hide ((unhide HBO).trans (bq.mono (unhide HBO).size))
              have HDQ := hide (fun x (hx : Below wq.heap.size wq x) => unhide HDO x (bq.trans (hx.mono bq.size)))
              clear hwq bq HDO HBO
              go_upto_region 12 with fail
              refine wp_region_headE 11 (by kernel_rfl) (by kernel_rfl) (by kernel_rfl) (by kernel_rfl) (by kernel_rfl) (TG (.agg #[.slice va l.length vc, .int .i64 room]) (.slice sa set.length sc) (.slice (some ⟨b, o, none⟩) F.length fc) (.pointer (some ⟨b, o + k * 3, none⟩)) (.agg #[.int .i64 k1, .int .i64 i1, .int .i64 o1]) (k : Int) wq.heap.size ds) (fun _ x => Hid (Below wq.heap.size wq x)) (fun x y => Below x.heap.size x y) (fun i v x y h hb => TG_on h hb) (Below.refl _ _).drew ?_ ?_
              · intro i oo him hi ac x n hn ha HC hd
                have hC := unhide HC
                match i with
                | 0 =>
                  simp at hi
                  subst hi
                  have e3 : ac.tmps[3]? = some (.pointer (some ⟨w1.heap.size, 0, none⟩)) := (ha.slot 3 (slots_no (by kernel_rfl))).trans rfl
                  rw [← hC.cell (p := ⟨w1.heap.size, _, none⟩) hltq] at y0 y1
                  go_simp
                  exact ⟨_, rfl, rfl, (by first | exact HC | exact True.intro), Below.refl _ _⟩
                | 1 =>
                  simp at hi
                  subst hi
                  have e4 : ac.tmps[4]? = some (.slice sa set.length sc) := (ha.slot 4 (slots_no (by kernel_rfl))).trans rfl
                  go_simp
                  exact ⟨_, rfl, rfl, (by first | exact HC | exact True.intro), Below.refl _ _⟩
                | 2 =>
                  simp at hi
                  subst hi
                  have e10 : ac.tmps[10]? = some (.slice (some ⟨b, o, none⟩) F.length fc) := (ha.slot 10 (slots_no (by kernel_rfl))).trans rfl
                  go_simp
                  exact ⟨_, rfl, rfl, (by first | exact HC | exact True.intro), Below.refl _ _⟩
                | 3 =>
                  simp at hi
                  subst hi
                  have e11 : ac.tmps[11]? = some (.int .i64 (k : Int)) := (ha.slot 11 (slots_no (by kernel_rfl))).trans rfl
                  go_simp
                  exact ⟨_, rfl, rfl, (by first | exact HC | exact True.intro), Below.refl _ _⟩
                | 4 =>
                  simp at hi
                  subst hi
                  have d2 := hd ⟨2, .data⟩ (by simp) rfl
                  rw [valOf_at (d := 87) rfl] at d2
                  have d2' : ac.tmps[87]?.getD undef = .slice (some ⟨b, o, none⟩) F.length fc := d2
                  have d3 := hd ⟨3, .data⟩ (by simp) rfl
                  rw [valOf_at (d := 88) rfl] at d3
                  have d3' : ac.tmps[88]?.getD undef = .int .i64 (k : Int) := d3
                  go_simp
                  exact ⟨_, rfl, rfl, (by first | exact HC | exact True.intro), Below.refl _ _⟩
                | 5 =>
                  simp at hi
                  subst hi
                  have d4 := hd ⟨4, .data⟩ (by simp) rfl
                  rw [valOf_at (d := 89) rfl] at d4
                  have d4' : ac.tmps[89]?.getD undef = .pointer (some ⟨b, o + k * 3, none⟩) := d4
                  rw [← hC.cell (p := ⟨b, _, none⟩) hbq] at c0 c1 c2
                  go_simp
                  exact ⟨_, rfl, rfl, (by first | exact HC | exact True.intro), Below.refl _ _⟩
                | 6 =>
                  simp at hi
                  subst hi
                  have d0 := hd ⟨0, .data⟩ (by simp) rfl
                  rw [valOf_at (d := 85) rfl] at d0
                  have d0' : ac.tmps[85]?.getD undef = .agg #[.slice va l.length vc, .int .i64 room] := d0
                  have d1 := hd ⟨1, .data⟩ (by simp) rfl
                  rw [valOf_at (d := 86) rfl] at d1
                  have d1' : ac.tmps[86]?.getD undef = .slice sa set.length sc := d1
                  have d5 := hd ⟨5, .data⟩ (by simp) rfl
                  rw [valOf_at (d := 90) rfl] at d5
                  have d5' : ac.tmps[90]?.getD undef = .agg #[.int .i64 k1, .int .i64 i1, .int .i64 o1] := d5
                  go_simp
                  refine (unhide HDQ x hC).mono ?_
                  rintro e y ⟨⟨v3, rfl, hr3⟩, b3⟩
                  exact ⟨_, rfl, ⟨v3, rfl, row_down hr3 hC.size⟩, hC.trans (b3.mono hC.size), b3⟩
                | 7 =>
                  simp at hi
                  subst hi
                  obtain ⟨u6, h6, r6⟩ := hd ⟨6, .data⟩ (by simp) rfl
                  rw [valOf_at (d := 91) rfl] at h6
                  have HR6 := hide r6
                  clear r6
                  go_simp
                  exact ⟨_, rfl, ⟨u6, rfl, unhide HR6⟩, (by first | exact HC | exact True.intro), Below.refl _ _⟩
                | 8 =>
                  simp at hi
                  subst hi
                  obtain ⟨u7, h7, r7⟩ := hd ⟨7, .data⟩ (by simp) rfl
                  rw [valOf_at (d := 84) rfl] at h7
                  have HR7 := hide r7
                  clear r7
                  go_simp
                  exact ⟨_, rfl, unhide HR7, (by first | exact HC | exact True.intro), Below.refl _ _⟩
                | 9 =>
                  simp at hi
                  subst hi
                  obtain ⟨u7, h7, r7⟩ := hd ⟨7, .data⟩ (by simp) rfl
                  rw [valOf_at (d := 84) rfl] at h7
                  clear r7
                  go_simp
                  exact ⟨_, rfl, rfl, (by first | exact HC | exact True.intro), Below.refl _ _⟩
                | 10 =>
                  simp at hi
                  subst hi
                  have r8 := hd ⟨8, .data⟩ (by simp) rfl
                  rw [valOf_at (d := 92) rfl] at r8
                  have HR8 := hide r8
                  clear r8
                  go_simp
                  exact ⟨_, rfl, unhide HR8, (by first | exact HC | exact True.intro), Below.refl _ _⟩
                | i + 11 => omega
              · intro ac w3 ha hT b3
                replace b3 := unhide b3
                have t28 : ac.tmps[93]?.getD undef = .bool ds.isSome := by have := hT 9 (by omega); rwa [valOf_at (d := 93) rfl] at this
                have r27 : RowI wq.heap.size w3 (ac.tmps[12]?.getD undef) (ds.getD []) := by have := hT 10 (by omega); rwa [valOf_at (d := 12) rfl] at this
                have hl := ha.list
                simp [slotOf, List.range_succ] at hl
                rw [hl]
                clear hl ha hT
                rw [t28]
                clear t28
                generalize ac.tmps[12]?.getD undef = u27 at r27
                rw [unhide HDS] at r27 ⊢
                simp only [Option.getD_some, Option.isSome_some] at r27 ⊢
                obtain ⟨ra, rc, hu, hset3⟩ := RowI.set r27 (by omega)
                subst hu
                have HB3 := hide ((unhide HBQ).trans (b3.mono (unhide HBQ).size))
                rw [← b3.cell (p := ⟨w1.heap.size, _, none⟩) hltq] at y0 y1
                have HPF := hide (implPlanFind_any va l vc room ra X rc ta too tc w3 ((unhide HP6).on (unhide HB3)) hset3 ((unhide HT6).on (unhide HB3)))
                clear b3 HDQ HBQ r27 hset3 c0 c1 c2 hltq hbq HDS
                obtain ⟨o2, ho2⟩ : ∃ o2, o2 = findZ l room X too := ⟨_, rfl⟩
                rw [← ho2] at HPF
                have HBB := hide (unhide HBS _ ho2.symm)
                clear ho2
                go_wp2_with fail
                refine (unhide HPF).mono ?_
                rintro e w7 ⟨⟨v7, rfl, hr7⟩, b7⟩
                have HB7 := hide ((unhide HB3).trans (b7.mono (unhide HB3).size))
                obtain ⟨xa, xc, hxv⟩ : ∃ xa xc, v7 = .slice xa (o2.getD []).length xc := by
                  rcases hr7.2 with ⟨hv, h0⟩ | ⟨g, cap, cur, hv, _⟩
                  · exact ⟨none, 0, by rw [hv, h0]⟩
                  · exact ⟨_, _, hv⟩
                subst hxv
                clear b7 hr7 HB3 HPF y0 y1
                cases o2 with
                | none =>
                  clear HBB
                  simp only [Option.getD_none, Option.isSome_none, List.length_nil]
                  go_wp2_with fail
                  go_roundw
                  case rel => exact ⟨k + 1, by omega, by go_num, unhide HNX, unhide HB7⟩
                  case measure => simp [intOf]; omega
                | some R =>
                  have hRl : ¬ (R.length : Int) < (P.length : Int) := by have := unhide HBB R rfl; omega
                  clear HBB
                  simp only [Option.getD_some, Option.isSome_some]
                  go_wp2_with fail
                  go_roundw
                  case rel => exact ⟨k + 1, by omega, by go_num, unhide HNX, unhide HB7⟩
                  case measure => simp [intOf]; omega
            · rw [← hk12] at p0
              clear hk12 hneq
              go_wp2_with fail
              go_quiet (fail)
              obtain ⟨wq, hwq⟩ : ∃ wq, wq = wo.drewN nq := ⟨_, rfl⟩
              have bq : Below wo.heap.size wo wq := by rw [hwq]; exact below_drewN' (Below.refl _ _) nq
              rw [← hwq]
              rw [← bq.cell (p := ⟨w1.heap.size, _, none⟩) hltk] at y0 y1
              rw [← bq.cell (p := ⟨b, _, none⟩) hbw] at c0 c1 c2
              have hltq : w1.heap.size < wq.heap.size := Nat.lt_of_lt_of_le hltk bq.size
              have hbq : b < wq.heap.size := Nat.lt_of_lt_of_le hbw bq.size
              have HBQ := hide ((unhide HBO).trans (bq.mono (unhide HBO).size))
              have HDQ := hide (fun x (hx : Below wq.heap.size wq x) => unhide HDO x (bq.trans (hx.mono bq.size)))
              clear hwq bq HDO HBO
              go_upto_region 12 with fail
              refine wp_region_headE 11 (by kernel_rfl) (by kernel_rfl) (by kernel_rfl) (by kernel_rfl) (by kernel_rfl) (TG (.agg #[.slice va l.length vc, .int .i64 room]) (.slice sa set.length sc) (.slice (some ⟨b, o, none⟩) F.length fc) (.pointer (some ⟨b, o + k * 3, none⟩)) (.agg #[.int .i64 k1, .int .i64 i1, .int .i64 o1]) (k : Int) wq.heap.size ds) (fun _ x => Hid (Below wq.heap.size wq x)) (fun x y => Below x.heap.size x y) (fun i v x y h hb => TG_on h hb) (Below.refl _ _).drew ?_ ?_
              · intro i oo him hi ac x n hn ha HC hd
                have hC := unhide HC
                match i with
                | 0 =>
                  simp at hi
                  subst hi
                  have e3 : ac.tmps[3]? = some (.pointer (some ⟨w1.heap.size, 0, none⟩)) := (ha.slot 3 (slots_no (by kernel_rfl))).trans rfl
                  rw [← hC.cell (p := ⟨w1.heap.size, _, none⟩) hltq] at y0 y1
                  go_simp
                  exact ⟨_, rfl, rfl, (by first | exact HC | exact True.intro), Below.refl _ _⟩
                | 1 =>
                  simp at hi
                  subst hi
                  have e4 : ac.tmps[4]? = some (.slice sa set.length sc) := (ha.slot 4 (slots_no (by kernel_rfl))).trans rfl
                  go_simp
                  exact ⟨_, rfl, rfl, (by first | exact HC | exact True.intro), Below.refl _ _⟩
                | 2 =>
                  simp at hi
                  subst hi
                  have e10 : ac.tmps[10]? = some (.slice (some ⟨b, o, none⟩) F.length fc) := (ha.slot 10 (slots_no (by kernel_rfl))).trans rfl
                  go_simp
                  exact ⟨_, rfl, rfl, (by first | exact HC | exact True.intro), Below.refl _ _⟩
                | 3 =>
                  simp at hi
                  subst hi
                  have e11 : ac.tmps[11]? = some (.int .i64 (k : Int)) := (ha.slot 11 (slots_no (by kernel_rfl))).trans rfl
                  go_simp
                  exact ⟨_, rfl, rfl, (by first | exact HC | exact True.intro), Below.refl _ _⟩
                | 4 =>
                  simp at hi
                  subst hi
                  have d2 := hd ⟨2, .data⟩ (by simp) rfl
                  rw [valOf_at (d := 87) rfl] at d2
                  have d2' : ac.tmps[87]?.getD undef = .slice (some ⟨b, o, none⟩) F.length fc := d2
                  have d3 := hd ⟨3, .data⟩ (by simp) rfl
                  rw [valOf_at (d := 88) rfl] at d3
                  have d3' : ac.tmps[88]?.getD undef = .int .i64 (k : Int) := d3
                  go_simp
                  exact ⟨_, rfl, rfl, (by first | exact HC | exact True.intro), Below.refl _ _⟩
                | 5 =>
                  simp at hi
                  subst hi
                  have d4 := hd ⟨4, .data⟩ (by simp) rfl
                  rw [valOf_at (d := 89) rfl] at d4
                  have d4' : ac.tmps[89]?.getD undef = .pointer (some ⟨b, o + k * 3, none⟩) := d4
                  rw [← hC.cell (p := ⟨b, _, none⟩) hbq] at c0 c1 c2
                  go_simp
                  exact ⟨_, rfl, rfl, (by first | exact HC | exact True.intro), Below.refl _ _⟩
                | 6 =>
                  simp at hi
                  subst hi
                  have d0 := hd ⟨0, .data⟩ (by simp) rfl
                  rw [valOf_at (d := 85) rfl] at d0
                  have d0' : ac.tmps[85]?.getD undef = .agg #[.slice va l.length vc, .int .i64 room] := d0
                  have d1 := hd ⟨1, .data⟩ (by simp) rfl
                  rw [valOf_at (d := 86) rfl] at d1
                  have d1' : ac.tmps[86]?.getD undef = .slice sa set.length sc := d1
                  have d5 := hd ⟨5, .data⟩ (by simp) rfl
                  rw [valOf_at (d := 90) rfl] at d5
                  have d5' : ac.tmps[90]?.getD undef = .agg #[.int .i64 k1, .int .i64 i1, .int .i64 o1] := d5
                  go_simp
                  refine (unhide HDQ x hC).mono ?_
                  rintro e y ⟨⟨v3, rfl, hr3⟩, b3⟩
                  exact ⟨_, rfl, ⟨v3, rfl, row_down hr3 hC.size⟩, hC.trans (b3.mono hC.size), b3⟩
                | 7 =>
                  simp at hi
                  subst hi
                  obtain ⟨u6, h6, r6⟩ := hd ⟨6, .data⟩ (by simp) rfl
                  rw [valOf_at (d := 91) rfl] at h6
                  have HR6 := hide r6
                  clear r6
                  go_simp
                  exact ⟨_, rfl, ⟨u6, rfl, unhide HR6⟩, (by first | exact HC | exact True.intro), Below.refl _ _⟩
                | 8 =>
                  simp at hi
                  subst hi
                  obtain ⟨u7, h7, r7⟩ := hd ⟨7, .data⟩ (by simp) rfl
                  rw [valOf_at (d := 84) rfl] at h7
                  have HR7 := hide r7
                  clear r7
                  go_simp
                  exact ⟨_, rfl, unhide HR7, (by first | exact HC | exact True.intro), Below.refl _ _⟩
                | 9 =>
                  simp at hi
                  subst hi
                  obtain ⟨u7, h7, r7⟩ := hd ⟨7, .data⟩ (by simp) rfl
                  rw [valOf_at (d := 84) rfl] at h7
                  clear r7
                  go_simp
                  exact ⟨_, rfl, rfl, (by first | exact HC | exact True.intro), Below.refl _ _⟩
                | 10 =>
                  simp at hi
                  subst hi
                  have r8 := hd ⟨8, .data⟩ (by simp) rfl
                  rw [valOf_at (d := 92) rfl] at r8
                  have HR8 := hide r8
                  clear r8
                  go_simp
                  exact ⟨_, rfl, unhide HR8, (by first | exact HC | exact True.intro), Below.refl _ _⟩
                | i + 11 => omega
              · intro ac w3 ha hT b3
                replace b3 := unhide b3
                have t28 : ac.tmps[93]?.getD undef = .bool ds.isSome := by have := hT 9 (by omega); rwa [valOf_at (d := 93) rfl] at this
                have r27 : RowI wq.heap.size w3 (ac.tmps[12]?.getD undef) (ds.getD []) := by have := hT 10 (by omega); rwa [valOf_at (d := 12) rfl] at this
                have hl := ha.list
                simp [slotOf, List.range_succ] at hl
                rw [hl]
                clear hl ha hT
                rw [t28]
                clear t28
                generalize ac.tmps[12]?.getD undef = u27 at r27
                rw [unhide HDS] at r27 ⊢
                simp only [Option.getD_some, Option.isSome_some] at r27 ⊢
                obtain ⟨ra, rc, hu, hset3⟩ := RowI.set r27 (by omega)
                subst hu
                have HB3 := hide ((unhide HBQ).trans (b3.mono (unhide HBQ).size))
                rw [← b3.cell (p := ⟨w1.heap.size, _, none⟩) hltq] at y0 y1
                have HPF := hide (implPlanFind_any va l vc room ra X rc ta too tc w3 ((unhide HP6).on (unhide HB3)) hset3 ((unhide HT6).on (unhide HB3)))
                clear b3 HDQ HBQ r27 hset3 c0 c1 c2 hltq hbq HDS
                obtain ⟨o2, ho2⟩ : ∃ o2, o2 = findZ l room X too := ⟨_, rfl⟩
                rw [← ho2] at HPF
                have HBB := hide (unhide HBS _ ho2.symm)
                clear ho2
                go_wp2_with fail
                refine (unhide HPF).mono ?_
                rintro e w7 ⟨⟨v7, rfl, hr7⟩, b7⟩
                have HB7 := hide ((unhide HB3).trans (b7.mono (unhide HB3).size))
                obtain ⟨xa, xc, hxv⟩ : ∃ xa xc, v7 = .slice xa (o2.getD []).length xc := by
                  rcases hr7.2 with ⟨hv, h0⟩ | ⟨g, cap, cur, hv, _⟩
                  · exact ⟨none, 0, by rw [hv, h0]⟩
                  · exact ⟨_, _, hv⟩
                subst hxv
                clear b7 hr7 HB3 HPF y0 y1
                cases o2 with
                | none =>
                  clear HBB
                  simp only [Option.getD_none, Option.isSome_none, List.length_nil]
                  go_wp2_with fail
                  go_roundw
                  case rel => exact ⟨k + 1, by omega, by go_num, unhide HNX, unhide HB7⟩
                  case measure => simp [intOf]; omega
                | some R =>
                  have hRl : ¬ (R.length : Int) < (P.length : Int) := by have := unhide HBB R rfl; omega
                  clear HBB
                  simp only [Option.getD_some, Option.isSome_some]
                  go_wp2_with fail
                  go_roundw
                  case rel => exact ⟨k + 1, by omega, by go_num, unhide HNX, unhide HB7⟩
                  case measure => simp [intOf]; omega
          · clear hneq
            go_wp2_with fail
            go_quiet (fail)
            obtain ⟨wq, hwq⟩ : ∃ wq, wq = wo.drewN nq := ⟨_, rfl⟩
            have bq : Below wo.heap.size wo wq := by rw [hwq]; exact below_drewN' (Below.refl _ _) nq
            rw [← hwq]
            rw [← bq.cell (p := ⟨w1.heap.size, _, none⟩) hltk] at y0 y1
            rw [← bq.cell (p := ⟨b, _, none⟩) hbw] at c0 c1 c2
            have hltq : w1.heap.size < wq.heap.size := Nat.lt_of_lt_of_le hltk bq.size
            have hbq : b < wq.heap.size := Nat.lt_of_lt_of_le hbw bq.size
            have HBQ := hide ((unhide HBO).trans (bq.mono (unhide HBO).size))
            have HDQ := hide (fun x (hx : Below wq.heap.size wq x) => unhide HDO x (bq.trans (hx.mono bq.size)))
            clear hwq bq HDO HBO
            go_upto_region 12 with fail
            refine wp_region_headE 11 (by kernel_rfl) (by kernel_rfl) (by kernel_rfl) (by kernel_rfl) (by kernel_rfl) (TG (.agg #[.slice va l.length vc, .int .i64 room]) (.slice sa set.length sc) (.slice (some ⟨b, o, none⟩) F.length fc) (.pointer (some ⟨b, o + k * 3, none⟩)) (.agg #[.int .i64 k1, .int .i64 i1, .int .i64 o1]) (k : Int) wq.heap.size ds) (fun _ x => Hid (Below wq.heap.size wq x)) (fun x y => Below x.heap.size x y) (fun i v x y h hb => TG_on h hb) (Below.refl _ _).drew ?_ ?_
            · intro i oo him hi ac x n hn ha HC hd
              have hC := unhide HC
              match i with
              | 0 =>
                simp at hi
                subst hi
                have e3 : ac.tmps[3]? = some (.pointer (some ⟨w1.heap.size, 0, none⟩)) := (ha.slot 3 (slots_no (by kernel_rfl))).trans rfl
                rw [← hC.cell (p := ⟨w1.heap.size, _, none⟩) hltq] at y0 y1
                go_simp
                exact ⟨_, rfl, rfl, (by first | exact HC | exact True.intro), Below.refl _ _⟩
              | 1 =>
                simp at hi
                subst hi
                have e4 : ac.tmps[4]? = some (.slice sa set.length sc) := (ha.slot 4 (slots_no (by kernel_rfl))).trans rfl
                go_simp
                exact ⟨_, rfl, rfl, (by first | exact HC | exact True.intro), Below.refl _ _⟩
              | 2 =>
                simp at hi
                subst hi
                have e10 : ac.tmps[10]? = some (.slice (some ⟨b, o, none⟩) F.length fc) := (ha.slot 10 (slots_no (by kernel_rfl))).trans rfl
                go_simp
                exact ⟨_, rfl, rfl, (by first | exact HC | exact True.intro), Below.refl _ _⟩
              | 3 =>
                simp at hi
                subst hi
                have e11 : ac.tmps[11]? = some (.int .i64 (k : Int)) := (ha.slot 11 (slots_no (by kernel_rfl))).trans rfl
                go_simp
                exact ⟨_, rfl, rfl, (by first | exact HC | exact True.intro), Below.refl _ _⟩
              | 4 =>
                simp at hi
                subst hi
                have d2 := hd ⟨2, .data⟩ (by simp) rfl
                rw [valOf_at (d := 87) rfl] at d2
                have d2' : ac.tmps[87]?.getD undef = .slice (some ⟨b, o, none⟩) F.length fc := d2
                have d3 := hd ⟨3, .data⟩ (by simp) rfl
                rw [valOf_at (d := 88) rfl] at d3
                have d3' : ac.tmps[88]?.getD undef = .int .i64 (k : Int) := d3
                go_simp
                exact ⟨_, rfl, rfl, (by first | exact HC | exact True.intro), Below.refl _ _⟩
              | 5 =>
                simp at hi
                subst hi
                have d4 := hd ⟨4, .data⟩ (by simp) rfl
                rw [valOf_at (d := 89) rfl] at d4
                have d4' : ac.tmps[89]?.getD undef = .pointer (some ⟨b, o + k * 3, none⟩) := d4
                rw [← hC.cell (p := ⟨b, _, none⟩) hbq] at c0 c1 c2
                go_simp
                exact ⟨_, rfl, rfl, (by first | exact HC | exact True.intro), Below.refl _ _⟩
              | 6 =>
                simp at hi
                subst hi
                have d0 := hd ⟨0, .data⟩ (by simp) rfl
                rw [valOf_at (d := 85) rfl] at d0
                have d0' : ac.tmps[85]?.getD undef = .agg #[.slice va l.length vc, .int .i64 room] := d0
                have d1 := hd ⟨1, .data⟩ (by simp) rfl
                rw [valOf_at (d := 86) rfl] at d1
                have d1' : ac.tmps[86]?.getD undef = .slice sa set.length sc := d1
                have d5 := hd ⟨5, .data⟩ (by simp) rfl
                rw [valOf_at (d := 90) rfl] at d5
                have d5' : ac.tmps[90]?.getD undef = .agg #[.int .i64 k1, .int .i64 i1, .int .i64 o1] := d5
                go_simp
                refine (unhide HDQ x hC).mono ?_
                rintro e y ⟨⟨v3, rfl, hr3⟩, b3⟩
                exact ⟨_, rfl, ⟨v3, rfl, row_down hr3 hC.size⟩, hC.trans (b3.mono hC.size), b3⟩
              | 7 =>
                simp at hi
                subst hi
                obtain ⟨u6, h6, r6⟩ := hd ⟨6, .data⟩ (by simp) rfl
                rw [valOf_at (d := 91) rfl] at h6
                have HR6 := hide r6
                clear r6
                go_simp
                exact ⟨_, rfl, ⟨u6, rfl, unhide HR6⟩, (by first | exact HC | exact True.intro), Below.refl _ _⟩
              | 8 =>
                simp at hi
                subst hi
                obtain ⟨u7, h7, r7⟩ := hd ⟨7, .data⟩ (by simp) rfl
                rw [valOf_at (d := 84) rfl] at h7
                have HR7 := hide r7
                clear r7
                go_simp
                exact ⟨_, rfl, unhide HR7, (by first | exact HC | exact True.intro), Below.refl _ _⟩
              | 9 =>
                simp at hi
                subst hi
                obtain ⟨u7, h7, r7⟩ := hd ⟨7, .data⟩ (by simp) rfl
                rw [valOf_at (d := 84) rfl] at h7
                clear r7
                go_simp
                exact ⟨_, rfl, rfl, (by first | exact HC | exact True.intro), Below.refl _ _⟩
              | 10 =>
                simp at hi
                subst hi
                have r8 := hd ⟨8, .data⟩ (by simp) rfl
                rw [valOf_at (d := 92) rfl] at r8
                have HR8 := hide r8
                clear r8
                go_simp
                exact ⟨_, rfl, unhide HR8, (by first | exact HC | exact True.intro), Below.refl _ _⟩
              | i + 11 => omega
            · intro ac w3 ha hT b3
              replace b3 := unhide b3
              have t28 : ac.tmps[93]?.getD undef = .bool ds.isSome := by have := hT 9 (by omega); rwa [valOf_at (d := 93) rfl] at this
              have r27 : RowI wq.heap.size w3 (ac.tmps[12]?.getD undef) (ds.getD []) := by have := hT 10 (by omega); rwa [valOf_at (d := 12) rfl] at this
              have hl := ha.list
              simp [slotOf, List.range_succ] at hl
              rw [hl]
              clear hl ha hT
              rw [t28]
              clear t28
              generalize ac.tmps[12]?.getD undef = u27 at r27
              rw [unhide HDS] at r27 ⊢
              simp only [Option.getD_some, Option.isSome_some] at r27 ⊢
              obtain ⟨ra, rc, hu, hset3⟩ := RowI.set r27 (by omega)
              subst hu
              have HB3 := hide ((unhide HBQ).trans (b3.mono (unhide HBQ).size))
              rw [← b3.cell (p := ⟨w1.heap.size, _, none⟩) hltq] at y0 y1
              have HPF := hide (implPlanFind_any va l vc room ra X rc ta too tc w3 ((unhide HP6).on (unhide HB3)) hset3 ((unhide HT6).on (unhide HB3)))
              clear b3 HDQ HBQ r27 hset3 c0 c1 c2 hltq hbq HDS
              obtain ⟨o2, ho2⟩ : ∃ o2, o2 = findZ l room X too := ⟨_, rfl⟩
              rw [← ho2] at HPF
              have HBB := hide (unhide HBS _ ho2.symm)
              clear ho2
              go_wp2_with fail
              refine (unhide HPF).mono ?_
              rintro e w7 ⟨⟨v7, rfl, hr7⟩, b7⟩
              have HB7 := hide ((unhide HB3).trans (b7.mono (unhide HB3).size))
              obtain ⟨xa, xc, hxv⟩ : ∃ xa xc, v7 = .slice xa (o2.getD []).length xc := by
                rcases hr7.2 with ⟨hv, h0⟩ | ⟨g, cap, cur, hv, _⟩
                · exact ⟨none, 0, by rw [hv, h0]⟩
                · exact ⟨_, _, hv⟩
              subst hxv
              clear b7 hr7 HB3 HPF y0 y1
              cases o2 with
              | none =>
                clear HBB
                simp only [Option.getD_none, Option.isSome_none, List.length_nil]
                go_wp2_with fail
                go_roundw
                case rel => exact ⟨k + 1, by omega, by go_num, unhide HNX, unhide HB7⟩
                case measure => simp [intOf]; omega
              | some R =>
                have hRl : ¬ (R.length : Int) < (P.length : Int) := by have := unhide HBB R rfl; omega
                clear HBB
                simp only [Option.getD_some, Option.isSome_some]
                go_wp2_with fail
                go_roundw
                case rel => exact ⟨k + 1, by omega, by go_num, unhide HNX, unhide HB7⟩
                case measure => simp [intOf]; omega
      · have j1 : ¬ (k : Int) < (F.length : Int) := by omega
        have HB7 := hide ((unhide HB6).trans ((unhide HBO).mono (unhide HB6).size))
        clear HBO
        go_wp2_with fail
        go_quiet (fail)
        have HB8 := hide (below_drewN' (unhide HB7) nq)
        clear HB7
        go_wp2_with fail
        go_ret
        exact ⟨by simp, unhide HB8⟩
end Go.Proofs.Ythkhaemlcmkkjae
