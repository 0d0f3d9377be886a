/- The walk of the law FnCnfNo: at every code it answers true. -/
import Derived.Test.YthkhaemlcmkkjagGDcn
import Derived.Test.YthkhaemlcmkkjagGFo
import Derived.Test.YthkhaemlcmkkjagGSu
import Derived.Test.YthkhaemlcmkkjagGUp
import Derived.Test.YthkhaemlcmkkjagSatL
import Derived.Test.YthkhaemlcmkkjagSatC
import Derived.Test.YthkhaemlcmkkjagSatD
import Derived.Test.YthkhaemlcmkkjagLdMore
import Derived.Test.YthkhaemlcmkkjagXsM
import Derived.Deep.QuietTactic
import Derived.BigQuiet
namespace Go.Proofs.Ythkhaemlcmkkjag
set_option linter.unusedVariables false
set_option linter.unusedSimpArgs false
open Go.RowKit Go.Deep

theorem units_no {vars : Int} {cs : List (List Int)} {ls rl : List Int} (h : unitsZ vars cs ls = (rl, true)) : rl = [] ∧ cnfB vars cs = true ∧ litsB vars ls = true ∧ confB cs ls = true := by
  unfold unitsZ at h
  split at h
  · rename_i hk
    obtain ⟨h1, h2⟩ := Bool.and_eq_true_iff.1 hk
    split at h
    · rename_i hcf
      injection h with h3 h4
      exact ⟨h3.symm, h1, h2, hcf⟩
    · injection h with h3 h4
      cases h4
  · injection h with h3 h4
    cases h4
theorem cnf_units_more {vars : Int} {cs : List (List Int)} {ls : List Int} (h : cnfB vars cs = true) (hl : litsB vars ls = true) (h1 : cs.length ≤ 26) (h2 : ls.length ≤ 3) : cnfB vars (cs ++ ls.map fun x => [x]) = true := by
  simp only [cnfB, litsB, Bool.and_eq_true, decide_eq_true_eq, List.all_eq_true] at h hl ⊢
  refine ⟨h.1, by simp; omega, fun c hc => ?_⟩
  rcases List.mem_append.1 hc with hc | hc
  · exact h.2.2 c hc
  · obtain ⟨x, hx, rfl⟩ := List.mem_map.1 hc
    exact ⟨by simp, fun y hy => by rw [List.mem_singleton] at hy; rw [hy]; exact hl.2 x hx⟩

set_option maxRecDepth 100000 in
set_option maxHeartbeats 8000000 in
theorem cnfno_law (a : Option Addr) (n c : Nat) (w : World) (h : CodeAt w.heap.size w a n) (hc : n ≤ c) (hc2 : c ≤ maxLen) :
    Calls Try.prog 4 #[.slice a n c] w fun e w' => e = .returned (.bool true) ∧ Below w.heap.size w w' := by
  have hmx := hc2
  unfold maxLen at hmx
  by_cases hbig : 1048576 < n
  · have hb' : (1048576 : Int) < (n : Int) := by omega
    go_enter Try.func4, Try.ntmps4
    go_wp2_with fail
    go_ret
    exact ⟨rfl, Below.refl _ _⟩
  have hb' : ¬ (1048576 : Int) < (n : Int) := by omega
  go_enter Try.func4, Try.ntmps4
  go_wp2_with fail
  refine (DrawCnfUnits_V a n c w h (by omega) hc hc2).mono ?_
  rintro e w1 ⟨⟨vars, v, ls, vs, u, set, rfl, hL, hll, hsh, hrow, hsl⟩, b1⟩
  obtain ⟨va, vc, hv, hcls⟩ := hL.cls (by omega) hsh
  subst hv
  obtain ⟨sa, sc, hu, hset⟩ := RowI.set hrow (by omega)
  have hscap : set = [] ∨ ∃ g, sa = some ⟨g, 0, none⟩ ∧ set.length ≤ sc ∧ sc ≤ maxLen := by
    rcases hrow.2 with ⟨h, h0⟩ | ⟨g, cap, cur, h, _, _, h1, h2, _⟩
    · exact .inl (List.length_eq_zero_iff.1 h0)
    · rw [hu] at h
      simp only [Value.slice.injEq, true_and] at h
      exact .inr ⟨g, h.1, by rw [h.2]; exact h1, by rw [h.2]; exact h2⟩
  have hvn : va = none → vc = 0 := fun e => by
    rcases hL.own.2 with ⟨h, _⟩ | ⟨g, cap, cur, h, _⟩
    · simp only [Value.slice.injEq] at h; exact h.2.2
    · simp only [Value.slice.injEq] at h; rw [h.1] at e; cases e
  subst hu
  have HC1 := hide hcls
  have HS1 := hide hset
  have HB1 := hide b1
  clear hL hcls hrow hset b1 h
  go_upto_region 4 with fail
  obtain ⟨w2, hw2⟩ : ∃ w2, w2 = w1.alloc (.cells #[.int .i64 vars, .slice va ls.length vc] 25) := ⟨_, rfl⟩
  rw [← hw2]
  have b2 : Below w1.heap.size w1 w2 := by rw [hw2]; exact (Below.refl _ _).alloc (Nat.le_refl _) _
  have x0 : w2.cell? ⟨w1.heap.size, 0, none⟩ = some (.int .i64 vars) := by rw [hw2]; simp
  have x1 : w2.cell? ⟨w1.heap.size, 1, none⟩ = some (.slice va ls.length vc) := by rw [hw2]; simp
  have hlt2 : w1.heap.size < w2.heap.size := by rw [hw2]; simp
  have HC2 := hide ((unhide HC1).on b2)
  have HS2 := hide ((unhide HS1).on b2)
  have HB2 := hide ((unhide HB1).trans (b2.mono (unhide HB1).size))
  clear hw2 b2 HC1 HS1 HB1
  obtain ⟨rl, rb, hr⟩ : ∃ rl rb, unitsZ vars ls set = (rl, rb) := ⟨_, _, rfl⟩
  have HR := hide hr
  have hrl : rl.length ≤ 400 := units_len hr
  have HCX3 := hide (specCnfUnits_any vars va ls vc sa set sc w2 (unhide HC2) (unhide HS2))
  have HCX4 := hide (fun x (hx : Below w2.heap.size w2 x) => implCnfUnits_any vars va ls vc sa set sc x ((unhide HC2).on hx) ((unhide HS2).on hx))
  rw [hr] at HCX3 HCX4
  clear hr
  go_wp2_with fail
  refine (unhide HCX3).mono ?_
  rintro e w3 ⟨⟨v3, rfl, hr3⟩, b3⟩
  obtain ⟨wa, wc, hv3, hW3⟩ := RowI.set hr3 (by show rl.length ≤ 1048576; omega)
  subst hv3
  have HW3 := hide hW3
  have HC4b := hide (unhide HCX4 w3 b3)
  have HC3 := hide ((unhide HC2).on b3)
  have HS3 := hide ((unhide HS2).on b3)
  have HB3 := hide ((unhide HB2).trans (b3.mono (unhide HB2).size))
  have hlt3 : w1.heap.size < w3.heap.size := Nat.lt_of_lt_of_le hlt2 b3.size
  rw [← b3.cell (p := ⟨w1.heap.size, _, none⟩) hlt2] at x0 x1
  clear HC2 HS2 HB2 b3 hlt2 HCX3 HCX4 hr3 hW3
  go_wp2_with fail
  refine (unhide HC4b).mono ?_
  rintro e w4 ⟨⟨v4, rfl, hr4⟩, b4⟩
  obtain ⟨ga, gc, hv4, hG4⟩ := RowI.set hr4 (by show rl.length ≤ 1048576; omega)
  subst hv4
  have HG4 := hide hG4
  have HW4 := hide ((unhide HW3).on b4)
  have HC4 := hide ((unhide HC3).on b4)
  have HS4 := hide ((unhide HS3).on b4)
  have HB4 := hide ((unhide HB3).trans (b4.mono (unhide HB3).size))
  have hlt4 : w1.heap.size < w4.heap.size := Nat.lt_of_lt_of_le hlt3 b4.size
  rw [← b4.cell (p := ⟨w1.heap.size, _, none⟩) hlt3] at x0 x1
  clear HC3 HS3 HB3 b4 hlt3 HW3 HC4b hr4 hG4
  go_wp2_with fail
  refine (ldInts_I ga wa rl gc wc w4 (unhide HG4) (unhide HW4)).mono ?_
  rintro e w5 ⟨rfl, b5⟩
  have HC5 := hide ((unhide HC4).on b5)
  have HS5 := hide ((unhide HS4).on b5)
  have HG5 := hide ((unhide HG4).on b5)
  have HW5 := hide ((unhide HW4).on b5)
  have HB5 := hide ((unhide HB4).trans (b5.mono (unhide HB4).size))
  have hlt5 : w1.heap.size < w5.heap.size := Nat.lt_of_lt_of_le hlt4 b5.size
  rw [← b5.cell (p := ⟨w1.heap.size, _, none⟩) hlt4] at x0 x1
  clear HC4 HS4 HG4 HW4 HB4 b5 hlt4
  cases rb with
  | false =>
    go_wp2_with fail
    refine (ldInts_I ga wa rl gc wc w5 (unhide HG5) (unhide HW5)).mono ?_
    rintro e w6 ⟨rfl, b6⟩
    have HB6 := hide ((unhide HB5).trans (b6.mono (unhide HB5).size))
    have hlt6 : w1.heap.size < w6.heap.size := Nat.lt_of_lt_of_le hlt5 b6.size
    rw [← b6.cell (p := ⟨w1.heap.size, _, none⟩) hlt5] at x0 x1
    clear  HB5 b6 hlt5
    go_wp2_with fail
    go_ret
    exact ⟨rfl, unhide HB6⟩
  | true =>
    by_cases hv2 : 12 < vars
    · go_wp2_with fail
      refine (ldInts_I ga wa rl gc wc w5 (unhide HG5) (unhide HW5)).mono ?_
      rintro e w6 ⟨rfl, b6⟩
      have HB6 := hide ((unhide HB5).trans (b6.mono (unhide HB5).size))
      have hlt6 : w1.heap.size < w6.heap.size := Nat.lt_of_lt_of_le hlt5 b6.size
      rw [← b6.cell (p := ⟨w1.heap.size, _, none⟩) hlt5] at x0 x1
      clear  HB5 b6 hlt5
      go_wp2_with fail
      go_ret
      exact ⟨rfl, unhide HB6⟩
    obtain ⟨hrn, hok, hlok, hcf⟩ := units_no (unhide HR)
    subst hrn
    have hokx := cnf_units_more hok hlok hll hsl
    have hv0 := (cnf_vars hok).1
    have hsz := sat_conf (most := 3000) hokx (conf_units (confB_iff.1 hcf)) (by omega) (by omega)
    have HSZ := hide hsz
    have HSC := hide hscap
    clear hok hlok hcf hokx hsz HR HG5 HW5 hscap hrl
    obtain ⟨w7, hw7⟩ : ∃ w7, w7 = w5.alloc (.cells #[.int .i64 vars, .slice va ls.length vc] 25) := ⟨_, rfl⟩
    have b7 : Below w5.heap.size w5 w7 := by rw [hw7]; exact (Below.refl _ _).alloc (Nat.le_refl _) _
    have hx7 : w7.heap[w5.heap.size]? = some (cnfCells vars (.slice va ls.length vc)) := by rw [hw7]; exact blk_alloc_new _ _
    have hX7 : XS w5 w5.heap.size vars va (ls ++ (set.take 0).map fun x => [x]) vc w7 := by
      rw [List.take_zero, List.map_nil, List.append_nil]
      refine ⟨hx7, hvn, ?_, ?_, b7⟩
      · obtain ⟨h1, h2⟩ := unhide HC5
        refine ⟨h1, h2.imp id fun ⟨b, o, e, h3, h4⟩ => ⟨b, o, e, Nat.lt_of_lt_of_le h3 b7.size, fun i hi => ?_⟩⟩
        obtain ⟨a', c, h5, h6⟩ := h4 i hi
        exact ⟨a', c, (b7.cell (p := ⟨b, o + i, none⟩) h3).trans h5, h6⟩
      · intro b o e hne
        rcases (unhide HC5).2 with h0 | ⟨b', o', e', h3, _⟩
        · exact absurd h0 hne
        · rw [e] at e'
          simp only [Option.some.injEq, Addr.mk.injEq] at e'
          omega
    have HX7 := hide hX7
    clear hX7 hx7 b7
    go_upto_region 9 with fail
    rw [← hw7]
    clear hw7
    go_wp2_with fail
    go_loopw [10] (fun i wr => ∃ (k : Nat) (xa : Option Addr) (xc : Nat), k ≤ set.length ∧ i = .int .i64 k ∧ Hid (XS w5 w5.heap.size vars xa (ls ++ (set.take k).map fun x => [x]) xc wr)) (fun i _ => set.length - (intOf i).toNat)
    case atStart => exact ⟨0, va, vc, Nat.zero_le _, rfl, HX7⟩
    case round =>
      rename World => wo
      obtain ⟨k, xa, xc, hk, rfl, HX⟩ := hrel
      clear HX7
      have HLO := hide (unhide HX).low
      obtain ⟨xl, hxl⟩ : ∃ n, (ls ++ (set.take k).map fun x => [x]).length = n := ⟨_, rfl⟩
      have HXB := hide (show xl = ls.length + k by rw [← hxl]; simp; omega)
      have HXL0 := hide hxl
      clear hxl
      obtain ⟨q0, q1, qf⟩ := two (unhide HX).box
      rw [unhide HXL0] at q1
      have hxq := (Array.getElem?_eq_some_iff.1 (unhide HX).box).1
      by_cases hkd : k < set.length
      · have j1 : (k : Int) < (set.length : Int) := by omega
        obtain ⟨sg, hsa, hs1, hs2⟩ : ∃ g, sa = some ⟨g, 0, none⟩ ∧ set.length ≤ sc ∧ sc ≤ maxLen := by
          rcases unhide HSC with h0 | h0
          · subst h0; simp at hkd
          · exact h0
        subst hsa
        have hsm := hs2
        unfold maxLen at hsm
        have k0 : (0 : Int) ≤ (k : Int) := by omega
        have hwk : IntKind.i64.wrap ((k : Int) + 1) = (k : Int) + 1 := by rw [IntKind.wrap_i64]; omega
        have k1 : (k : Int) + 1 ≤ (sc : Int) := by omega
        have k2 : (k : Int) ≤ (k : Int) + 1 := by omega
        have k3 : (0 : Int) ≤ (k : Int) + 1 := by omega
        have k4 : sc ≠ k := by omega
        have hrow : SetAt w5 (some ⟨sg, k, none⟩) [set.getD k 0] := by
          rcases (unhide HS5).2 with h0 | ⟨b, o, e, h1, h2⟩
          · subst h0; simp at hkd
          · simp only [Option.some.injEq, Addr.mk.injEq, and_true] at e
            obtain ⟨rfl, rfl⟩ := e
            refine ⟨by simp, .inr ⟨sg, k, rfl, h1, fun i hi => ?_⟩⟩
            have hi0 : i = 0 := by simp at hi; omega
            subst hi0
            have := h2 k hkd
            rw [Nat.zero_add] at this
            exact this
        have HLM := hide (fun x (hx : Below wo.heap.size wo x) => ldMore_R (SetAt w5) vars xa (ls ++ (set.take k).map fun x => [x]) xc (unhide HX).nn (some ⟨sg, k, none⟩) [set.getD k 0] (sc - k) x ((unhide HX).on hx).rows hrow (by rw [unhide HXL0]; have := unhide HXB; omega))
        rw [unhide HXL0] at HLM
        obtain ⟨nx, hnx⟩ : ∃ L, (ls ++ (set.take k).map fun x => [x]) ++ [[set.getD k 0]] = L := ⟨_, rfl⟩
        rw [hnx] at HLM
        have HNX := hide hnx
        clear hnx hrow qf
        go_upto_region 12 with fail
        refine wp_region_mix (k := 100) 7 [6] [.agg #[.int .i64 vars, .slice xa xl xc], .slice (some ⟨sg, 0, none⟩) set.length sc, .int .i64 (k : Int), .int .i64 (k : Int), .int .i64 ((k : Int) + 1), .slice (some ⟨sg, k, none⟩) 1 (sc - k), undef] (CMo w5 wo vars nx) (by kernel_rfl) (by kernel_rfl) (by kernel_rfl) (by kernel_rfl) (by kernel_rfl) (by kernel_rfl) ⟨(Below.refl _ _).drew, (fun _ h => by cases h)⟩ ?_ ?_ ?_
        · intro full hfull i oo hi' hns ho x fl us hC hb
          simp [putAll, slotOf, Act.put] at hfull
          subst hfull
          have bx := hC.below
          have p0 := (bx.cell (p := ⟨w5.heap.size, 0, none⟩) hxq).trans q0
          have p1 := (bx.cell (p := ⟨w5.heap.size, 1, none⟩) hxq).trans q1
          have hC0 := hC.on (b' := fl) (Below.refl _ _)
          match i with
          | 0 => simp at ho; subst ho; simp [gwp, Region.wanted, yielded]; go_simp; first | done | exact hC0 | exact ⟨rfl, hC0⟩ | (simp; exact hC0) | (refine ⟨by simp <;> omega, hC0⟩)
          | 1 => simp at ho; subst ho; simp [gwp, Region.wanted, yielded]; go_simp; first | done | exact hC0 | exact ⟨rfl, hC0⟩ | (simp; exact hC0) | (refine ⟨by simp <;> omega, hC0⟩)
          | 2 => simp at ho; subst ho; simp [gwp, Region.wanted, yielded]; go_simp; first | done | exact hC0 | exact ⟨rfl, hC0⟩ | (simp; exact hC0) | (refine ⟨by simp <;> omega, hC0⟩)
          | 3 => simp at ho; subst ho; simp [gwp, Region.wanted, yielded]; go_simp; first | done | exact hC0 | exact ⟨rfl, hC0⟩ | (simp; exact hC0) | (refine ⟨by simp <;> omega, hC0⟩)
          | 4 => simp at ho; subst ho; simp [gwp, Region.wanted, yielded]; go_simp; first | done | exact hC0 | exact ⟨rfl, hC0⟩ | (simp; exact hC0) | (refine ⟨by simp <;> omega, hC0⟩)
          | 5 => simp at ho; subst ho; simp [gwp, Region.wanted, yielded]; go_simp; first | done | exact hC0 | exact ⟨rfl, hC0⟩ | (simp; exact hC0) | (refine ⟨by simp <;> omega, hC0⟩)
          | 6 => simp at hns
          | i + 7 => omega
        · intro full hfull us j hj oo ho x fl hC
          simp [putAll, slotOf, Act.put] at hfull
          subst hfull
          have bx := hC.below
          match us with
          | [] =>
            simp at hj
            subst hj
            simp at ho
            subst ho
            have HCM := hide (unhide HLM x bx)
            clear hC
            simp only [List.length_singleton] at HCM
            simp [gwp, Region.wanted, yielded, putP, slotOf, Act.put]
            go_simp
            refine (unhide HCM).mono ?_
            rintro e wy ⟨⟨g, c', rfl, h1, h2, h3⟩, by1⟩
            have hC1 : CMo w5 wo vars nx fl [.agg #[.int .i64 vars, .slice (some ⟨g, 0, none⟩) nx.length c']] wy := ⟨bx.trans (by1.mono bx.size), fun v e => by
              cases e
              exact ⟨g, c', rfl, Nat.le_trans bx.size h1, h2, h3⟩⟩
            go_simp
            first | done | exact hC1 | exact ⟨_, rfl, hC1⟩ | (simp; exact hC1)
          | _ :: _ => simp at hj
        intro full hfull us x hus hC
        simp [putAll, slotOf, Act.put] at hfull
        subst hfull
        match us, hus with
        | [v], _ =>
        obtain ⟨g, c', hv, h1, h2, h3⟩ := hC.val v rfl
        subst hv
        have bx := hC.below
        have htk : nx = ls ++ (set.take (k + 1)).map fun x => [x] := by
          rw [← unhide HNX, List.append_assoc, List.take_add_one, List.map_append]
          congr 2
          simp [List.getD, hkd]
        rw [htk] at h3
        obtain ⟨xl2, hxl2⟩ : ∃ n, n = nx.length := ⟨_, rfl⟩
        have hxl3 : xl2 = (ls ++ (set.take (k + 1)).map fun x => [x]).length := by rw [hxl2, htk]
        rw [← hxl2]
        have hXN := (unhide HX).more (cs := ls ++ (set.take (k + 1)).map fun x => [x]) (c' := c') bx (Nat.le_refl _) h1 h2 (by simp; omega) h3
        rw [← hxl3] at hXN
        obtain ⟨p0, p1, pf⟩ := two ((unhide HX).on bx).box
        have pf0 := pf 0
        have pf1 := pf 1
        have HXN := hide hXN
        clear hC hXN pf h3 hxl2 hxl3
        simp [putP, slotOf, Act.put]
        go_wp2_with fail
        go_roundw
        case rel => exact ⟨k + 1, some ⟨g, 0, none⟩, c', by omega, by go_num, HXN⟩
        case measure => simp [intOf]; omega
      · have j1 : ¬ (k : Int) < (set.length : Int) := by omega
        have hkk : set.take k = set := List.take_of_length_le (by omega)
        have HT := hide (implSatFind_any vars xa (ls ++ (set.take k).map fun x => [x]) xc 3000 wo (unhide HX).cls)
        rw [unhide HXL0, hkk, unhide HSZ] at HT
        have HF0 := hide ((unhide HB5).trans ((unhide HLO).mono (unhide HB5).size))
        clear hkk HX qf
        go_wp2_with fail
        refine (unhide HT).mono ?_
        rintro e w9 ⟨⟨mv, pv, vs9, rfl, _, _⟩, b9⟩
        have HF := hide ((unhide HF0).trans (b9.mono (unhide HF0).size))
        go_wp2_with fail
        go_ret
        exact ⟨rfl, unhide HF⟩
end Go.Proofs.Ythkhaemlcmkkjag
