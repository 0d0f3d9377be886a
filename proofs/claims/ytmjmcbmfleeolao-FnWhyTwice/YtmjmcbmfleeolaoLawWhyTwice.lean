/- The walk of the law FnWhyTwice: of every code it answers true, and writes nothing that was there. -/
import Derived.Test.YtmjmcbmfleeolaoDrawW
import Derived.Test.YtmjmcbmfleeolaoWhyC
import Derived.Test.YtmjmcbmfleeolaoWhyS
import Derived.Test.YtmjmcbmfleeolaoWhyQ
import Derived.Test.YtmjmcbmfleeolaoWhyN
import Derived.Test.YtmjmcbmfleeolaoGStA
namespace Go.Proofs.Ytmjmcbmfleeolao
set_option linter.unusedVariables false
set_option linter.unusedSimpArgs false
open Go.RowKit Go.Deep

/-- How many of one name stand ahead of the first i. -/
def pairsTo (l : List PackD) (set : List Int) : Nat → Nat
  | 0 => 0
  | i + 1 => pairsTo l set i + (coll (twF l set i) i).length
theorem pairs_le (l : List PackD) (set : List Int) : ∀ i, pairsTo l set i ≤ i * i
  | 0 => by simp [pairsTo]
  | i + 1 => by
    have := pairs_le l set i
    have := coll_len (twF l set i) i
    simp only [pairsTo]
    have e : (i + 1) * (i + 1) = i * i + 2 * i + 1 := by rw [Nat.add_mul, Nat.mul_add]; omega
    omega
def twos (ws : List StepD) : Nat := (ws.filter fun s => decide (s.kind = 2)).length
theorem twos_app (a b : List StepD) : twos (a ++ b) = twos a + twos b := by unfold twos; rw [List.filter_append, List.length_append]
theorem twos_all {ws : List StepD} (h : ∀ s ∈ ws, s.kind = 2) : twos ws = ws.length := by
  unfold twos
  rw [List.filter_eq_self.2]
  intro s hs
  simpa using h s hs
theorem twos_none {ws : List StepD} (h : ∀ s ∈ ws, s.kind ≠ 2) : twos ws = 0 := by
  unfold twos
  rw [List.filter_eq_nil_iff.2]
  · rfl
  intro s hs
  simpa using h s hs
theorem coll_kind {f : Nat → Option StepD} {c : Int} (h : ∀ k s, f k = some s → s.kind = c) (n : Nat) : ∀ s ∈ coll f n, s.kind = c := by
  intro s hs
  unfold coll at hs
  obtain ⟨k, _, hk⟩ := List.mem_filterMap.1 hs
  exact h k s hk
theorem tw_kind (l : List PackD) (set : List Int) (i n : Nat) : ∀ s ∈ coll (twF l set i) n, s.kind = 2 := coll_kind (fun k s h => by
  unfold twF at h
  split at h
  · simp at h; rw [← h]
  · cases h) n
theorem dp_kind (l : List PackD) (set : List Int) (i n : Nat) : ∀ s ∈ coll (dpF l set i) n, s.kind = 3 := coll_kind (fun k s h => by
  unfold dpF at h
  split at h
  · cases h
  · simp at h; rw [← h]) n
theorem bn_kind (l : List PackD) (set : List Int) (i n : Nat) : ∀ s ∈ coll (bnF l set i) n, s.kind = 4 := coll_kind (fun k s h => by
  unfold bnF at h
  split at h
  · simp at h; rw [← h]
  · cases h) n
theorem twos_place (l : List PackD) (set : List Int) (i : Nat) : twos (placeL l set i) = (coll (twF l set i) i).length := by
  unfold placeL
  rw [twos_app, twos_app, twos_all (tw_kind l set i i), twos_none (fun s hs => by rw [dp_kind l set i _ s hs]; decide), twos_none (fun s hs => by rw [bn_kind l set i _ s hs]; decide)]
  omega
theorem twos_flat (l : List PackD) (set : List Int) : ∀ n, twos ((List.range n).flatMap (placeL l set)) = pairsTo l set n
  | 0 => rfl
  | n + 1 => by
    rw [List.range_succ, List.flatMap_append, twos_app, twos_flat l set n]
    simp [pairsTo, twos_place]
theorem twos_why {l : List PackD} {room : Int} {set : List Int} (h : formB l room set = true) : twos (whyZ l room set) = pairsTo l set set.length := by
  rw [why_same]
  unfold specWhy
  rw [h, if_pos rfl, twos_app, twos_flat, twos_none (fun s hs => ?_)]
  · omega
  · unfold lackS at hs
    split at hs
    · simp at hs; rw [hs]; show (1 : Int) ≠ 2; decide
    · cases hs
theorem twos_take {ws : List StepD} {k : Nat} (hk : k < ws.length) : twos (ws.take (k + 1)) = twos (ws.take k) + if (ws.getD k dStep).kind = 2 then 1 else 0 := by
  rw [List.take_succ_eq_append_getElem hk, twos_app]
  congr 1
  have e : ws.getD k dStep = ws[k] := by simp [List.getD, hk]
  rw [e]
  unfold twos
  by_cases h : ws[k].kind = 2 <;> simp [h]
theorem twos_le (ws : List StepD) : twos ws ≤ ws.length := by unfold twos; exact List.length_filter_le _ _
set_option maxRecDepth 100000 in
set_option maxHeartbeats 8000000 in
theorem whytwice_law (a : Option Addr) (n c : Nat) (w : World) (h : CodeAt w.heap.size w a n) (hc : n ≤ c) (hc2 : c ≤ maxLen) :
    Calls Try.prog 3 #[.slice a n c] w fun e w' => e = .returned (.bool true) ∧ Below w.heap.size w w' := by
  have hmx := hc2
  unfold maxLen at hmx
  by_cases hbig : 1048576 < n
  · have hb' : (1048576 : Int) < (n : Int) := by omega
    go_enter Try.func3, Try.ntmps3
    go_wp2_with fail
    go_ret
    exact ⟨rfl, Below.refl _ _⟩
  have hb' : ¬ (1048576 : Int) < (n : Int) := by omega
  go_enter Try.func3, Try.ntmps3
  go_wp2_with fail
  refine (DrawWhyNot_V a n c w h (by omega) hc hc2).mono ?_
  rintro e w1 ⟨⟨v, room, u, rfl, hV, set, hrow, hsl⟩, b1⟩
  obtain ⟨va, vn, vc, rfl, _⟩ := SlBy.slice hV
  obtain ⟨l, rfl, hP⟩ := V2.packs hV
  obtain ⟨sa, sc, hu, hset⟩ := RowI.set hrow (by omega)
  subst hu
  have hscl : set.length ≤ sc := row_le hrow
  have HP1 := hide hP
  have HS1 := hide hset
  have HB1 := hide b1
  clear hV hrow hP hset b1 h
  go_upto_region 4 with fail
  obtain ⟨w2, hw2⟩ : ∃ w2, w2 = w1.alloc (.cells #[.slice va l.length vc, .int .i64 room] 25) := ⟨_, rfl⟩
  rw [← hw2]
  have b2 : Below w1.heap.size w1 w2 := by rw [hw2]; exact (Below.refl _ _).alloc (Nat.le_refl _) _
  have x0 : w2.cell? ⟨w1.heap.size, 0, none⟩ = some (.slice va l.length vc) := by rw [hw2]; simp
  have x1 : w2.cell? ⟨w1.heap.size, 1, none⟩ = some (.int .i64 room) := by rw [hw2]; simp
  have hlt2 : w1.heap.size < w2.heap.size := by rw [hw2]; simp
  have HP2 := hide ((unhide HP1).on b2)
  have HS2 := hide ((unhide HS1).on b2)
  have HB2 := hide ((unhide HB1).trans (b2.mono (unhide HB1).size))
  clear hw2 b2 HP1 HS1 HB1
  obtain ⟨ws, hws⟩ : ∃ ws, ws = whyZ l room set := ⟨_, rfl⟩
  have hwl : ws.length ≤ 400 := by rw [hws]; exact whyZ_len l room set
  have HWS := hide hws
  have HC3 := hide (specWhyNot_any va l vc room sa set sc w2 (unhide HP2) (unhide HS2) hscl)
  rw [← why_same, ← hws] at HC3
  have HC4 := hide (fun x (hx : Below w2.heap.size w2 x) => implWhyNot_any va l vc room sa set sc x ((unhide HP2).on hx) ((unhide HS2).on hx))
  rw [← hws] at HC4
  clear hws
  go_wp2_with fail
  refine (unhide HC3).mono ?_
  rintro e w3 ⟨⟨v3, rfl, hr3⟩, b3⟩
  obtain ⟨pa, pc, hv3, hW3⟩ := hr3.at (by omega)
  subst hv3
  have HW3 := hide hW3
  have HC4b := hide (unhide HC4 w3 b3)
  have HP3 := hide ((unhide HP2).on b3)
  have HS3 := hide ((unhide HS2).on b3)
  have HB3 := hide ((unhide HB2).trans (b3.mono (unhide HB2).size))
  have hlt3 : w1.heap.size < w3.heap.size := Nat.lt_of_lt_of_le hlt2 b3.size
  rw [← b3.cell (p := ⟨w1.heap.size, _, none⟩) hlt2] at x0 x1
  clear HB2 b3 hlt2 HP2 HS2
  clear hr3 hW3 HC3 HC4
  go_wp2_with fail
  refine (unhide HC4b).mono ?_
  rintro e w4 ⟨⟨v4, rfl, hr4⟩, b4⟩
  obtain ⟨ta, tc, hv4, hT4⟩ := hr4.at (by omega)
  subst hv4
  have HT4 := hide hT4
  have HP4 := hide ((unhide HP3).on b4)
  have HS4 := hide ((unhide HS3).on b4)
  have HW4 := hide ((unhide HW3).on b4)
  have HB4 := hide ((unhide HB3).trans (b4.mono (unhide HB3).size))
  have hlt4 : w1.heap.size < w4.heap.size := Nat.lt_of_lt_of_le hlt3 b4.size
  rw [← b4.cell (p := ⟨w1.heap.size, _, none⟩) hlt3] at x0 x1
  clear HB3 b4 hlt3 HP3 HS3 HW3
  clear hr4 hT4 HC4b
  go_wp2_with fail
  refine (ldWhys_same ta ws tc pa pc w4 (unhide HT4) (unhide HW4)).mono ?_
  rintro e w5 ⟨rfl, b5⟩
  have HP5 := hide ((unhide HP4).on b5)
  have HS5 := hide ((unhide HS4).on b5)
  have HW5 := hide ((unhide HW4).on b5)
  have HT5 := hide ((unhide HT4).on b5)
  have HB5 := hide ((unhide HB4).trans (b5.mono (unhide HB4).size))
  have hlt5 : w1.heap.size < w5.heap.size := Nat.lt_of_lt_of_le hlt4 b5.size
  rw [← b5.cell (p := ⟨w1.heap.size, _, none⟩) hlt4] at x0 x1
  clear HB4 b5 hlt4 HP4 HS4 HW4 HT4
  have HSZ := hide (specStateSize_any va l vc room sa set sc w5 (unhide HP5) (unhide HS5))
  cases hfm : formB l room set with
  | false =>
    have hz : sizeZ l room set = -1 := by unfold sizeZ; rw [hfm]; rfl
    rw [hz] at HSZ
    clear hz hfm HWS
    go_wp2_with fail
    refine (unhide HSZ).mono ?_
    rintro e w6 ⟨rfl, b6⟩
    have HP6 := hide ((unhide HP5).on b6)
    have HS6 := hide ((unhide HS5).on b6)
    have HW6 := hide ((unhide HW5).on b6)
    have HT6 := hide ((unhide HT5).on b6)
    have HB6 := hide ((unhide HB5).trans (b6.mono (unhide HB5).size))
    have hlt6 : w1.heap.size < w6.heap.size := Nat.lt_of_lt_of_le hlt5 b6.size
    rw [← b6.cell (p := ⟨w1.heap.size, _, none⟩) hlt5] at x0 x1
    clear HB5 b6 hlt5 HP5 HS5 HW5 HT5
    clear HSZ
    go_wp2_with fail
    refine (ldWhys_same ta ws tc pa pc w6 (unhide HT6) (unhide HW6)).mono ?_
    rintro e w7 ⟨rfl, b7⟩
    have HB7 := hide ((unhide HB6).trans (b7.mono (unhide HB6).size))
    clear b7 HB6
    go_wp2_with fail
    go_ret
    exact ⟨by simp, unhide HB7⟩
  | true =>
    have hz := form_bounds hfm
    have htw := twos_why hfm
    rw [← unhide HWS] at htw
    have HTW := hide htw
    have HIN := hide (fun i (hi : i < set.length) => form_place hfm hi)
    have hs8 : set.length ≤ 8 := by
      have h1 := set_places hfm
      have h3 : set.length = (set.map Int.toNat).length := by simp
      have h4 := places_le (setBits set) 8
      rw [h1] at h4
      omega
    generalize sizeZ l room set = zz at HSZ hz
    have hzn : ¬ zz < 0 := by omega
    clear hfm HWS hz htw
    go_wp2_with fail
    refine (unhide HSZ).mono ?_
    rintro e w6 ⟨rfl, b6⟩
    have HP6 := hide ((unhide HP5).on b6)
    have HS6 := hide ((unhide HS5).on b6)
    have HW6 := hide ((unhide HW5).on b6)
    have HT6 := hide ((unhide HT5).on b6)
    have HB6 := hide ((unhide HB5).trans (b6.mono (unhide HB5).size))
    have hlt6 : w1.heap.size < w6.heap.size := Nat.lt_of_lt_of_le hlt5 b6.size
    rw [← b6.cell (p := ⟨w1.heap.size, _, none⟩) hlt5] at x0 x1
    clear HB5 b6 hlt5 HP5 HS5 HW5 HT5
    clear HSZ
    go_wp2_with fail
    go_loopw [7, 8] (fun m ii wr => ∃ i : Nat, i ≤ set.length ∧ ii = .int .i64 i ∧ m = .int .i64 ((pairsTo l set i : Nat) : Int) ∧ Hid (Below w6.heap.size w6 wr)) (fun _ ii _ => set.length - (intOf ii).toNat)
    case atStart => exact ⟨0, Nat.zero_le _, rfl, rfl, Below.refl _ _⟩
    case round =>
      rename World => wq
      obtain ⟨i, hi, rfl, rfl, HBq⟩ := hrel
      by_cases hil : i < set.length
      · have i1 : (i : Int) < (set.length : Int) := by omega
        have i0 : (0 : Int) ≤ (i : Int) := by omega
        have hple := pairs_le l set i
        have hpl8 : i * i ≤ 64 := Nat.le_trans (Nat.mul_le_mul (show i ≤ 8 by omega) (show i ≤ 8 by omega)) (by omega)
        go_wp2_with fail
        go_loopw [7, 9] (fun m kk wr => ∃ k : Nat, k ≤ i ∧ kk = .int .i64 k ∧ m = .int .i64 ((pairsTo l set i + (coll (twF l set i) k).length : Nat) : Int) ∧ Hid (Below w6.heap.size w6 wr)) (fun _ kk _ => i - (intOf kk).toNat)
        case atStart => exact ⟨0, Nat.zero_le _, rfl, by simp [coll], HBq⟩
        case round =>
          rename World => wo
          clear HBq
          obtain ⟨k, hk, rfl, rfl, HB⟩ := hrel
          have hzo := (unhide HB).size
          by_cases hkl : k < i
          · have k1 : (k : Int) < (i : Int) := by omega
            have k2 : (k : Int) < (set.length : Int) := by omega
            have k0 : (0 : Int) ≤ (k : Int) := by omega
            have hpin := unhide HIN i hil
            have hqin := unhide HIN k (by omega)
            rcases (unhide HS6).2 with hnil | ⟨sb, so, rfl, hsbl, hsc'⟩
            · rw [hnil] at hil; simp at hil
            have t0 := ((unhide HB).cell (p := ⟨sb, so + i, none⟩) hsbl).trans (hsc' i hil)
            have q0 := ((unhide HB).cell (p := ⟨sb, so + k, none⟩) hsbl).trans (hsc' k (by omega))
            have hpp : packOf l set i = l.getD (set.getD i 0).toNat dPack := rfl
            have hqq : packOf l set k = l.getD (set.getD k 0).toNat dPack := rfl
            have HFS0 : Hid (twF l set i k = if (packOf l set k).name.toList == (packOf l set i).name.toList then some ⟨2, set.getD i 0, set.getD k 0⟩ else none) := rfl
            have HCS : Hid (coll (twF l set i) (k + 1) = coll (twF l set i) k ++ (twF l set i k).toList) := coll_succ _ _
            have hcl := coll_len (twF l set i) k
            generalize set.getD i 0 = z1 at t0 hpin hpp HFS0
            generalize set.getD k 0 = z2 at q0 hqin hqq HFS0
            obtain ⟨p, rfl⟩ : ∃ p : Nat, z1 = (p : Int) := ⟨z1.toNat, by omega⟩
            obtain ⟨q, rfl⟩ : ∃ q : Nat, z2 = (q : Int) := ⟨z2.toNat, by omega⟩
            rw [show ((p : Int)).toNat = p by simp] at hpp
            rw [show ((q : Int)).toNat = q by simp] at hqq
            have hpl : p < l.length := by omega
            have hql : q < l.length := by omega
            have hpi : (p : Int) < (l.length : Int) := by omega
            have hqi : (q : Int) < (l.length : Int) := by omega
            have hp0 : (0 : Int) ≤ (p : Int) := by omega
            have hq0 : (0 : Int) ≤ (q : Int) := by omega
            rcases (unhide HP6).2 with hnil | ⟨pb, po, rfl, hpS, hpk⟩
            · rw [hnil] at hpl; simp at hpl
            obtain ⟨_, _, _, _, _, _, hcp, _⟩ := hpk p hpl
            obtain ⟨_, _, _, _, _, _, hcq, _⟩ := hpk q hql
            rw [← hpp] at hcp
            rw [← hqq] at hcq
            have hpb : pb < w6.heap.size := hpS
            have np := ((unhide HB).cell (p := ⟨pb, po + p * 6, none⟩) hpb).trans hcp.name
            have nq := ((unhide HB).cell (p := ⟨pb, po + q * 6, none⟩) hpb).trans hcq.name
            generalize packOf l set i = P at np HFS0
            generalize packOf l set k = Q at nq HFS0
            have y0 := x0
            have y1 := x1
            rw [← (unhide HB).cell (p := ⟨w1.heap.size, _, none⟩) hlt6] at y0 y1
            have hsbo : sb < wo.heap.size := by omega
            have hpbo : pb < wo.heap.size := by omega
            have hxo : w1.heap.size < wo.heap.size := by omega
            clear hsc' hpk hcp hcq hpp hqq
            go_upto_region 15 with fail
            refine wp_region_mix (k := 100) 18 [] [.pointer (some ⟨w1.heap.size, 0, none⟩), .slice (some ⟨pb, po, none⟩) l.length vc, .slice (some ⟨sb, so, none⟩) set.length sc, .int .i64 (i : Int), .pointer (some ⟨sb, so + i, none⟩), .int .i64 (p : Int), .pointer (some ⟨pb, po + p * 6, none⟩), .pointer (some ⟨pb, po + p * 6, none⟩), .string P.name, .pointer (some ⟨w1.heap.size, 0, none⟩), .slice (some ⟨pb, po, none⟩) l.length vc, .slice (some ⟨sb, so, none⟩) set.length sc, .int .i64 (k : Int), .pointer (some ⟨sb, so + k, none⟩), .int .i64 (q : Int), .pointer (some ⟨pb, po + q * 6, none⟩), .pointer (some ⟨pb, po + q * 6, none⟩), .string Q.name] (CZ wo) (by kernel_rfl) (by kernel_rfl) (by kernel_rfl) (by kernel_rfl) (by kernel_rfl) (by kernel_rfl) ⟨(Below.refl _ _).drew⟩ ?_ ?_ ?_
            · intro full hfull ii oo hi hns ho x fl us hC hb
              simp [putAll, slotOf, Act.put] at hfull
              subst hfull
              have bx := hC.below
              rw [← bx.cell (p := ⟨w1.heap.size, _, none⟩) (by simp; omega)] at y0 y1
              rw [← bx.cell (p := ⟨sb, _, none⟩) (by simp; omega)] at t0 q0
              rw [← bx.cell (p := ⟨pb, _, none⟩) (by simp; omega)] at np nq
              have hC0 := hC.on (b' := fl) (Below.refl _ _)
              match ii with
              | 0 => simp at ho; subst ho; simp [gwp, Region.wanted, yielded]; go_simp; first | done | exact hC0 | exact ⟨rfl, hC0⟩ | (simp; exact hC0) | (refine ⟨by simp <;> omega, hC0⟩) | omega
              | 1 => simp at ho; subst ho; simp [gwp, Region.wanted, yielded]; go_simp; first | done | exact hC0 | exact ⟨rfl, hC0⟩ | (simp; exact hC0) | (refine ⟨by simp <;> omega, hC0⟩) | omega
              | 2 => simp at ho; subst ho; simp [gwp, Region.wanted, yielded]; go_simp; first | done | exact hC0 | exact ⟨rfl, hC0⟩ | (simp; exact hC0) | (refine ⟨by simp <;> omega, hC0⟩) | omega
              | 3 => simp at ho; subst ho; simp [gwp, Region.wanted, yielded]; go_simp; first | done | exact hC0 | exact ⟨rfl, hC0⟩ | (simp; exact hC0) | (refine ⟨by simp <;> omega, hC0⟩) | omega
              | 4 => simp at ho; subst ho; simp [gwp, Region.wanted, yielded]; go_simp; first | done | exact hC0 | exact ⟨rfl, hC0⟩ | (simp; exact hC0) | (refine ⟨by simp <;> omega, hC0⟩) | omega
              | 5 => simp at ho; subst ho; simp [gwp, Region.wanted, yielded]; go_simp; first | done | exact hC0 | exact ⟨rfl, hC0⟩ | (simp; exact hC0) | (refine ⟨by simp <;> omega, hC0⟩) | omega
              | 6 => simp at ho; subst ho; simp [gwp, Region.wanted, yielded]; go_simp; first | done | exact hC0 | exact ⟨rfl, hC0⟩ | (simp; exact hC0) | (refine ⟨by simp <;> omega, hC0⟩) | omega
              | 7 => simp at ho; subst ho; simp [gwp, Region.wanted, yielded]; go_simp; first | done | exact hC0 | exact ⟨rfl, hC0⟩ | (simp; exact hC0) | (refine ⟨by simp <;> omega, hC0⟩) | omega
              | 8 => simp at ho; subst ho; simp [gwp, Region.wanted, yielded]; go_simp; first | done | exact hC0 | exact ⟨rfl, hC0⟩ | (simp; exact hC0) | (refine ⟨by simp <;> omega, hC0⟩) | omega
              | 9 => simp at ho; subst ho; simp [gwp, Region.wanted, yielded]; go_simp; first | done | exact hC0 | exact ⟨rfl, hC0⟩ | (simp; exact hC0) | (refine ⟨by simp <;> omega, hC0⟩) | omega
              | 10 => simp at ho; subst ho; simp [gwp, Region.wanted, yielded]; go_simp; first | done | exact hC0 | exact ⟨rfl, hC0⟩ | (simp; exact hC0) | (refine ⟨by simp <;> omega, hC0⟩) | omega
              | 11 => simp at ho; subst ho; simp [gwp, Region.wanted, yielded]; go_simp; first | done | exact hC0 | exact ⟨rfl, hC0⟩ | (simp; exact hC0) | (refine ⟨by simp <;> omega, hC0⟩) | omega
              | 12 => simp at ho; subst ho; simp [gwp, Region.wanted, yielded]; go_simp; first | done | exact hC0 | exact ⟨rfl, hC0⟩ | (simp; exact hC0) | (refine ⟨by simp <;> omega, hC0⟩) | omega
              | 13 => simp at ho; subst ho; simp [gwp, Region.wanted, yielded]; go_simp; first | done | exact hC0 | exact ⟨rfl, hC0⟩ | (simp; exact hC0) | (refine ⟨by simp <;> omega, hC0⟩) | omega
              | 14 => simp at ho; subst ho; simp [gwp, Region.wanted, yielded]; go_simp; first | done | exact hC0 | exact ⟨rfl, hC0⟩ | (simp; exact hC0) | (refine ⟨by simp <;> omega, hC0⟩) | omega
              | 15 => simp at ho; subst ho; simp [gwp, Region.wanted, yielded]; go_simp; first | done | exact hC0 | exact ⟨rfl, hC0⟩ | (simp; exact hC0) | (refine ⟨by simp <;> omega, hC0⟩) | omega
              | 16 => simp at ho; subst ho; simp [gwp, Region.wanted, yielded]; go_simp; first | done | exact hC0 | exact ⟨rfl, hC0⟩ | (simp; exact hC0) | (refine ⟨by simp <;> omega, hC0⟩) | omega
              | 17 => simp at ho; subst ho; simp [gwp, Region.wanted, yielded]; go_simp; first | done | exact hC0 | exact ⟨rfl, hC0⟩ | (simp; exact hC0) | (refine ⟨by simp <;> omega, hC0⟩) | omega
              | ii + 18 => omega
            · intro full hfull us j hj
              simp at hj
            intro full hfull us w7 hus hC
            simp [putAll, slotOf, Act.put] at hfull
            subst hfull
            match us, hus with
            | [], _ =>
            have HB7 := hide ((unhide HB).trans (hC.below.mono (unhide HB).size))
            clear hC HB y0 y1 t0 q0 np nq
            simp [putP]
            cases hnb : (P.name.toList == Q.name.toList) with
            | true =>
              have hnq : (Q.name.toList == P.name.toList) = true := by rw [beq_iff_eq] at hnb ⊢; exact hnb.symm
              have HL : Hid ((coll (twF l set i) (k + 1)).length = (coll (twF l set i) k).length + 1) := by
                show _ = _
                rw [unhide HCS, unhide HFS0, hnq]
                simp
              have hw1 : IntKind.i64.wrap (((pairsTo l set i + (coll (twF l set i) k).length : Nat) : Int) + 1) = ((pairsTo l set i + (coll (twF l set i) (k + 1)).length : Nat) : Int) := by rw [unhide HL, IntKind.wrap_i64]; omega
              clear hnq HFS0 HCS hw1
              go_wp2_with fail
              go_roundw
              case rel => exact ⟨k + 1, by omega, by go_num, congrArg (Value.int .i64) (by have := unhide HL; omega), HB7⟩
              case measure => simp [intOf]; omega
            | false =>
              have hnq : (Q.name.toList == P.name.toList) = false := by rw [beq_eq_false_iff_ne] at hnb ⊢; exact fun e => hnb e.symm
              have HL : Hid ((coll (twF l set i) (k + 1)).length = (coll (twF l set i) k).length) := by
                show _ = _
                rw [unhide HCS, unhide HFS0, hnq]
                simp
              clear hnq HFS0 HCS
              go_wp2_with fail
              go_roundw
              case rel => exact ⟨k + 1, by omega, by go_num, congrArg (Value.int .i64) (by have := unhide HL; omega), HB7⟩
              case measure => simp [intOf]; omega
          · have k1 : ¬ (k : Int) < (i : Int) := by omega
            have hke : k = i := by omega
            have HE : Hid (pairsTo l set (i + 1) = pairsTo l set i + (coll (twF l set i) k).length) := by rw [hke]; rfl
            clear hke
            go_wp2_with fail
            go_roundw
            case rel => exact ⟨i + 1, by omega, by go_num, by rw [unhide HE], HB⟩
            case measure => simp [intOf]; omega
      · have i1 : ¬ (i : Int) < (set.length : Int) := by omega
        have hie : i = set.length := by omega
        have HPT : Hid (pairsTo l set i = twos ws) := by show _ = _; rw [hie]; exact (unhide HTW).symm
        clear hie
        have htl := twos_le ws
        generalize pairsTo l set i = tot at HPT
        have hzq := (unhide HBq).size
        go_wp2_with fail
        go_loopw [7, 10] (fun m kk wr => ∃ k : Nat, k ≤ ws.length ∧ kk = .int .i64 k ∧ m = .int .i64 ((tot : Int) - ((twos (ws.take k) : Nat) : Int)) ∧ Hid (Below w6.heap.size w6 wr)) (fun _ kk _ => ws.length - (intOf kk).toNat)
        case atStart => exact ⟨0, Nat.zero_le _, rfl, by simp [twos], HBq⟩
        case round =>
          rename World => wo
          clear HBq
          obtain ⟨k, hk, rfl, rfl, HB⟩ := hrel
          have htk := twos_le (ws.take k)
          have htk2 : (ws.take k).length ≤ ws.length := by simp; omega
          have htot := unhide HPT
          by_cases hkl : k < ws.length
          · have k1 : (k : Int) < (ws.length : Int) := by omega
            have k0 : (0 : Int) ≤ (k : Int) := by omega
            rcases (unhide HT6).2 with hnil | ⟨b, o, rfl, hbl, hrk⟩
            · rw [hnil] at hkl; simp at hkl
            obtain ⟨c0, c1, c2⟩ := hrk k hkl
            rw [← (unhide HB).cell (p := ⟨b, _, none⟩) hbl] at c0 c1 c2
            have HTK := hide (twos_take hkl)
            generalize ws.getD k dStep = s at c0 c1 c2 HTK
            clear hrk
            by_cases hk2 : s.kind = 2
            · rw [hk2] at c0
              have HL := hide (show twos (ws.take (k + 1)) = twos (ws.take k) + 1 from (unhide HTK).trans (by rw [if_pos hk2]))
              have hw1 : IntKind.i64.wrap ((tot : Int) - ((twos (ws.take k) : Nat) : Int) - 1) = (tot : Int) - ((twos (ws.take (k + 1)) : Nat) : Int) := by rw [unhide HL, IntKind.wrap_i64]; omega
              clear hk2 HTK HL htot
              generalize (tot : Int) - ((twos (ws.take k) : Nat) : Int) = m1 at hw1 ⊢
              go_wp2_with fail
              go_roundw
              case rel => exact ⟨k + 1, by omega, by go_num, by first | rfl | rw [hw1], HB⟩
              case measure => simp [intOf]; omega
            · have hkb : (s.kind == 2) = false := by simpa using hk2
              have HL := hide (show twos (ws.take (k + 1)) = twos (ws.take k) from (unhide HTK).trans (by rw [if_neg hk2]; rfl))
              clear HTK htot
              go_wp2_with fail
              go_roundw
              case rel => exact ⟨k + 1, by omega, by go_num, by rw [unhide HL], HB⟩
              case measure => simp [intOf]; omega
          · have k1 : ¬ (k : Int) < (ws.length : Int) := by omega
            have hke : ws.take k = ws := List.take_of_length_le (by omega)
            have h0 : (tot : Int) - ((twos (ws.take k) : Nat) : Int) = 0 := by rw [hke]; omega
            have HB8 := hide ((unhide HB6).trans ((unhide HB).mono (unhide HB6).size))
            rw [h0]
            clear hke h0 htot
            go_wp2_with fail
            go_ret
            exact ⟨by simp, unhide HB8⟩
end Go.Proofs.Ytmjmcbmfleeolao
