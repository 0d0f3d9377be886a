/- The walk of the law FnWhyLess: of every code and number it answers true, and writes nothing that was there. -/
import Derived.Test.YtcmgddkifhcmlanDrawW
import Derived.Test.YtcmgddkifhcmlanWhyC
import Derived.Test.YtcmgddkifhcmlanWhyS
import Derived.Test.YtcmgddkifhcmlanWhyQ
import Derived.Test.YtcmgddkifhcmlanWhyN
import Derived.Test.YtcmgddkifhcmlanWhyK
import Derived.Test.YtcmgddkifhcmlanGStA
import Derived.Test.YtcmgddkifhcmlanSetP
import Derived.Test.YtcmgddkifhcmlanGGrow
import Derived.Test.YtcmgddkifhcmlanGPd
import Derived.Test.YtcmgddkifhcmlanGReg
import Derived.Maps.AppendAt
import Derived.Deep.QuietTactic
import Derived.BigQuiet
namespace Go.Proofs.Ytcmgddkifhcmlan
set_option linter.unusedVariables false
set_option linter.unusedSimpArgs false
open Go.RowKit Go.Deep

theorem asc_away {set : List Int} (h : Asc set) {k : Nat} (hk : k < set.length) : set.getD k 0 ∉ set.take k ++ set.drop (k + 1) := fun hm => by
  have e : set.getD k 0 = set[k] := by simp [List.getD, hk]
  have hp := List.pairwise_iff_getElem.1 h
  rw [e] at hm
  rcases List.mem_append.1 hm with hm | hm
  · obtain ⟨i, hi, hz⟩ := List.mem_iff_getElem.1 hm
    simp at hi
    rw [List.getElem_take] at hz
    have := hp i k (by omega) hk (by omega)
    omega
  · obtain ⟨i, hi, hz⟩ := List.mem_iff_getElem.1 hm
    simp at hi
    rw [List.getElem_drop] at hz
    have := hp k (k + 1 + i) hk (by omega) (by omega)
    omega
/-- Without a pack no fault is its own. -/
theorem less_away {l : List PackD} {room : Int} {set : List Int} (hf : formB l room set = true) {k : Nat} (hk : k < set.length) {i : Nat} (hi : i < (whyZ l room (set.take k ++ set.drop (k + 1))).length) : ((whyZ l room (set.take k ++ set.drop (k + 1))).getD i dStep).inn ≠ set.getD k 0 := fun e => by
  obtain ⟨ha, hb⟩ := (form_iff (formr hf)).1 hf
  have hm : (whyZ l room (set.take k ++ set.drop (k + 1))).getD i dStep ∈ whyZ l room (set.take k ++ set.drop (k + 1)) := by
    have e : (whyZ l room (set.take k ++ set.drop (k + 1))).getD i dStep = (whyZ l room (set.take k ++ set.drop (k + 1)))[i] := by simp [List.getD, hi]
    rw [e]
    exact List.getElem_mem hi
  have hz : 0 ≤ set.getD k 0 := by
    have e : set.getD k 0 = set[k] := by simp [List.getD, hk]
    have := (hb (set.getD k 0) (by rw [e]; exact List.getElem_mem hk)).1
    exact this
  rcases why_pack hm with h | h
  · omega
  · rw [e] at h
    exact asc_away ha hk h
/-- Numbers laid one behind the other by two appends. -/
structure CR (W : World) (p q : List Int) (b : Bool) (us : List Value) (x : World) : Prop where
  below : Below W.heap.size W x
  r0 : ∀ y, us = [y] → RowI W.heap.size x y []
  r1 : ∀ y z, us = [y, z] → RowI W.heap.size x z p
  r2 : ∀ y z u, us = [y, z, u] → RowI W.heap.size x u (p ++ q)
theorem CR.on {W : World} {p q : List Int} {b b' : Bool} {us : List Value} {x y : World} (h : CR W p q b us x) (hb : Below x.heap.size x y) : CR W p q b' us y :=
  ⟨h.below.trans (hb.mono h.below.size), fun _ hz => ownsRow_on (h.r0 _ hz) hb, fun _ _ hz => ownsRow_on (h.r1 _ _ hz) hb, fun _ _ _ hz => ownsRow_on (h.r2 _ _ _ hz) hb⟩
theorem ints_cells {x : World} {g o : Nat} {p : List Int} (h : ∀ i, i < p.length → x.cell? ⟨g, o + i, none⟩ = some (.int .i64 (p.getD i 0))) : ∀ (j : Nat) (u : Value), (p.map fun i => Value.int .i64 i)[j]? = some u → x.cell? ((⟨g, o, none⟩ : Addr).add j) = some u := fun j u hu => by
  rw [List.getElem?_map] at hu
  by_cases hj : j < p.length
  · have := h j hj
    rw [List.getElem?_eq_getElem hj] at hu
    simp at hu
    subst hu
    by_cases h0 : j = 0
    · subst h0
      simpa [Addr.add, List.getD, hj] using this
    · simpa [Addr.add, List.getD, hj, h0] using this
  · rw [List.getElem?_eq_none (by omega)] at hu
    simp at hu
theorem cells_take {x : World} {g : Nat} {set : List Int} (h : SetAt x (some ⟨g, 0, none⟩) set) (k : Nat) : ∀ i, i < (set.take k).length → x.cell? ⟨g, 0 + i, none⟩ = some (.int .i64 ((set.take k).getD i 0)) := fun i hi => by
  rcases (h.front k).2 with hn | ⟨b, o, e, _, hc⟩
  · rw [hn] at hi; simp at hi
  · simp at e
    obtain ⟨rfl, rfl⟩ := e
    exact hc i hi
theorem cells_drop {x : World} {g : Nat} {set : List Int} (h : SetAt x (some ⟨g, 0, none⟩) set) (k : Nat) : ∀ i, i < (set.drop (k + 1)).length → x.cell? ⟨g, (k + 1) + i, none⟩ = some (.int .i64 ((set.drop (k + 1)).getD i 0)) := fun i hi => by
  rcases (h.rest (k + 1)).2 with hn | ⟨b, o, e, _, hc⟩
  · rw [hn] at hi; simp at hi
  · simp at e
    obtain ⟨rfl, rfl⟩ := e
    have := hc i hi
    simpa using this
set_option maxRecDepth 100000 in
set_option maxHeartbeats 8000000 in
theorem whyless_law (a : Option Addr) (n c : Nat) (a2 : Option Addr) (n2 c2 : Nat) (w : World) (h : CodeAt w.heap.size w a n) (hc : n ≤ c) (hc2 : c ≤ maxLen) (hd : n2 ≤ c2) (hd2 : c2 ≤ maxLen) :
    Calls Try.prog 5 #[.slice a n c, .slice a2 n2 c2] w fun e w' => e = .returned (.bool true) ∧ Below w.heap.size w w' := by
  have hmx := hc2
  unfold maxLen at hmx
  have hmd := hd2
  unfold maxLen at hmd
  by_cases hbig : 1048576 < n
  · have hb' : (1048576 : Int) < (n : Int) := by omega
    go_enter Try.func5, Try.ntmps5
    go_wp2_with fail
    go_ret
    exact ⟨rfl, Below.refl _ _⟩
  have hb' : ¬ (1048576 : Int) < (n : Int) := by omega
  by_cases hbig2 : 1048576 < n2
  · have hb2' : (1048576 : Int) < (n2 : Int) := by omega
    go_enter Try.func5, Try.ntmps5
    go_wp2_with fail
    go_ret
    exact ⟨rfl, Below.refl _ _⟩
  have hb2' : ¬ (1048576 : Int) < (n2 : Int) := by omega
  go_enter Try.func5, Try.ntmps5
  go_wp2_with fail
  refine (DrawWhyNot_V a n c w h (by omega) hc hc2).mono ?_
  rintro e w1 ⟨⟨v, room, u, rfl, hV, set, hrow, hsl⟩, b1⟩
  obtain ⟨va, vn, vc, rfl, _⟩ := SlBy.slice hV
  obtain ⟨l, rfl, hP⟩ := V2.packs hV
  obtain ⟨sa, sc, hu, hset⟩ := RowI.set hrow (by omega)
  subst hu
  have hscl : set.length ≤ sc := row_le hrow
  have HP1 := hide hP
  have HS1 := hide hset
  have HB1 := hide b1
  have hcaps := RowI.room hrow
  clear hV hrow hP hset b1 h
  go_upto_region 4 with fail
  obtain ⟨w2, hw2⟩ : ∃ w2, w2 = w1.alloc (.cells #[.slice va l.length vc, .int .i64 room] 25) := ⟨_, rfl⟩
  rw [← hw2]
  have b2 : Below w1.heap.size w1 w2 := by rw [hw2]; exact (Below.refl _ _).alloc (Nat.le_refl _) _
  have x0 : w2.cell? ⟨w1.heap.size, 0, none⟩ = some (.slice va l.length vc) := by rw [hw2]; simp
  have x1 : w2.cell? ⟨w1.heap.size, 1, none⟩ = some (.int .i64 room) := by rw [hw2]; simp
  have hlt2 : w1.heap.size < w2.heap.size := by rw [hw2]; simp
  have HP2 := hide ((unhide HP1).on b2)
  have HS2 := hide ((unhide HS1).on b2)
  have HB2 := hide ((unhide HB1).trans (b2.mono (unhide HB1).size))
  clear hw2 b2 HP1 HS1 HB1
  obtain ⟨ws, hws⟩ : ∃ ws, ws = whyZ l room set := ⟨_, rfl⟩
  have hwl : ws.length ≤ 400 := by rw [hws]; exact whyZ_len l room set
  have HWS := hide hws
  have HC3 := hide (specWhyNot_any va l vc room sa set sc w2 (unhide HP2) (unhide HS2) hscl)
  rw [← why_same, ← hws] at HC3
  have HC4 := hide (fun x (hx : Below w2.heap.size w2 x) => implWhyNot_any va l vc room sa set sc x ((unhide HP2).on hx) ((unhide HS2).on hx))
  rw [← hws] at HC4
  clear hws
  go_wp2_with fail
  refine (unhide HC3).mono ?_
  rintro e w3 ⟨⟨v3, rfl, hr3⟩, b3⟩
  obtain ⟨pa, pc, hv3, hW3⟩ := hr3.at (by omega)
  subst hv3
  have HW3 := hide hW3
  have HC4b := hide (unhide HC4 w3 b3)
  have HP3 := hide ((unhide HP2).on b3)
  have HS3 := hide ((unhide HS2).on b3)
  have HB3 := hide ((unhide HB2).trans (b3.mono (unhide HB2).size))
  have hlt3 : w1.heap.size < w3.heap.size := Nat.lt_of_lt_of_le hlt2 b3.size
  rw [← b3.cell (p := ⟨w1.heap.size, _, none⟩) hlt2] at x0 x1
  clear HB2 b3 hlt2 HP2 HS2
  clear hr3 hW3 HC3 HC4
  go_wp2_with fail
  refine (unhide HC4b).mono ?_
  rintro e w4 ⟨⟨v4, rfl, hr4⟩, b4⟩
  obtain ⟨ta, tc, hv4, hT4⟩ := hr4.at (by omega)
  subst hv4
  have HT4 := hide hT4
  have HP4 := hide ((unhide HP3).on b4)
  have HS4 := hide ((unhide HS3).on b4)
  have HW4 := hide ((unhide HW3).on b4)
  have HB4 := hide ((unhide HB3).trans (b4.mono (unhide HB3).size))
  have hlt4 : w1.heap.size < w4.heap.size := Nat.lt_of_lt_of_le hlt3 b4.size
  rw [← b4.cell (p := ⟨w1.heap.size, _, none⟩) hlt3] at x0 x1
  clear HB3 b4 hlt3 HP3 HS3 HW3
  clear hr4 hT4 HC4b
  go_wp2_with fail
  refine (ldWhys_same ta ws tc pa pc w4 (unhide HT4) (unhide HW4)).mono ?_
  rintro e w5 ⟨rfl, b5⟩
  have HP5 := hide ((unhide HP4).on b5)
  have HS5 := hide ((unhide HS4).on b5)
  have HW5 := hide ((unhide HW4).on b5)
  have HT5 := hide ((unhide HT4).on b5)
  have HB5 := hide ((unhide HB4).trans (b5.mono (unhide HB4).size))
  have hlt5 : w1.heap.size < w5.heap.size := Nat.lt_of_lt_of_le hlt4 b5.size
  rw [← b5.cell (p := ⟨w1.heap.size, _, none⟩) hlt4] at x0 x1
  clear HB4 b5 hlt4 HP4 HS4 HW4 HT4
  by_cases hem : set.length = 0
  · have hb0 : ((set.length : Int) == 0) = true := beq_iff_eq.2 (by omega)
    clear hem HWS
    go_wp2_with fail
    refine (ldWhys_same ta ws tc pa pc w5 (unhide HT5) (unhide HW5)).mono ?_
    rintro e w6 ⟨rfl, b6⟩
    have HB6 := hide ((unhide HB5).trans (b6.mono (unhide HB5).size))
    clear b6 HB5
    go_wp2_with fail
    go_ret
    exact ⟨by simp, unhide HB6⟩
  have hb0 : ((set.length : Int) == 0) = false := beq_eq_false_iff_ne.2 (by omega)
  have HSZ := hide (specStateSize_any va l vc room sa set sc w5 (unhide HP5) (unhide HS5))
  cases hfm : formB l room set with
  | false =>
    have hz : sizeZ l room set = -1 := by unfold sizeZ; rw [hfm]; rfl
    rw [hz] at HSZ
    clear hz hfm HWS hem
    go_wp2_with fail
    refine (unhide HSZ).mono ?_
    rintro e w6 ⟨rfl, b6⟩
    have HP6 := hide ((unhide HP5).on b6)
    have HS6 := hide ((unhide HS5).on b6)
    have HW6 := hide ((unhide HW5).on b6)
    have HT6 := hide ((unhide HT5).on b6)
    have HB6 := hide ((unhide HB5).trans (b6.mono (unhide HB5).size))
    have hlt6 : w1.heap.size < w6.heap.size := Nat.lt_of_lt_of_le hlt5 b6.size
    rw [← b6.cell (p := ⟨w1.heap.size, _, none⟩) hlt5] at x0 x1
    clear HB5 b6 hlt5 HP5 HS5 HW5 HT5
    clear HSZ
    go_wp2_with fail
    refine (ldWhys_same ta ws tc pa pc w6 (unhide HT6) (unhide HW6)).mono ?_
    rintro e w7 ⟨rfl, b7⟩
    have HB7 := hide ((unhide HB6).trans (b7.mono (unhide HB6).size))
    clear b7 HB6
    go_wp2_with fail
    go_ret
    exact ⟨by simp, unhide HB7⟩
  | true =>
    have hz := form_bounds hfm
    have HF := hide hfm
    generalize sizeZ l room set = zz at HSZ hz
    have hzn : ¬ zz < 0 := by omega
    clear hfm HWS hz
    go_wp2_with fail
    refine (unhide HSZ).mono ?_
    rintro e w6 ⟨rfl, b6⟩
    have HP6 := hide ((unhide HP5).on b6)
    have HS6 := hide ((unhide HS5).on b6)
    have HW6 := hide ((unhide HW5).on b6)
    have HT6 := hide ((unhide HT5).on b6)
    have HB6 := hide ((unhide HB5).trans (b6.mono (unhide HB5).size))
    have hlt6 : w1.heap.size < w6.heap.size := Nat.lt_of_lt_of_le hlt5 b6.size
    rw [← b6.cell (p := ⟨w1.heap.size, _, none⟩) hlt5] at x0 x1
    clear HB5 b6 hlt5 HP5 HS5 HW5 HT5
    clear HSZ
    obtain ⟨k, hkd⟩ : ∃ k, k = n2 % set.length := ⟨_, rfl⟩
    have hk : k < set.length := by rw [hkd]; exact Nat.mod_lt _ (by omega)
    have hmod : Int.tmod (n2 : Int) (set.length : Int) = (k : Int) := by rw [Int.tmod_eq_emod_of_nonneg (by omega), hkd]; norm_cast
    have hwk : IntKind.i64.wrap (k : Int) = (k : Int) := by rw [IntKind.wrap_i64]; omega
    have hw1 : IntKind.i64.wrap ((k : Int) + 1) = (k : Int) + 1 := by rw [IntKind.wrap_i64]; omega
    clear hkd hem
    obtain ⟨i0, hi, hz0, hz1, hz2⟩ := info_parts Try.infoInt'
    rcases hcaps with ⟨_, rfl, _⟩ | ⟨sg, rfl, hg1, hg2⟩
    · simp at hk
    have j1 : (k : Int) < (set.length : Int) := by omega
    have j1' : (k : Int) ≤ (set.length : Int) := by omega
    have j0 : (0 : Int) ≤ (k : Int) := by omega
    have j3 : (k : Int) ≤ (sc : Int) := by omega
    have j4 : (k : Int) + 1 ≤ (set.length : Int) := by omega
    have j5 : (0 : Int) ≤ (k : Int) + 1 := by omega
    have j6 : (k : Int) + 1 ≤ (sc : Int) := by omega
    have j7 : (set.length : Int) ≤ (sc : Int) := by omega
    have js : sc ≠ k := by omega
    by_cases hsc : sc = k + 1
    · have HD0 := hide (show set.drop (k + 1) = [] from List.drop_eq_nil_of_le (by omega))
      have hn0 : set.length - (k + 1) = 0 := by omega
      subst hsc
      have j8 : (k : Int) ≤ (k : Int) + 1 := by omega
      have j8' : (k : Int) ≤ ((k + 1 : Nat) : Int) := by omega
      go_upto_region 9 with fail
      refine wp_region_mix (k := 100) 10 [0, 4, 9] [undef, .slice (some ⟨sg, 0, none⟩) set.length (k + 1), .int .i64 (k : Int), .slice (some ⟨sg, 0, none⟩) k (k + 1), undef, .slice (some ⟨sg, 0, none⟩) set.length (k + 1), .int .i64 (k : Int), .int .i64 ((k : Int) + 1), .slice (some ⟨sg, 0, none⟩) (0) (0), undef] (CR w6 (set.take k) (set.drop (k + 1))) (by kernel_rfl) (by kernel_rfl) (by kernel_rfl) (by kernel_rfl) (by kernel_rfl) (by kernel_rfl) ⟨(Below.refl _ _).drew, (fun _ h => by cases h), (fun _ _ h => by cases h), (fun _ _ _ h => by cases h)⟩ ?_ ?_ ?_
      · intro full hfull i oo hi hns ho x fl us hC hb
        simp [putAll, slotOf, Act.put] at hfull
        subst hfull
        have hC0 := hC.on (b' := fl) (Below.refl _ _)
        match i with
        | 0 => simp at hns
        | 1 => simp at ho; subst ho; simp [gwp, Region.wanted, yielded]; go_simp; first | done | exact hC0 | exact ⟨rfl, hC0⟩ | (simp; exact hC0) | (refine ⟨by simp <;> omega, hC0⟩) | omega
        | 2 => simp at ho; subst ho; simp [gwp, Region.wanted, yielded]; go_simp; first | done | exact hC0 | exact ⟨rfl, hC0⟩ | (simp; exact hC0) | (refine ⟨by simp <;> omega, hC0⟩) | omega
        | 3 => simp at ho; subst ho; simp [gwp, Region.wanted, yielded]; go_simp; first | done | exact hC0 | exact ⟨rfl, hC0⟩ | (simp; exact hC0) | (refine ⟨by simp <;> omega, hC0⟩) | omega
        | 4 => simp at hns
        | 5 => simp at ho; subst ho; simp [gwp, Region.wanted, yielded]; go_simp; first | done | exact hC0 | exact ⟨rfl, hC0⟩ | (simp; exact hC0) | (refine ⟨by simp <;> omega, hC0⟩) | omega
        | 6 => simp at ho; subst ho; simp [gwp, Region.wanted, yielded]; go_simp; first | done | exact hC0 | exact ⟨rfl, hC0⟩ | (simp; exact hC0) | (refine ⟨by simp <;> omega, hC0⟩) | omega
        | 7 => simp at ho; subst ho; simp [gwp, Region.wanted, yielded]; go_simp; first | done | exact hC0 | exact ⟨rfl, hC0⟩ | (simp; exact hC0) | (refine ⟨by simp <;> omega, hC0⟩) | omega
        | 8 => simp at ho; subst ho; simp [gwp, Region.wanted, yielded]; go_simp; first | done | exact hC0 | exact ⟨rfl, hC0⟩ | (simp; exact hC0) | (refine ⟨by simp <;> omega, hC0⟩) | omega
        | 9 => simp at hns
        | i + 10 => omega
      · intro full hfull us j hj oo ho x fl hC
        simp [putAll, slotOf, Act.put] at hfull
        subst hfull
        have bx := hC.below
        have hset := (unhide HS6).on bx
        match us with
        | [] =>
          simp at hj
          subst hj
          simp at ho
          subst ho
          simp [gwp, Region.wanted, yielded, putP]
          go_simp
          have h1 := hC.on (b' := fl) ((Below.refl x.heap.size x).alloc (Nat.le_refl _) (.cells #[] 3))
          refine ⟨h1.below, fun y hy => ?_, (fun y z h => by cases h), (fun y z u h => by cases h)⟩
          cases hy
          exact row_base (RowI.nil x) bx.size
        | [y] =>
          simp at hj
          subst hj
          simp at ho
          subst ho
          have hown := hC.r0 y rfl
          obtain ⟨v', w', hr, h2, h3, _, _⟩ := run_append_own_at (P := Try.prog) x w6.heap.size 26 26 3 i0 (.int .i64 0) 1 8 Try.underlying26 hi hz0 hz1 hz2 rfl (by decide) y _ _ hown ⟨sg, 0, none⟩ k (k + 1) ((set.take k).map fun i => .int .i64 i) (by simp; omega) (ints_cells (cells_take hset k)) (by intro u hu; obtain ⟨z, _, rfl⟩ := List.mem_map.1 hu; rfl) (by unfold maxLen; simp; omega) (by simp; omega) bx.size
          simp only [gwp, Region.wanted, yielded, if_true]
          refine wp_append_runV _ _ 26 rfl y (.slice (some ⟨sg, 0, none⟩) k (k + 1)) v' w' ?_ ?_ hr ⟨v', rfl, ⟨bx.grown h3 bx.size (fun j hj => (World.ownsRow.lt hown j hj).1), (fun y h => by cases h), fun a z h => ?_, (fun a z u h => by cases h)⟩⟩
          · simp [putP, slotOf, Act.put, Act.eval]
          · simp [putP, slotOf, Act.put, Act.eval]
          · cases h
            have e : (set.take k).length = ([] : List Int).length + k := by simp; omega
            unfold RowI
            rw [e]
            simpa using h2
        | [y, z] =>
          simp at hj
          subst hj
          simp at ho
          subst ho
          have hown := hC.r1 y z rfl
          have e0 : (set.take k).length = k := by simp; omega
          obtain ⟨v', w', hr, h2, h3, _, _⟩ := run_append_own_at (P := Try.prog) x w6.heap.size 26 26 3 i0 (.int .i64 0) 1 8 Try.underlying26 hi hz0 hz1 hz2 rfl (by decide) z _ _ hown ⟨sg, 0, none⟩ (0) (0) ((set.drop (k + 1)).map fun i => .int .i64 i) (by simp <;> omega) (ints_cells (by rw [unhide HD0]; intro i hi; simp at hi)) (by intro u hu; obtain ⟨z, _, rfl⟩ := List.mem_map.1 hu; rfl) (by unfold maxLen; simp <;> omega) (by simp <;> omega) bx.size
          simp only [gwp, Region.wanted, yielded, if_true]
          refine wp_append_runV _ _ 26 rfl z (.slice (some ⟨sg, 0, none⟩) (0) (0)) v' w' ?_ ?_ hr ⟨v', rfl, ⟨bx.grown h3 bx.size (fun j hj => (World.ownsRow.lt hown j hj).1), (fun y h => by cases h), (fun a z h => by cases h), fun a b u h => ?_⟩⟩
          · simp [putP, slotOf, Act.put, Act.eval]
          · simp [putP, slotOf, Act.put, Act.eval]
          · cases h
            have e : (set.take k ++ set.drop (k + 1)).length = (set.take k).length + (0) := by simp <;> omega
            unfold RowI
            rw [e]
            simpa using h2
        | _ :: _ :: _ :: _ => simp at hj
      intro full hfull us w7 hus hC
      simp [putAll, slotOf, Act.put] at hfull
      subst hfull
      match us, hus with
      | [y, z, u], _ =>
      have hrow := hC.r2 y z u rfl
      have hrl : (set.take k ++ set.drop (k + 1)).length ≤ 1048576 := by simp; omega
      obtain ⟨ra, rc, hu, hrs⟩ := RowI.set hrow hrl
      subst hu
      have b7 := hC.below
      have HR7 := hide hrs
      have HP7 := hide ((unhide HP6).on b7)
      have HS7 := hide ((unhide HS6).on b7)
      have HW7 := hide ((unhide HW6).on b7)
      have HT7 := hide ((unhide HT6).on b7)
      have HB7 := hide ((unhide HB6).trans (b7.mono (unhide HB6).size))
      have hlt7 : w1.heap.size < w7.heap.size := Nat.lt_of_lt_of_le hlt6 b7.size
      rw [← b7.cell (p := ⟨w1.heap.size, _, none⟩) hlt6] at x0 x1
      clear HB6 b7 hlt6 HP6 HS6 HW6 HT6
      clear hC hrow hrs
      have HCW := hide (implWhyNot_any va l vc room ra (set.take k ++ set.drop (k + 1)) rc w7 (unhide HP7) (unhide HR7))
      have HAW := hide (fun i hi => less_away (l := l) (room := room) (set := set) (unhide HF) hk (i := i) hi)
      have hwl2 := whyZ_len l room (set.take k ++ set.drop (k + 1))
      generalize whyZ l room (set.take k ++ set.drop (k + 1)) = us at HCW HAW hwl2
      generalize set.take k ++ set.drop (k + 1) = rest at HCW HR7 hrl ⊢
      simp [putP, slotOf, Act.put]
      go_wp2_with fail
      refine (unhide HCW).mono ?_
      rintro e w8 ⟨⟨v8, rfl, hr8⟩, b8⟩
      obtain ⟨ua, uc, hv8, hU8⟩ := hr8.at (by omega)
      subst hv8
      have HU8 := hide hU8
      have HS8 := hide ((unhide HS7).on b8)
      have HB8 := hide ((unhide HB7).trans (b8.mono (unhide HB7).size))
      clear hr8 hU8 HCW b8 HB7 HP7 HS7 HW7 HT7 HR7 x0 x1 hlt7
      go_wp2_with fail
      go_loopw [12] (fun i wr => ∃ j : Nat, j ≤ us.length ∧ i = .int .i64 j ∧ Hid (Below w8.heap.size w8 wr)) (fun i _ => us.length - (intOf i).toNat)
      case atStart => exact ⟨0, Nat.zero_le _, rfl, Below.refl _ _⟩
      case round =>
        rename World => wo
        obtain ⟨j, hj, rfl, HB⟩ := hrel
        by_cases hlt : j < us.length
        · have j1 : (j : Int) < (us.length : Int) := by omega
          have j0 : (0 : Int) ≤ (j : Int) := by omega
          rcases (unhide HU8).2 with hnil | ⟨ub, uo, rfl, hub, hru⟩
          · rw [hnil] at hlt; simp at hlt
          obtain ⟨c0, c1, c2⟩ := hru j hlt
          rcases (unhide HS8).2 with hnil | ⟨sb, so, hse, hsb, hrs⟩
          · rw [hnil] at hk; simp at hk
          simp at hse
          obtain ⟨rfl, rfl⟩ := hse
          have s0 := hrs k hk
          simp only [Nat.zero_add] at s0
          have hne := unhide HAW j hlt
          have jk1 : (k : Int) < (set.length : Int) := by omega
          have jk0 : (0 : Int) ≤ (k : Int) := by omega
          generalize us.getD j dStep = t at c0 c1 c2 hne
          generalize set.getD k 0 = z at s0 hne
          have hb : (t.inn == z) = false := beq_eq_false_iff_ne.2 hne
          rw [← (unhide HB).cell (p := ⟨ub, _, none⟩) hub] at c0 c1 c2
          rw [← (unhide HB).cell (p := ⟨sg, _, none⟩) hsb] at s0
          clear hru hrs hne
          go_wp2_with fail
          go_quiet (fail)
          go_wp2_with fail
          go_roundw
          case rel => exact ⟨j + 1, by omega, by go_num, hide ((unhide HB).trans (((Drawn.refl wo).more _).below _))⟩
          case measure => simp [intOf]; omega
        · have j1 : ¬ (j : Int) < (us.length : Int) := by omega
          have HB9 := hide ((unhide HB8).trans ((unhide HB).mono (unhide HB8).size))
          go_wp2_with fail
          go_ret
          exact ⟨rfl, unhide HB9⟩
    · go_upto_region 9 with fail
      refine wp_region_mix (k := 100) 10 [0, 4, 9] [undef, .slice (some ⟨sg, 0, none⟩) set.length (sc), .int .i64 (k : Int), .slice (some ⟨sg, 0, none⟩) k (sc), undef, .slice (some ⟨sg, 0, none⟩) set.length (sc), .int .i64 (k : Int), .int .i64 ((k : Int) + 1), .slice (some ⟨sg, k + 1, none⟩) (set.length - (k + 1)) (sc - (k + 1)), undef] (CR w6 (set.take k) (set.drop (k + 1))) (by kernel_rfl) (by kernel_rfl) (by kernel_rfl) (by kernel_rfl) (by kernel_rfl) (by kernel_rfl) ⟨(Below.refl _ _).drew, (fun _ h => by cases h), (fun _ _ h => by cases h), (fun _ _ _ h => by cases h)⟩ ?_ ?_ ?_
      · intro full hfull i oo hi hns ho x fl us hC hb
        simp [putAll, slotOf, Act.put] at hfull
        subst hfull
        have hC0 := hC.on (b' := fl) (Below.refl _ _)
        match i with
        | 0 => simp at hns
        | 1 => simp at ho; subst ho; simp [gwp, Region.wanted, yielded]; go_simp; first | done | exact hC0 | exact ⟨rfl, hC0⟩ | (simp; exact hC0) | (refine ⟨by simp <;> omega, hC0⟩) | omega
        | 2 => simp at ho; subst ho; simp [gwp, Region.wanted, yielded]; go_simp; first | done | exact hC0 | exact ⟨rfl, hC0⟩ | (simp; exact hC0) | (refine ⟨by simp <;> omega, hC0⟩) | omega
        | 3 => simp at ho; subst ho; simp [gwp, Region.wanted, yielded]; go_simp; first | done | exact hC0 | exact ⟨rfl, hC0⟩ | (simp; exact hC0) | (refine ⟨by simp <;> omega, hC0⟩) | omega
        | 4 => simp at hns
        | 5 => simp at ho; subst ho; simp [gwp, Region.wanted, yielded]; go_simp; first | done | exact hC0 | exact ⟨rfl, hC0⟩ | (simp; exact hC0) | (refine ⟨by simp <;> omega, hC0⟩) | omega
        | 6 => simp at ho; subst ho; simp [gwp, Region.wanted, yielded]; go_simp; first | done | exact hC0 | exact ⟨rfl, hC0⟩ | (simp; exact hC0) | (refine ⟨by simp <;> omega, hC0⟩) | omega
        | 7 => simp at ho; subst ho; simp [gwp, Region.wanted, yielded]; go_simp; first | done | exact hC0 | exact ⟨rfl, hC0⟩ | (simp; exact hC0) | (refine ⟨by simp <;> omega, hC0⟩) | omega
        | 8 => simp at ho; subst ho; simp [gwp, Region.wanted, yielded]; go_simp; first | done | exact hC0 | exact ⟨rfl, hC0⟩ | (simp; exact hC0) | (refine ⟨by simp <;> omega, hC0⟩) | omega
        | 9 => simp at hns
        | i + 10 => omega
      · intro full hfull us j hj oo ho x fl hC
        simp [putAll, slotOf, Act.put] at hfull
        subst hfull
        have bx := hC.below
        have hset := (unhide HS6).on bx
        match us with
        | [] =>
          simp at hj
          subst hj
          simp at ho
          subst ho
          simp [gwp, Region.wanted, yielded, putP]
          go_simp
          have h1 := hC.on (b' := fl) ((Below.refl x.heap.size x).alloc (Nat.le_refl _) (.cells #[] 3))
          refine ⟨h1.below, fun y hy => ?_, (fun y z h => by cases h), (fun y z u h => by cases h)⟩
          cases hy
          exact row_base (RowI.nil x) bx.size
        | [y] =>
          simp at hj
          subst hj
          simp at ho
          subst ho
          have hown := hC.r0 y rfl
          obtain ⟨v', w', hr, h2, h3, _, _⟩ := run_append_own_at (P := Try.prog) x w6.heap.size 26 26 3 i0 (.int .i64 0) 1 8 Try.underlying26 hi hz0 hz1 hz2 rfl (by decide) y _ _ hown ⟨sg, 0, none⟩ k (sc) ((set.take k).map fun i => .int .i64 i) (by simp; omega) (ints_cells (cells_take hset k)) (by intro u hu; obtain ⟨z, _, rfl⟩ := List.mem_map.1 hu; rfl) (by unfold maxLen; simp; omega) (by simp; omega) bx.size
          simp only [gwp, Region.wanted, yielded, if_true]
          refine wp_append_runV _ _ 26 rfl y (.slice (some ⟨sg, 0, none⟩) k (sc)) v' w' ?_ ?_ hr ⟨v', rfl, ⟨bx.grown h3 bx.size (fun j hj => (World.ownsRow.lt hown j hj).1), (fun y h => by cases h), fun a z h => ?_, (fun a z u h => by cases h)⟩⟩
          · simp [putP, slotOf, Act.put, Act.eval]
          · simp [putP, slotOf, Act.put, Act.eval]
          · cases h
            have e : (set.take k).length = ([] : List Int).length + k := by simp; omega
            unfold RowI
            rw [e]
            simpa using h2
        | [y, z] =>
          simp at hj
          subst hj
          simp at ho
          subst ho
          have hown := hC.r1 y z rfl
          have e0 : (set.take k).length = k := by simp; omega
          obtain ⟨v', w', hr, h2, h3, _, _⟩ := run_append_own_at (P := Try.prog) x w6.heap.size 26 26 3 i0 (.int .i64 0) 1 8 Try.underlying26 hi hz0 hz1 hz2 rfl (by decide) z _ _ hown ⟨sg, k + 1, none⟩ (set.length - (k + 1)) (sc - (k + 1)) ((set.drop (k + 1)).map fun i => .int .i64 i) (by simp <;> omega) (ints_cells (cells_drop hset k)) (by intro u hu; obtain ⟨z, _, rfl⟩ := List.mem_map.1 hu; rfl) (by unfold maxLen; simp <;> omega) (by simp <;> omega) bx.size
          simp only [gwp, Region.wanted, yielded, if_true]
          refine wp_append_runV _ _ 26 rfl z (.slice (some ⟨sg, k + 1, none⟩) (set.length - (k + 1)) (sc - (k + 1))) v' w' ?_ ?_ hr ⟨v', rfl, ⟨bx.grown h3 bx.size (fun j hj => (World.ownsRow.lt hown j hj).1), (fun y h => by cases h), (fun a z h => by cases h), fun a b u h => ?_⟩⟩
          · simp [putP, slotOf, Act.put, Act.eval]
          · simp [putP, slotOf, Act.put, Act.eval]
          · cases h
            have e : (set.take k ++ set.drop (k + 1)).length = (set.take k).length + (set.length - (k + 1)) := by simp <;> omega
            unfold RowI
            rw [e]
            simpa using h2
        | _ :: _ :: _ :: _ => simp at hj
      intro full hfull us w7 hus hC
      simp [putAll, slotOf, Act.put] at hfull
      subst hfull
      match us, hus with
      | [y, z, u], _ =>
      have hrow := hC.r2 y z u rfl
      have hrl : (set.take k ++ set.drop (k + 1)).length ≤ 1048576 := by simp; omega
      obtain ⟨ra, rc, hu, hrs⟩ := RowI.set hrow hrl
      subst hu
      have b7 := hC.below
      have HR7 := hide hrs
      have HP7 := hide ((unhide HP6).on b7)
      have HS7 := hide ((unhide HS6).on b7)
      have HW7 := hide ((unhide HW6).on b7)
      have HT7 := hide ((unhide HT6).on b7)
      have HB7 := hide ((unhide HB6).trans (b7.mono (unhide HB6).size))
      have hlt7 : w1.heap.size < w7.heap.size := Nat.lt_of_lt_of_le hlt6 b7.size
      rw [← b7.cell (p := ⟨w1.heap.size, _, none⟩) hlt6] at x0 x1
      clear HB6 b7 hlt6 HP6 HS6 HW6 HT6
      clear hC hrow hrs
      have HCW := hide (implWhyNot_any va l vc room ra (set.take k ++ set.drop (k + 1)) rc w7 (unhide HP7) (unhide HR7))
      have HAW := hide (fun i hi => less_away (l := l) (room := room) (set := set) (unhide HF) hk (i := i) hi)
      have hwl2 := whyZ_len l room (set.take k ++ set.drop (k + 1))
      generalize whyZ l room (set.take k ++ set.drop (k + 1)) = us at HCW HAW hwl2
      generalize set.take k ++ set.drop (k + 1) = rest at HCW HR7 hrl ⊢
      simp [putP, slotOf, Act.put]
      go_wp2_with fail
      refine (unhide HCW).mono ?_
      rintro e w8 ⟨⟨v8, rfl, hr8⟩, b8⟩
      obtain ⟨ua, uc, hv8, hU8⟩ := hr8.at (by omega)
      subst hv8
      have HU8 := hide hU8
      have HS8 := hide ((unhide HS7).on b8)
      have HB8 := hide ((unhide HB7).trans (b8.mono (unhide HB7).size))
      clear hr8 hU8 HCW b8 HB7 HP7 HS7 HW7 HT7 HR7 x0 x1 hlt7
      go_wp2_with fail
      go_loopw [12] (fun i wr => ∃ j : Nat, j ≤ us.length ∧ i = .int .i64 j ∧ Hid (Below w8.heap.size w8 wr)) (fun i _ => us.length - (intOf i).toNat)
      case atStart => exact ⟨0, Nat.zero_le _, rfl, Below.refl _ _⟩
      case round =>
        rename World => wo
        obtain ⟨j, hj, rfl, HB⟩ := hrel
        by_cases hlt : j < us.length
        · have j1 : (j : Int) < (us.length : Int) := by omega
          have j0 : (0 : Int) ≤ (j : Int) := by omega
          rcases (unhide HU8).2 with hnil | ⟨ub, uo, rfl, hub, hru⟩
          · rw [hnil] at hlt; simp at hlt
          obtain ⟨c0, c1, c2⟩ := hru j hlt
          rcases (unhide HS8).2 with hnil | ⟨sb, so, hse, hsb, hrs⟩
          · rw [hnil] at hk; simp at hk
          simp at hse
          obtain ⟨rfl, rfl⟩ := hse
          have s0 := hrs k hk
          simp only [Nat.zero_add] at s0
          have hne := unhide HAW j hlt
          have jk1 : (k : Int) < (set.length : Int) := by omega
          have jk0 : (0 : Int) ≤ (k : Int) := by omega
          generalize us.getD j dStep = t at c0 c1 c2 hne
          generalize set.getD k 0 = z at s0 hne
          have hb : (t.inn == z) = false := beq_eq_false_iff_ne.2 hne
          rw [← (unhide HB).cell (p := ⟨ub, _, none⟩) hub] at c0 c1 c2
          rw [← (unhide HB).cell (p := ⟨sg, _, none⟩) hsb] at s0
          clear hru hrs hne
          go_wp2_with fail
          go_quiet (fail)
          go_wp2_with fail
          go_roundw
          case rel => exact ⟨j + 1, by omega, by go_num, hide ((unhide HB).trans (((Drawn.refl wo).more _).below _))⟩
          case measure => simp [intOf]; omega
        · have j1 : ¬ (j : Int) < (us.length : Int) := by omega
          have HB9 := hide ((unhide HB8).trans ((unhide HB).mono (unhide HB8).size))
          go_wp2_with fail
          go_ret
          exact ⟨rfl, unhide HB9⟩
  end Go.Proofs.Ytcmgddkifhcmlan
