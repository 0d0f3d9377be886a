/- The walk of the law FnCnfUnits: of every code it answers true, and writes nothing that was there. -/
import Derived.Test.YtnhboegiddkhfafGDcn
import Derived.Test.YtnhboegiddkhfafGFo
import Derived.Test.YtnhboegiddkhfafGSu
import Derived.Test.YtnhboegiddkhfafGUp
namespace Go.Proofs.Ytnhboegiddkhfaf
set_option linter.unusedVariables false
set_option linter.unusedSimpArgs false
open Go.RowKit Go.Deep

theorem Try.infoBo : (Try.prog.info? 4).map (fun i => (i.zero, i.size, i.bytes)) = some (some (.bool false), 1, 1) := by kernel_rfl
abbrev RowB (B : Nat) (w : World) (v : Value) (l : List Bool) : Prop := w.ownsRow B 4 1 v l.length (l.map fun i => .bool i)
theorem RowB.nil (w : World) : RowB w.heap.size (w.alloc (.cells #[] 4)) (.slice (some ⟨w.heap.size, 0, none⟩) 0 0) [] :=
  ⟨rfl, Or.inr ⟨w.heap.size, 0, #[], rfl, Nat.le_refl _, blk_alloc_new _ _, Nat.zero_le _, Nat.zero_le _, rfl, rfl⟩⟩
theorem RowB.at {B : Nat} {w : World} {v : Value} {l : List Bool} (h : RowB B w v l) (hl : l.length ≤ 1048576) : ∃ a cap, v = .slice a l.length cap ∧ BoolsAt w a l := by
  obtain ⟨h1, h2⟩ := h
  rcases h2 with ⟨hv, h0⟩ | ⟨g, cap, cur, hv, hB, hc, hcap, _, hsz, hx⟩
  · have : l = [] := List.length_eq_zero_iff.1 h0
    subst this
    exact ⟨none, 0, hv, by simp, Or.inl rfl⟩
  · refine ⟨some ⟨g, 0, none⟩, cap, hv, hl, Or.inr ⟨g, 0, rfl, (Array.getElem?_eq_some_iff.1 hc).1, fun i hi => ?_⟩⟩
    have e : cur.toList[i]? = some (.bool (l.getD i false)) := by
      have : (cur.toList.take (l.length * 1))[i]? = (l.map fun i => Value.bool i)[i]? := by rw [hx]
      rw [List.getElem?_take, if_pos (by omega)] at this
      rw [this]
      simp [List.getD, hi]
    simp only [World.cell?, hc, Nat.zero_add]
    simpa using e
set_option maxHeartbeats 1000000 in
theorem ldLit_any (a : Option Addr) (m : List Bool) (c : Nat) (x : Int) (w : World) (h : BoolsAt w a m) (h0 : x ≠ 0) (h1 : -(m.length : Int) ≤ x) (h2 : x ≤ m.length) :
    Calls Try.prog 20 #[.slice a m.length c, .int .i64 x] w fun e w' => e = .returned (.bool (soB m x)) ∧ w' = w := by
  obtain ⟨hm, h⟩ := h
  rcases h with h | ⟨b, o, rfl, _, h⟩
  · subst h; simp at h1 h2; omega
  by_cases hx : 0 < x
  · obtain ⟨p, hp⟩ : ∃ p : Nat, x - 1 = p := ⟨(x - 1).toNat, by omega⟩
    have hw : IntKind.i64.wrap (x - 1) = (p : Int) := by rw [IntKind.wrap_i64]; omega
    have c0 := h p (by omega)
    have hpl : (p : Int) < (m.length : Int) := by omega
    have hs : soB m x = m.getD p false := by unfold soB; rw [if_pos hx, hp, Int.toNat_natCast]
    rw [hs]
    generalize m.getD p false = z at c0
    clear h hs hp
    go_enter Try.func20, Try.ntmps20
    go_wp2_with fail
    go_ret
    exact ⟨rfl, rfl⟩
  · obtain ⟨p, hp⟩ : ∃ p : Nat, -x - 1 = p := ⟨(-x - 1).toNat, by omega⟩
    have hw0 : IntKind.i64.wrap (-x) = -x := by rw [IntKind.wrap_i64]; omega
    have hw : IntKind.i64.wrap (-x - 1) = (p : Int) := by rw [IntKind.wrap_i64]; omega
    have c0 := h p (by omega)
    have hpl : (p : Int) < (m.length : Int) := by omega
    have hs : soB m x = !m.getD p false := by unfold soB; rw [if_neg hx, hp, Int.toNat_natCast]
    rw [hs]
    generalize m.getD p false = z at c0
    clear h hs hp
    go_enter Try.func20, Try.ntmps20
    go_wp2_with fail
    go_ret
    exact ⟨rfl, rfl⟩

set_option maxRecDepth 100000 in
set_option maxHeartbeats 8000000 in
theorem cnfunits_law (a : Option Addr) (n c : Nat) (a2 : Option Addr) (n2 c2 : Nat) (w : World) (h : CodeAt w.heap.size w a n) (hc : n ≤ c) (hc2 : c ≤ maxLen) (hd : n2 ≤ c2) (hd2 : c2 ≤ maxLen) :
    Calls Try.prog 5 #[.slice a n c, .slice a2 n2 c2] w fun e w' => e = .returned (.bool true) ∧ Below w.heap.size w w' := by
  have hmx := hc2
  unfold maxLen at hmx
  have hmd := hd2
  unfold maxLen at hmd
  by_cases hbig : 1048576 < n
  · have hb' : (1048576 : Int) < (n : Int) := by omega
    go_enter Try.func5, Try.ntmps5
    go_wp2_with fail
    go_ret
    exact ⟨rfl, Below.refl _ _⟩
  have hb' : ¬ (1048576 : Int) < (n : Int) := by omega
  by_cases hbig2 : 1048576 < n2
  · have hb2' : (1048576 : Int) < (n2 : Int) := by omega
    go_enter Try.func5, Try.ntmps5
    go_wp2_with fail
    go_ret
    exact ⟨rfl, Below.refl _ _⟩
  have hb2' : ¬ (1048576 : Int) < (n2 : Int) := by omega
  go_enter Try.func5, Try.ntmps5
  go_wp2_with fail
  refine (DrawCnfUnits_V a n c w h (by omega) hc hc2).mono ?_
  rintro e w1 ⟨⟨vars, v, ls, vs, u, set, rfl, hL, hll, hsh, hrow, hsl⟩, b1⟩
  obtain ⟨va, vc, hv, hcls⟩ := hL.cls (by omega) hsh
  subst hv
  obtain ⟨sa, sc, hu, hset⟩ := RowI.set hrow (by omega)
  subst hu
  have HC1 := hide hcls
  have HS1 := hide hset
  have HB1 := hide b1
  clear hL hcls hrow hset b1 h
  go_upto_region 4 with fail
  obtain ⟨w2, hw2⟩ : ∃ w2, w2 = w1.alloc (.cells #[.int .i64 vars, .slice va ls.length vc] 37) := ⟨_, rfl⟩
  rw [← hw2]
  have b2 : Below w1.heap.size w1 w2 := by rw [hw2]; exact (Below.refl _ _).alloc (Nat.le_refl _) _
  have x0 : w2.cell? ⟨w1.heap.size, 0, none⟩ = some (.int .i64 vars) := by rw [hw2]; simp
  have x1 : w2.cell? ⟨w1.heap.size, 1, none⟩ = some (.slice va ls.length vc) := by rw [hw2]; simp
  have hlt2 : w1.heap.size < w2.heap.size := by rw [hw2]; simp
  have HC2 := hide ((unhide HC1).on b2)
  have HS2 := hide ((unhide HS1).on b2)
  have HB2 := hide ((unhide HB1).trans (b2.mono (unhide HB1).size))
  clear hw2 b2 HC1 HS1 HB1
  obtain ⟨rl, rb, hr⟩ : ∃ rl rb, unitsZ vars ls set = (rl, rb) := ⟨_, _, rfl⟩
  have HR := hide hr
  have hrl : rl.length ≤ 400 := units_len hr
  have HCX3 := hide (specCnfUnits_any vars va ls vc sa set sc w2 (unhide HC2) (unhide HS2))
  have HCX4 := hide (fun x (hx : Below w2.heap.size w2 x) => implCnfUnits_any vars va ls vc sa set sc x ((unhide HC2).on hx) ((unhide HS2).on hx))
  rw [hr] at HCX3 HCX4
  clear hr
  go_wp2_with fail
  refine (unhide HCX3).mono ?_
  rintro e w3 ⟨⟨v3, rfl, hr3⟩, b3⟩
  obtain ⟨wa, wc, hv3, hW3⟩ := RowI.set hr3 (by show rl.length ≤ 1048576; omega)
  subst hv3
  have HW3 := hide hW3
  have HC4b := hide (unhide HCX4 w3 b3)
  have HC3 := hide ((unhide HC2).on b3)
  have HS3 := hide ((unhide HS2).on b3)
  have HB3 := hide ((unhide HB2).trans (b3.mono (unhide HB2).size))
  have hlt3 : w1.heap.size < w3.heap.size := Nat.lt_of_lt_of_le hlt2 b3.size
  rw [← b3.cell (p := ⟨w1.heap.size, _, none⟩) hlt2] at x0 x1
  clear HC2 HS2 HB2 b3 hlt2 HCX3 HCX4 hr3 hW3
  go_wp2_with fail
  refine (unhide HC4b).mono ?_
  rintro e w4 ⟨⟨v4, rfl, hr4⟩, b4⟩
  obtain ⟨ga, gc, hv4, hG4⟩ := RowI.set hr4 (by show rl.length ≤ 1048576; omega)
  subst hv4
  have HG4 := hide hG4
  have HW4 := hide ((unhide HW3).on b4)
  have HC4 := hide ((unhide HC3).on b4)
  have HS4 := hide ((unhide HS3).on b4)
  have HB4 := hide ((unhide HB3).trans (b4.mono (unhide HB3).size))
  have hlt4 : w1.heap.size < w4.heap.size := Nat.lt_of_lt_of_le hlt3 b4.size
  rw [← b4.cell (p := ⟨w1.heap.size, _, none⟩) hlt3] at x0 x1
  clear HC3 HS3 HB3 b4 hlt3 HW3 HC4b hr4 hG4
  by_cases h0 : rl.length = 0
  · have e0 := List.length_eq_zero_iff.1 h0
    subst e0
    clear h0 HR
    cases rb with
    | true =>
      cases hcb : cnfB vars ls with
      | false =>
        go_wp2_with fail
        refine (ldInts_I ga wa [] gc wc w4 (unhide HG4) (unhide HW4)).mono ?_
        rintro e w5 ⟨rfl, b5⟩
        have HW5 := hide ((unhide HW4).on b5)
        have HG5 := hide ((unhide HG4).on b5)
        have HC5 := hide ((unhide HC4).on b5)
        have HS5 := hide ((unhide HS4).on b5)
        have HB5 := hide ((unhide HB4).trans (b5.mono (unhide HB4).size))
        have hlt5 : w1.heap.size < w5.heap.size := Nat.lt_of_lt_of_le hlt4 b5.size
        rw [← b5.cell (p := ⟨w1.heap.size, _, none⟩) hlt4] at x0 x1
        clear HW4 HG4 HC4 HS4 HB4 b5 hlt4
        go_wp2_with fail
        refine (specCnfOk_any vars va ls vc w5 (unhide HC5)).mono ?_
        rintro e w6 ⟨rfl, b6⟩
        rw [hcb]
        have HW6 := hide ((unhide HW5).on b6)
        have HG6 := hide ((unhide HG5).on b6)
        have HC6 := hide ((unhide HC5).on b6)
        have HS6 := hide ((unhide HS5).on b6)
        have HB6 := hide ((unhide HB5).trans (b6.mono (unhide HB5).size))
        have hlt6 : w1.heap.size < w6.heap.size := Nat.lt_of_lt_of_le hlt5 b6.size
        rw [← b6.cell (p := ⟨w1.heap.size, _, none⟩) hlt5] at x0 x1
        clear HW5 HG5 HC5 HS5 HB5 b6 hlt5
        go_wp2_with fail
        refine (ldInts_I ga wa [] gc wc w6 (unhide HG6) (unhide HW6)).mono ?_
        rintro e w7 ⟨rfl, b7⟩
        have HW7 := hide ((unhide HW6).on b7)
        have HG7 := hide ((unhide HG6).on b7)
        have HC7 := hide ((unhide HC6).on b7)
        have HS7 := hide ((unhide HS6).on b7)
        have HB7 := hide ((unhide HB6).trans (b7.mono (unhide HB6).size))
        have hlt7 : w1.heap.size < w7.heap.size := Nat.lt_of_lt_of_le hlt6 b7.size
        rw [← b7.cell (p := ⟨w1.heap.size, _, none⟩) hlt6] at x0 x1
        clear HW6 HG6 HC6 HS6 HB6 b7 hlt6
        go_wp2_with fail
        go_ret
        exact ⟨rfl, unhide HB7⟩
      | true =>
        by_cases h12 : 12 < vars
        · go_wp2_with fail
          refine (ldInts_I ga wa [] gc wc w4 (unhide HG4) (unhide HW4)).mono ?_
          rintro e w5 ⟨rfl, b5⟩
          have HW5 := hide ((unhide HW4).on b5)
          have HG5 := hide ((unhide HG4).on b5)
          have HC5 := hide ((unhide HC4).on b5)
          have HS5 := hide ((unhide HS4).on b5)
          have HB5 := hide ((unhide HB4).trans (b5.mono (unhide HB4).size))
          have hlt5 : w1.heap.size < w5.heap.size := Nat.lt_of_lt_of_le hlt4 b5.size
          rw [← b5.cell (p := ⟨w1.heap.size, _, none⟩) hlt4] at x0 x1
          clear HW4 HG4 HC4 HS4 HB4 b5 hlt4
          go_wp2_with fail
          refine (specCnfOk_any vars va ls vc w5 (unhide HC5)).mono ?_
          rintro e w6 ⟨rfl, b6⟩
          rw [hcb]
          have HW6 := hide ((unhide HW5).on b6)
          have HG6 := hide ((unhide HG5).on b6)
          have HC6 := hide ((unhide HC5).on b6)
          have HS6 := hide ((unhide HS5).on b6)
          have HB6 := hide ((unhide HB5).trans (b6.mono (unhide HB5).size))
          have hlt6 : w1.heap.size < w6.heap.size := Nat.lt_of_lt_of_le hlt5 b6.size
          rw [← b6.cell (p := ⟨w1.heap.size, _, none⟩) hlt5] at x0 x1
          clear HW5 HG5 HC5 HS5 HB5 b6 hlt5
          go_wp2_with fail
          refine (ldInts_I ga wa [] gc wc w6 (unhide HG6) (unhide HW6)).mono ?_
          rintro e w7 ⟨rfl, b7⟩
          have HW7 := hide ((unhide HW6).on b7)
          have HG7 := hide ((unhide HG6).on b7)
          have HC7 := hide ((unhide HC6).on b7)
          have HS7 := hide ((unhide HS6).on b7)
          have HB7 := hide ((unhide HB6).trans (b7.mono (unhide HB6).size))
          have hlt7 : w1.heap.size < w7.heap.size := Nat.lt_of_lt_of_le hlt6 b7.size
          rw [← b7.cell (p := ⟨w1.heap.size, _, none⟩) hlt6] at x0 x1
          clear HW6 HG6 HC6 HS6 HB6 b7 hlt6
          go_wp2_with fail
          go_ret
          exact ⟨rfl, unhide HB7⟩
        · go_wp2_with fail
          refine (ldInts_I ga wa [] gc wc w4 (unhide HG4) (unhide HW4)).mono ?_
          rintro e w5 ⟨rfl, b5⟩
          have HW5 := hide ((unhide HW4).on b5)
          have HG5 := hide ((unhide HG4).on b5)
          have HC5 := hide ((unhide HC4).on b5)
          have HS5 := hide ((unhide HS4).on b5)
          have HB5 := hide ((unhide HB4).trans (b5.mono (unhide HB4).size))
          have hlt5 : w1.heap.size < w5.heap.size := Nat.lt_of_lt_of_le hlt4 b5.size
          rw [← b5.cell (p := ⟨w1.heap.size, _, none⟩) hlt4] at x0 x1
          clear HW4 HG4 HC4 HS4 HB4 b5 hlt4
          go_wp2_with fail
          refine (specCnfOk_any vars va ls vc w5 (unhide HC5)).mono ?_
          rintro e w6 ⟨rfl, b6⟩
          rw [hcb]
          have HW6 := hide ((unhide HW5).on b6)
          have HG6 := hide ((unhide HG5).on b6)
          have HC6 := hide ((unhide HC5).on b6)
          have HS6 := hide ((unhide HS5).on b6)
          have HB6 := hide ((unhide HB5).trans (b6.mono (unhide HB5).size))
          have hlt6 : w1.heap.size < w6.heap.size := Nat.lt_of_lt_of_le hlt5 b6.size
          rw [← b6.cell (p := ⟨w1.heap.size, _, none⟩) hlt5] at x0 x1
          clear HW5 HG5 HC5 HS5 HB5 b6 hlt5
          go_wp2_with fail
          refine (ldInts_I ga wa [] gc wc w6 (unhide HG6) (unhide HW6)).mono ?_
          rintro e w7 ⟨rfl, b7⟩
          have HW7 := hide ((unhide HW6).on b7)
          have HG7 := hide ((unhide HG6).on b7)
          have HC7 := hide ((unhide HC6).on b7)
          have HS7 := hide ((unhide HS6).on b7)
          have HB7 := hide ((unhide HB6).trans (b7.mono (unhide HB6).size))
          have hlt7 : w1.heap.size < w7.heap.size := Nat.lt_of_lt_of_le hlt6 b7.size
          rw [← b7.cell (p := ⟨w1.heap.size, _, none⟩) hlt6] at x0 x1
          clear HW6 HG6 HC6 HS6 HB6 b7 hlt6
          go_wp2_with fail
          go_ret
          exact ⟨rfl, unhide HB7⟩
    | false =>
      cases hcb : cnfB vars ls with
      | false =>
        go_wp2_with fail
        refine (ldInts_I ga wa [] gc wc w4 (unhide HG4) (unhide HW4)).mono ?_
        rintro e w5 ⟨rfl, b5⟩
        have HW5 := hide ((unhide HW4).on b5)
        have HG5 := hide ((unhide HG4).on b5)
        have HC5 := hide ((unhide HC4).on b5)
        have HS5 := hide ((unhide HS4).on b5)
        have HB5 := hide ((unhide HB4).trans (b5.mono (unhide HB4).size))
        have hlt5 : w1.heap.size < w5.heap.size := Nat.lt_of_lt_of_le hlt4 b5.size
        rw [← b5.cell (p := ⟨w1.heap.size, _, none⟩) hlt4] at x0 x1
        clear HW4 HG4 HC4 HS4 HB4 b5 hlt4
        go_wp2_with fail
        refine (specCnfOk_any vars va ls vc w5 (unhide HC5)).mono ?_
        rintro e w6 ⟨rfl, b6⟩
        rw [hcb]
        have HW6 := hide ((unhide HW5).on b6)
        have HG6 := hide ((unhide HG5).on b6)
        have HC6 := hide ((unhide HC5).on b6)
        have HS6 := hide ((unhide HS5).on b6)
        have HB6 := hide ((unhide HB5).trans (b6.mono (unhide HB5).size))
        have hlt6 : w1.heap.size < w6.heap.size := Nat.lt_of_lt_of_le hlt5 b6.size
        rw [← b6.cell (p := ⟨w1.heap.size, _, none⟩) hlt5] at x0 x1
        clear HW5 HG5 HC5 HS5 HB5 b6 hlt5
        go_wp2_with fail
        refine (ldInts_I ga wa [] gc wc w6 (unhide HG6) (unhide HW6)).mono ?_
        rintro e w7 ⟨rfl, b7⟩
        have HW7 := hide ((unhide HW6).on b7)
        have HG7 := hide ((unhide HG6).on b7)
        have HC7 := hide ((unhide HC6).on b7)
        have HS7 := hide ((unhide HS6).on b7)
        have HB7 := hide ((unhide HB6).trans (b7.mono (unhide HB6).size))
        have hlt7 : w1.heap.size < w7.heap.size := Nat.lt_of_lt_of_le hlt6 b7.size
        rw [← b7.cell (p := ⟨w1.heap.size, _, none⟩) hlt6] at x0 x1
        clear HW6 HG6 HC6 HS6 HB6 b7 hlt6
        go_wp2_with fail
        go_ret
        exact ⟨rfl, unhide HB7⟩
      | true =>
        by_cases h12 : 12 < vars
        · go_wp2_with fail
          refine (ldInts_I ga wa [] gc wc w4 (unhide HG4) (unhide HW4)).mono ?_
          rintro e w5 ⟨rfl, b5⟩
          have HW5 := hide ((unhide HW4).on b5)
          have HG5 := hide ((unhide HG4).on b5)
          have HC5 := hide ((unhide HC4).on b5)
          have HS5 := hide ((unhide HS4).on b5)
          have HB5 := hide ((unhide HB4).trans (b5.mono (unhide HB4).size))
          have hlt5 : w1.heap.size < w5.heap.size := Nat.lt_of_lt_of_le hlt4 b5.size
          rw [← b5.cell (p := ⟨w1.heap.size, _, none⟩) hlt4] at x0 x1
          clear HW4 HG4 HC4 HS4 HB4 b5 hlt4
          go_wp2_with fail
          refine (specCnfOk_any vars va ls vc w5 (unhide HC5)).mono ?_
          rintro e w6 ⟨rfl, b6⟩
          rw [hcb]
          have HW6 := hide ((unhide HW5).on b6)
          have HG6 := hide ((unhide HG5).on b6)
          have HC6 := hide ((unhide HC5).on b6)
          have HS6 := hide ((unhide HS5).on b6)
          have HB6 := hide ((unhide HB5).trans (b6.mono (unhide HB5).size))
          have hlt6 : w1.heap.size < w6.heap.size := Nat.lt_of_lt_of_le hlt5 b6.size
          rw [← b6.cell (p := ⟨w1.heap.size, _, none⟩) hlt5] at x0 x1
          clear HW5 HG5 HC5 HS5 HB5 b6 hlt5
          go_wp2_with fail
          refine (ldInts_I ga wa [] gc wc w6 (unhide HG6) (unhide HW6)).mono ?_
          rintro e w7 ⟨rfl, b7⟩
          have HW7 := hide ((unhide HW6).on b7)
          have HG7 := hide ((unhide HG6).on b7)
          have HC7 := hide ((unhide HC6).on b7)
          have HS7 := hide ((unhide HS6).on b7)
          have HB7 := hide ((unhide HB6).trans (b7.mono (unhide HB6).size))
          have hlt7 : w1.heap.size < w7.heap.size := Nat.lt_of_lt_of_le hlt6 b7.size
          rw [← b7.cell (p := ⟨w1.heap.size, _, none⟩) hlt6] at x0 x1
          clear HW6 HG6 HC6 HS6 HB6 b7 hlt6
          go_wp2_with fail
          go_ret
          exact ⟨rfl, unhide HB7⟩
        · go_wp2_with fail
          refine (ldInts_I ga wa [] gc wc w4 (unhide HG4) (unhide HW4)).mono ?_
          rintro e w5 ⟨rfl, b5⟩
          have HW5 := hide ((unhide HW4).on b5)
          have HG5 := hide ((unhide HG4).on b5)
          have HC5 := hide ((unhide HC4).on b5)
          have HS5 := hide ((unhide HS4).on b5)
          have HB5 := hide ((unhide HB4).trans (b5.mono (unhide HB4).size))
          have hlt5 : w1.heap.size < w5.heap.size := Nat.lt_of_lt_of_le hlt4 b5.size
          rw [← b5.cell (p := ⟨w1.heap.size, _, none⟩) hlt4] at x0 x1
          clear HW4 HG4 HC4 HS4 HB4 b5 hlt4
          go_wp2_with fail
          refine (specCnfOk_any vars va ls vc w5 (unhide HC5)).mono ?_
          rintro e w6 ⟨rfl, b6⟩
          rw [hcb]
          have HW6 := hide ((unhide HW5).on b6)
          have HG6 := hide ((unhide HG5).on b6)
          have HC6 := hide ((unhide HC5).on b6)
          have HS6 := hide ((unhide HS5).on b6)
          have HB6 := hide ((unhide HB5).trans (b6.mono (unhide HB5).size))
          have hlt6 : w1.heap.size < w6.heap.size := Nat.lt_of_lt_of_le hlt5 b6.size
          rw [← b6.cell (p := ⟨w1.heap.size, _, none⟩) hlt5] at x0 x1
          clear HW5 HG5 HC5 HS5 HB5 b6 hlt5
          go_wp2_with fail
          refine (ldInts_I ga wa [] gc wc w6 (unhide HG6) (unhide HW6)).mono ?_
          rintro e w7 ⟨rfl, b7⟩
          have HW7 := hide ((unhide HW6).on b7)
          have HG7 := hide ((unhide HG6).on b7)
          have HC7 := hide ((unhide HC6).on b7)
          have HS7 := hide ((unhide HS6).on b7)
          have HB7 := hide ((unhide HB6).trans (b7.mono (unhide HB6).size))
          have hlt7 : w1.heap.size < w7.heap.size := Nat.lt_of_lt_of_le hlt6 b7.size
          rw [← b7.cell (p := ⟨w1.heap.size, _, none⟩) hlt6] at x0 x1
          clear HW6 HG6 HC6 HS6 HB6 b7 hlt6
          go_wp2_with fail
          go_ret
          exact ⟨rfl, unhide HB7⟩
  obtain ⟨hcb, hlb, hcf, hrt, hrb⟩ := units_some (unhide HR) h0
  subst hrb
  have HCB := hide hcb
  have HLB := hide hlb
  have HCF := hide hcf
  have HRT := hide hrt
  have hcv := cnf_vars hcb
  clear hcb hlb hcf hrt
  have h0b : ((rl.length : Int) == 0) = false := by rw [beq_eq_false_iff_ne]; omega
  by_cases h12 : 12 < vars
  · go_wp2_with fail
    refine (ldInts_I ga wa rl gc wc w4 (unhide HG4) (unhide HW4)).mono ?_
    rintro e w5 ⟨rfl, b5⟩
    have HW5 := hide ((unhide HW4).on b5)
    have HG5 := hide ((unhide HG4).on b5)
    have HC5 := hide ((unhide HC4).on b5)
    have HS5 := hide ((unhide HS4).on b5)
    have HB5 := hide ((unhide HB4).trans (b5.mono (unhide HB4).size))
    have hlt5 : w1.heap.size < w5.heap.size := Nat.lt_of_lt_of_le hlt4 b5.size
    rw [← b5.cell (p := ⟨w1.heap.size, _, none⟩) hlt4] at x0 x1
    clear HW4 HG4 HC4 HS4 HB4 b5 hlt4
    go_wp2_with fail
    refine (specCnfOk_any vars va ls vc w5 (unhide HC5)).mono ?_
    rintro e w6 ⟨rfl, b6⟩
    rw [unhide HCB]
    have HW6 := hide ((unhide HW5).on b6)
    have HG6 := hide ((unhide HG5).on b6)
    have HC6 := hide ((unhide HC5).on b6)
    have HS6 := hide ((unhide HS5).on b6)
    have HB6 := hide ((unhide HB5).trans (b6.mono (unhide HB5).size))
    have hlt6 : w1.heap.size < w6.heap.size := Nat.lt_of_lt_of_le hlt5 b6.size
    rw [← b6.cell (p := ⟨w1.heap.size, _, none⟩) hlt5] at x0 x1
    clear HW5 HG5 HC5 HS5 HB5 b6 hlt5
    go_wp2_with fail
    refine (ldInts_I ga wa rl gc wc w6 (unhide HG6) (unhide HW6)).mono ?_
    rintro e w7 ⟨rfl, b7⟩
    have HW7 := hide ((unhide HW6).on b7)
    have HG7 := hide ((unhide HG6).on b7)
    have HC7 := hide ((unhide HC6).on b7)
    have HS7 := hide ((unhide HS6).on b7)
    have HB7 := hide ((unhide HB6).trans (b7.mono (unhide HB6).size))
    have hlt7 : w1.heap.size < w7.heap.size := Nat.lt_of_lt_of_le hlt6 b7.size
    rw [← b7.cell (p := ⟨w1.heap.size, _, none⟩) hlt6] at x0 x1
    clear HW6 HG6 HC6 HS6 HB6 b7 hlt6
    go_wp2_with fail
    go_ret
    exact ⟨rfl, unhide HB7⟩
  go_wp2_with fail
  refine (ldInts_I ga wa rl gc wc w4 (unhide HG4) (unhide HW4)).mono ?_
  rintro e w5 ⟨rfl, b5⟩
  have HW5 := hide ((unhide HW4).on b5)
  have HG5 := hide ((unhide HG4).on b5)
  have HC5 := hide ((unhide HC4).on b5)
  have HS5 := hide ((unhide HS4).on b5)
  have HB5 := hide ((unhide HB4).trans (b5.mono (unhide HB4).size))
  have hlt5 : w1.heap.size < w5.heap.size := Nat.lt_of_lt_of_le hlt4 b5.size
  rw [← b5.cell (p := ⟨w1.heap.size, _, none⟩) hlt4] at x0 x1
  clear HW4 HG4 HC4 HS4 HB4 b5 hlt4
  go_wp2_with fail
  refine (specCnfOk_any vars va ls vc w5 (unhide HC5)).mono ?_
  rintro e w6 ⟨rfl, b6⟩
  rw [unhide HCB]
  have HW6 := hide ((unhide HW5).on b6)
  have HG6 := hide ((unhide HG5).on b6)
  have HC6 := hide ((unhide HC5).on b6)
  have HS6 := hide ((unhide HS5).on b6)
  have HB6 := hide ((unhide HB5).trans (b6.mono (unhide HB5).size))
  have hlt6 : w1.heap.size < w6.heap.size := Nat.lt_of_lt_of_le hlt5 b6.size
  rw [← b6.cell (p := ⟨w1.heap.size, _, none⟩) hlt5] at x0 x1
  clear HW5 HG5 HC5 HS5 HB5 b6 hlt5
  clear HR
  obtain ⟨i0, hi, hz0, hz1, hz2⟩ := info_parts Try.infoBo
  obtain ⟨V, rfl⟩ : ∃ V : Nat, vars = V := ⟨vars.toNat, by omega⟩
  have hV : V ≤ 12 := by omega
  have hpw : 2 ^ V ≤ 4096 := Nat.le_trans (Nat.pow_le_pow_right (by omega) hV) (by decide)
  have hshl : IntKind.i64.wrap (2 ^ V) = ((2 ^ V : Nat) : Int) := by
    have e : (2 : Int) ^ V = ((2 ^ V : Nat) : Int) := by simp
    rw [e]
    generalize 2 ^ V = N at hpw ⊢
    rw [IntKind.wrap_i64]
    omega
  generalize hN : 2 ^ V = N at hpw hshl
  clear hN
  go_wp2_with fail
  go_loopw [11] (fun i wr => ∃ n : Nat, n ≤ N ∧ i = .int .i64 n ∧ Hid (Below w6.heap.size w6 wr)) (fun i _ => N - (intOf i).toNat)
  case atStart => exact ⟨0, Nat.zero_le _, rfl, Below.refl _ _⟩
  case round =>
    rename World => wo
    obtain ⟨n, hn, rfl, HO⟩ := hrel
    have y0 := ((unhide HO).cell (p := ⟨w1.heap.size, 0, none⟩) hlt6).trans x0
    have y1 := ((unhide HO).cell (p := ⟨w1.heap.size, 1, none⟩) hlt6).trans x1
    have hlto := Nat.lt_of_lt_of_le hlt6 (unhide HO).size
    by_cases hnN : n < N
    · have j1 : (n : Int) < (N : Int) := by omega
      have HM0 := hide (RowB.nil wo)
      have HO1 := hide ((unhide HO).alloc (unhide HO).size (.cells #[] 4))
      have hzo : wo.heap.size ≤ (wo.alloc (.cells #[] 4)).heap.size := by simp
      go_wp2_with fail
      go_loopw [12, 13] (fun v i wr => ∃ (m : List Bool), m.length ≤ V ∧ i = .int .i64 (m.length : Int) ∧ Hid (RowB wo.heap.size wr v m) ∧ wo.heap.size ≤ wr.heap.size ∧ Hid (Below wo.heap.size wo wr)) (fun _ i _ => V - (intOf i).toNat)
      case atStart => exact ⟨[], Nat.zero_le _, rfl, HM0, hzo, (Below.refl _ _).alloc (Nat.le_refl _) _⟩
      case round =>
        rename World => wi
        obtain ⟨m, hm, rfl, HM, hwi, HB⟩ := hrel
        clear HM0 HO1 hzo
        have z0 := ((unhide HB).cell (p := ⟨w1.heap.size, 0, none⟩) hlto).trans y0
        have z1 := ((unhide HB).cell (p := ⟨w1.heap.size, 1, none⟩) hlto).trans y1
        by_cases hmV : m.length < V
        · have j2 : (m.length : Int) < (V : Int) := by omega
          have hown := unhide HM
          have hblk : ∀ j, u12.ownBlock = some j → wo.heap.size ≤ j := fun j hj => (World.ownsRow.lt hown j hj).1
          go_wp2_with (first
            | (at_builtin; refine wpList_append_own _ rfl _ _ 38 rfl wo.heap.size 4 i0 (.bool false) 1 1 Try.underlying38 hi hz0 hz1 hz2 rfl (by decide) _ _ _ rfl (hown.alloc _) ⟨wi.heap.size, 0, none⟩ 1 1 [.bool (((n : Int) / 2 ^ m.length).tmod 2 == 1)] rfl rfl ?c1 ?c2 ?c3 ?c4 ?c5 ?_))
          case c1 =>
            intro j u hj
            match j, hj with
            | 0, hj => simp at hj; subst hj; simp [Addr.add]
          case c2 => intro u hu; simp at hu; subst hu; rfl
          case c3 => unfold maxLen; omega
          case c4 => omega
          case c5 => simp; omega
          intro v' wj hown' hgrow _
          generalize (((n : Int) / 2 ^ m.length).tmod 2 == 1) = bb at hown' hgrow
          have HM2 : Hid (RowB wo.heap.size wj v' (m ++ [bb])) := by
            show RowB _ _ _ _
            unfold RowB
            simpa using hown'
          have hzj := hgrow.size
          simp at hzj
          have HB2 : Hid (Below wo.heap.size wo wj) := ⟨hgrow.os.trans (unhide HB).os, hgrow.tape.trans (unhide HB).tape, hgrow.output.trans (unhide HB).output, by omega, fun b hb => (hgrow.block b (by simp; omega) (fun e => by have := hblk b e.symm; omega)).trans ((blk_alloc_lt _ _ _ (by omega)).trans ((unhide HB).block b hb))⟩
          clear hown hown' hgrow HB HM
          go_wp2_with fail
          go_roundw
          case rel => exact ⟨m ++ [bb], by simp; omega, by simp, HM2, by omega, HB2⟩
          case measure => simp [intOf]; omega
        · have hmV2 : m.length = V := by omega
          have j2 : ¬ (m.length : Int) < (V : Int) := by omega
          obtain ⟨ma, mc, hmv, hba⟩ := RowB.at (unhide HM) (by omega)
          subst hmv
          have HMA := hide hba
          have HMV := hide hmV2
          have HCW := hide (implCnfTrue_any (V : Int) va ls vc ma m mc wi (((unhide HC6).on (unhide HO)).on (unhide HB)) hba)
          clear hba hmV2 HM
          go_wp2_with fail
          refine (unhide HCW).mono ?_
          rintro e w7 ⟨rfl, b7⟩
          have HM7 := hide ((unhide HMA).on b7)
          have HS7 := hide ((((unhide HS6).on (unhide HO)).on (unhide HB)).on b7)
          have HG7 := hide ((((unhide HG6).on (unhide HO)).on (unhide HB)).on b7)
          have HE : Hid (Below w6.heap.size w6 w7) := (unhide HO).trans (((unhide HB).mono (unhide HO).size).trans (b7.mono (by have := (unhide HO).size; omega)))
          have q0 := (b7.cell (p := ⟨w1.heap.size, 0, none⟩) (Nat.lt_of_lt_of_le hlto hwi)).trans z0
          have q1 := (b7.cell (p := ⟨w1.heap.size, 1, none⟩) (Nat.lt_of_lt_of_le hlto hwi)).trans z1
          clear b7 HCW HMA HB x0 x1 y0 y1 z0 z1 HO
          obtain ⟨ct, hct⟩ : ∃ ct, ct = cnfTrueB (V : Int) ls m := ⟨_, rfl⟩
          rw [← hct]
          have HCT := hide hct
          clear hct
          go_wp2_with fail
          go_loopw [14, 15] (fun g i wr => ∃ (k : Nat) (gb : Bool), k ≤ set.length ∧ i = .int .i64 k ∧ g = .bool gb ∧ Hid (gb = true → ct = true ∧ ∀ x, x ∈ set.take k → soB m x = true) ∧ wr = w7) (fun _ i _ => set.length - (intOf i).toNat)
          case atStart => exact ⟨0, ct, Nat.zero_le _, rfl, rfl, fun h => ⟨h, by simp⟩, rfl⟩
          case round =>
            rename World => wk
            obtain ⟨k, gb, hk, rfl, rfl, HGB, hwk⟩ := hrel
            have hwk := hwk.symm
            subst hwk
            cases gb with
            | false =>
              clear HGB
              by_cases hlt : k < set.length
              · have j3 : (k : Int) < (set.length : Int) := by omega
                go_wp2_with fail
                go_loopw [16] (fun i wr => ∃ k : Nat, k ≤ rl.length ∧ i = .int .i64 k ∧ wr = w7) (fun i _ => rl.length - (intOf i).toNat)
                case atStart => exact ⟨0, Nat.zero_le _, rfl, rfl⟩
                case round =>
                  rename World => wq
                  obtain ⟨k2, hk2, rfl, rfl⟩ := hrel
                  by_cases hlt2 : k2 < rl.length
                  · have j4 : (k2 : Int) < (rl.length : Int) := by omega
                    go_wp2_with fail
                    go_roundw
                    case rel => exact ⟨n + 1, by omega, by go_num, HE⟩
                    case measure => simp [intOf]; omega
                  · have j4 : ¬ (k2 : Int) < (rl.length : Int) := by omega
                    go_wp2_with fail
                    go_roundw
                    case rel => exact ⟨n + 1, by omega, by go_num, HE⟩
                    case measure => simp [intOf]; omega
              · have j3 : ¬ (k : Int) < (set.length : Int) := by omega
                go_wp2_with fail
                go_loopw [16] (fun i wr => ∃ k : Nat, k ≤ rl.length ∧ i = .int .i64 k ∧ wr = w7) (fun i _ => rl.length - (intOf i).toNat)
                case atStart => exact ⟨0, Nat.zero_le _, rfl, rfl⟩
                case round =>
                  rename World => wq
                  obtain ⟨k2, hk2, rfl, rfl⟩ := hrel
                  by_cases hlt2 : k2 < rl.length
                  · have j4 : (k2 : Int) < (rl.length : Int) := by omega
                    go_wp2_with fail
                    go_roundw
                    case rel => exact ⟨n + 1, by omega, by go_num, HE⟩
                    case measure => simp [intOf]; omega
                  · have j4 : ¬ (k2 : Int) < (rl.length : Int) := by omega
                    go_wp2_with fail
                    go_roundw
                    case rel => exact ⟨n + 1, by omega, by go_num, HE⟩
                    case measure => simp [intOf]; omega
            | true =>
              by_cases hlt : k < set.length
              · have j3 : (k : Int) < (set.length : Int) := by omega
                have hmem := getD_mem (d := 0) hlt
                have htk : set.take (k + 1) = set.take k ++ [set.getD k 0] := by rw [List.take_succ_eq_append_getElem hlt]; simp [List.getD, hlt]
                have hz := lits_in (unhide HLB) _ hmem
                obtain ⟨_, hF⟩ := unhide HS7
                rcases hF with hF | ⟨b, o, rfl, _, hF⟩
                · subst hF; simp at hlt
                have c0 := hF k hlt
                clear hF
                have HTK := hide htk
                generalize set.getD k 0 = z at c0 HTK hz
                have hmv := unhide HMV
                have HGN : Hid (soB m z = true → ct = true ∧ ∀ x, x ∈ set.take (k + 1) → soB m x = true) := fun hs => ⟨(unhide HGB rfl).1, fun x hx => by
                  rw [unhide HTK] at hx
                  rcases List.mem_append.1 hx with hx | hx
                  · exact (unhide HGB rfl).2 x hx
                  · simp at hx; subst hx; exact hs⟩
                have HZ := hide hz
                have hz1 : -(m.length : Int) ≤ z := by omega
                have hz2 : z ≤ (m.length : Int) := by omega
                clear hmem htk hz hmv
                go_wp2_with fail
                refine (ldLit_any ma m mc z _ (unhide HM7) (unhide HZ).1 hz1 hz2).mono ?_
                rintro e w8 ⟨rfl, rfl⟩
                generalize soB m z = sb at HGN ⊢
                go_wp2_with fail
                go_roundw
                case rel => exact ⟨k + 1, sb, by omega, by go_num, rfl, HGN, by first | rfl | trivial⟩
                case measure => simp [intOf]; omega
              · have j3 : ¬ (k : Int) < (set.length : Int) := by omega
                have hkk : k = set.length := by omega
                have HALL : Hid (∀ x, x ∈ rl → x ≠ 0 ∧ -(m.length : Int) ≤ x ∧ x ≤ m.length ∧ soB m x = true) := fun x hx => by
                  obtain ⟨h1, h2⟩ := unhide HGB rfl
                  rw [hkk, List.take_length] at h2
                  rw [unhide HCT] at h1
                  have hx' := (units_mem (unhide HCB) (unhide HLB) (unhide HCF)).1 (by rw [← unhide HRT]; exact hx)
                  obtain ⟨e1, e2, e3⟩ := hx'.in_ (unhide HCB) (unhide HLB)
                  have hmv := unhide HMV
                  refine ⟨e1, by omega, by omega, hx'.so (cnf_nz (unhide HCB)) (fun c hc => ?_) h2⟩
                  unfold cnfTrueB at h1
                  simp only [Bool.and_eq_true, List.all_eq_true] at h1
                  exact h1.2.2 c hc
                clear hkk HGB
                go_wp2_with fail
                go_loopw [16] (fun i wr => ∃ k : Nat, k ≤ rl.length ∧ i = .int .i64 k ∧ wr = w7) (fun i _ => rl.length - (intOf i).toNat)
                case atStart => exact ⟨0, Nat.zero_le _, rfl, rfl⟩
                case round =>
                  rename World => wq
                  obtain ⟨k2, hk2, rfl, rfl⟩ := hrel
                  by_cases hlt2 : k2 < rl.length
                  · have j4 : (k2 : Int) < (rl.length : Int) := by omega
                    have hmem := getD_mem (d := 0) hlt2
                    obtain ⟨_, hF⟩ := unhide HG7
                    rcases hF with hF | ⟨b, o, rfl, _, hF⟩
                    · subst hF; simp at hlt2
                    have c0 := hF k2 hlt2
                    clear hF
                    generalize rl.getD k2 0 = z at c0 hmem
                    have HZ := hide (unhide HALL z hmem)
                    clear hmem
                    go_wp2_with fail
                    refine (ldLit_any ma m mc z _ (unhide HM7) (unhide HZ).1 (by have := (unhide HZ).2.1; omega) (by have := (unhide HZ).2.2.1; omega)).mono ?_
                    rintro e w8 ⟨rfl, rfl⟩
                    rw [(unhide HZ).2.2.2]
                    go_wp2_with fail
                    go_roundw
                    case rel => exact ⟨k2 + 1, by omega, by go_num, by first | rfl | trivial⟩
                    case measure => simp [intOf]; omega
                  · have j4 : ¬ (k2 : Int) < (rl.length : Int) := by omega
                    go_wp2_with fail
                    go_roundw
                    case rel => exact ⟨n + 1, by omega, by go_num, HE⟩
                    case measure => simp [intOf]; omega
    · have j1 : ¬ (n : Int) < (N : Int) := by omega
      have HF := hide ((unhide HB6).trans ((unhide HO).mono (unhide HB6).size))
      go_wp2_with fail
      go_ret
      exact ⟨rfl, unhide HF⟩
end Go.Proofs.Ytnhboegiddkhfaf
