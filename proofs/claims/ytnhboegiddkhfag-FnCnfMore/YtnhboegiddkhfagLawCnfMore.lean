/- The walk of the law FnCnfMore: of every code it answers true, and writes nothing that was there. -/
import Derived.Test.YtnhboegiddkhfagGDcn
import Derived.Test.YtnhboegiddkhfagGFo
import Derived.Test.YtnhboegiddkhfagGSu
import Derived.Test.YtnhboegiddkhfagGUp
import Derived.Test.YtnhboegiddkhfagGRn
namespace Go.Proofs.Ytnhboegiddkhfag
set_option linter.unusedVariables false
set_option linter.unusedSimpArgs false
open Go.RowKit Go.Deep

/-- Where the literals behind the first one lie. -/
def FromI (qa : Option Addr) (qc : Nat) (da : Option Addr) (dc : Nat) : Prop := ∃ g, qa = some ⟨g, 0, none⟩ ∧ ((qc = 1 ∧ da = some ⟨g, 0, none⟩ ∧ dc = 0) ∨ (¬ qc = 1 ∧ da = some ⟨g, 1, none⟩ ∧ dc = qc - 1))
theorem drop_part {B : Nat} {w : World} {qa : Option Addr} {l : List Int} {qc : Nat} (h : RowI B w (.slice qa l.length qc) l) (h1 : l.length ≠ 0) : l.length ≤ qc ∧ qc ≤ maxLen ∧ ∃ da dc, FromI qa qc da dc ∧ ∀ x : World, SetAt x qa l → SetAt x da (l.drop 1) := by
  rcases h.2 with ⟨hv, h0⟩ | ⟨g, cap, cur, hv, hB, hc, hcap, hcm, hsz, hx⟩
  · exact absurd h0 h1
  · simp at hv
    obtain ⟨rfl, rfl⟩ := hv
    refine ⟨hcap, hcm, ?_⟩
    by_cases e : qc = 1
    · exact ⟨_, _, ⟨g, rfl, Or.inl ⟨e, rfl, rfl⟩⟩, fun x hx => ⟨by simp; have := hx.1; omega, Or.inl (List.drop_eq_nil_of_le (by omega))⟩⟩
    · refine ⟨_, _, ⟨g, rfl, Or.inr ⟨e, rfl, rfl⟩⟩, fun x hx => ⟨by simp; have := hx.1; omega, ?_⟩⟩
      rcases hx.2 with h0 | ⟨b, o, ha, hb, hcl⟩
      · exact absurd (by rw [h0]; rfl) h1
      · simp at ha
        obtain ⟨rfl, rfl⟩ := ha
        refine Or.inr ⟨g, 1, rfl, hb, fun i hi => ?_⟩
        have := hcl (i + 1) (by simp at hi; omega)
        rw [Nat.zero_add, Nat.add_comm] at this
        rw [this]
        congr 2
        simp [List.getD, List.getElem?_drop, Nat.add_comm]
/-- What the operations of that call leave. -/
def TU (P U A : Value) (fl : List Int) (i : Nat) (v : Value) (x : World) : Prop := match i with
  | 0 => v = P
  | 1 => v = U
  | 2 => v = A
  | 3 => ∃ a c, v = .tuple #[.slice a fl.length c, .bool false] ∧ SetAt x a fl
  | 4 => ∃ a c, v = .tuple #[.slice a fl.length c, .bool false] ∧ SetAt x a fl
  | 5 => ∃ a c, v = .slice a fl.length c ∧ SetAt x a fl
  | 6 => v = .bool false
  | 7 => ∃ a c, v = .slice a fl.length c ∧ SetAt x a fl
  | _ => True
theorem TU_on {P U A : Value} {fl : List Int} {i : Nat} {v : Value} {x y : World} (h : TU P U A fl i v x) (hb : Below x.heap.size x y) : TU P U A fl i v y := by
  unfold TU at h ⊢
  split at h <;> first | exact h | (obtain ⟨a, c, h1, h2⟩ := h; exact ⟨a, c, h1, h2.on hb⟩)

set_option maxRecDepth 100000 in
set_option maxHeartbeats 8000000 in
theorem cnfmore_law (a : Option Addr) (n c : Nat) (w : World) (h : CodeAt w.heap.size w a n) (hc : n ≤ c) (hc2 : c ≤ maxLen) :
    Calls Try.prog 5 #[.slice a n c] w fun e w' => e = .returned (.bool true) ∧ Below w.heap.size w w' := by
  have hmx := hc2
  unfold maxLen at hmx
  by_cases hbig : 1048576 < n
  · have hb' : (1048576 : Int) < (n : Int) := by omega
    go_enter Try.func5, Try.ntmps5
    go_wp2_with fail
    go_ret
    exact ⟨rfl, Below.refl _ _⟩
  have hb' : ¬ (1048576 : Int) < (n : Int) := by omega
  go_enter Try.func5, Try.ntmps5
  go_wp2_with fail
  refine (DrawCnfUnits_V a n c w h (by omega) hc hc2).mono ?_
  rintro e w1 ⟨⟨vars, v, ls, vs, u, set, rfl, hL, hll, hsh, hrow, hsl⟩, b1⟩
  obtain ⟨va, vc, hv, hcls⟩ := hL.cls (by omega) hsh
  subst hv
  obtain ⟨sa, sc, hu, hset⟩ := RowI.set hrow (by omega)
  subst hu
  have HC1 := hide hcls
  have HS1 := hide hset
  have HB1 := hide b1
  have HD1 := hide (drop_part hrow)
  clear hL hcls hrow hset b1 h
  go_upto_region 4 with fail
  obtain ⟨w2, hw2⟩ : ∃ w2, w2 = w1.alloc (.cells #[.int .i64 vars, .slice va ls.length vc] 25) := ⟨_, rfl⟩
  rw [← hw2]
  have b2 : Below w1.heap.size w1 w2 := by rw [hw2]; exact (Below.refl _ _).alloc (Nat.le_refl _) _
  have x0 : w2.cell? ⟨w1.heap.size, 0, none⟩ = some (.int .i64 vars) := by rw [hw2]; simp
  have x1 : w2.cell? ⟨w1.heap.size, 1, none⟩ = some (.slice va ls.length vc) := by rw [hw2]; simp
  have hlt2 : w1.heap.size < w2.heap.size := by rw [hw2]; simp
  have HC2 := hide ((unhide HC1).on b2)
  have HS2 := hide ((unhide HS1).on b2)
  have HB2 := hide ((unhide HB1).trans (b2.mono (unhide HB1).size))
  clear hw2 b2 HC1 HS1 HB1
  obtain ⟨rl, rb, hr⟩ : ∃ rl rb, unitsZ vars ls set = (rl, rb) := ⟨_, _, rfl⟩
  have HR := hide hr
  have hrl : rl.length ≤ 400 := units_len hr
  have HCX3 := hide (specCnfUnits_any vars va ls vc sa set sc w2 (unhide HC2) (unhide HS2))
  have HCX4 := hide (fun x (hx : Below w2.heap.size w2 x) => implCnfUnits_any vars va ls vc sa set sc x ((unhide HC2).on hx) ((unhide HS2).on hx))
  rw [hr] at HCX3 HCX4
  clear hr
  go_wp2_with fail
  refine (unhide HCX3).mono ?_
  rintro e w3 ⟨⟨v3, rfl, hr3⟩, b3⟩
  obtain ⟨wa, wc, hv3, hW3⟩ := RowI.set hr3 (by show rl.length ≤ 1048576; omega)
  subst hv3
  have HW3 := hide hW3
  have HC4b := hide (unhide HCX4 w3 b3)
  have HC3 := hide ((unhide HC2).on b3)
  have HS3 := hide ((unhide HS2).on b3)
  have HB3 := hide ((unhide HB2).trans (b3.mono (unhide HB2).size))
  have hlt3 : w1.heap.size < w3.heap.size := Nat.lt_of_lt_of_le hlt2 b3.size
  rw [← b3.cell (p := ⟨w1.heap.size, _, none⟩) hlt2] at x0 x1
  clear HC2 HS2 HB2 b3 hlt2 HCX3 HCX4 hr3 hW3
  go_wp2_with fail
  refine (unhide HC4b).mono ?_
  rintro e w4 ⟨⟨v4, rfl, hr4⟩, b4⟩
  obtain ⟨ga, gc, hv4, hG4⟩ := RowI.set hr4 (by show rl.length ≤ 1048576; omega)
  subst hv4
  have HG4 := hide hG4
  have HW4 := hide ((unhide HW3).on b4)
  have HC4 := hide ((unhide HC3).on b4)
  have HS4 := hide ((unhide HS3).on b4)
  have HB4 := hide ((unhide HB3).trans (b4.mono (unhide HB3).size))
  have hlt4 : w1.heap.size < w4.heap.size := Nat.lt_of_lt_of_le hlt3 b4.size
  rw [← b4.cell (p := ⟨w1.heap.size, _, none⟩) hlt3] at x0 x1
  clear HC3 HS3 HB3 b4 hlt3 HW3 HC4b hr4 hG4
  cases rb with
  | true =>
    go_wp2_with fail
    refine (ldInts_I ga wa rl gc wc w4 (unhide HG4) (unhide HW4)).mono ?_
    rintro e w5 ⟨rfl, b5⟩
    have HW5 := hide ((unhide HW4).on b5)
    have HG5 := hide ((unhide HG4).on b5)
    have HC5 := hide ((unhide HC4).on b5)
    have HS5 := hide ((unhide HS4).on b5)
    have HB5 := hide ((unhide HB4).trans (b5.mono (unhide HB4).size))
    have hlt5 : w1.heap.size < w5.heap.size := Nat.lt_of_lt_of_le hlt4 b5.size
    rw [← b5.cell (p := ⟨w1.heap.size, _, none⟩) hlt4] at x0 x1
    clear HW4 HG4 HC4 HS4 HB4 b5 hlt4
    go_wp2_with fail
    refine (ldInts_I ga wa rl gc wc w5 (unhide HG5) (unhide HW5)).mono ?_
    rintro e w6 ⟨rfl, b6⟩
    have HW6 := hide ((unhide HW5).on b6)
    have HG6 := hide ((unhide HG5).on b6)
    have HC6 := hide ((unhide HC5).on b6)
    have HS6 := hide ((unhide HS5).on b6)
    have HB6 := hide ((unhide HB5).trans (b6.mono (unhide HB5).size))
    have hlt6 : w1.heap.size < w6.heap.size := Nat.lt_of_lt_of_le hlt5 b6.size
    rw [← b6.cell (p := ⟨w1.heap.size, _, none⟩) hlt5] at x0 x1
    clear HW5 HG5 HC5 HS5 HB5 b6 hlt5
    go_wp2_with fail
    go_ret
    exact ⟨rfl, unhide HB6⟩
  | false =>
    by_cases hs0 : set.length = 0
    · have e0 := List.length_eq_zero_iff.1 hs0
      subst e0
      clear hs0 HR HD1 hsl
      go_wp2_with fail
      refine (ldInts_I ga wa rl gc wc w4 (unhide HG4) (unhide HW4)).mono ?_
      rintro e w5 ⟨rfl, b5⟩
      have HW5 := hide ((unhide HW4).on b5)
      have HG5 := hide ((unhide HG4).on b5)
      have HC5 := hide ((unhide HC4).on b5)
      have HS5 := hide ((unhide HS4).on b5)
      have HB5 := hide ((unhide HB4).trans (b5.mono (unhide HB4).size))
      have hlt5 : w1.heap.size < w5.heap.size := Nat.lt_of_lt_of_le hlt4 b5.size
      rw [← b5.cell (p := ⟨w1.heap.size, _, none⟩) hlt4] at x0 x1
      clear HW4 HG4 HC4 HS4 HB4 b5 hlt4
      go_wp2_with fail
      refine (ldInts_I ga wa rl gc wc w5 (unhide HG5) (unhide HW5)).mono ?_
      rintro e w6 ⟨rfl, b6⟩
      have HW6 := hide ((unhide HW5).on b6)
      have HG6 := hide ((unhide HG5).on b6)
      have HC6 := hide ((unhide HC5).on b6)
      have HS6 := hide ((unhide HS5).on b6)
      have HB6 := hide ((unhide HB5).trans (b6.mono (unhide HB5).size))
      have hlt6 : w1.heap.size < w6.heap.size := Nat.lt_of_lt_of_le hlt5 b6.size
      rw [← b6.cell (p := ⟨w1.heap.size, _, none⟩) hlt5] at x0 x1
      clear HW5 HG5 HC5 HS5 HB5 b6 hlt5
      go_wp2_with fail
      go_ret
      exact ⟨rfl, unhide HB6⟩
    have hs0b : ((set.length : Int) == 0) = false := by rw [beq_eq_false_iff_ne]; omega
    by_cases h0 : rl.length = 0
    · have e0 := List.length_eq_zero_iff.1 h0
      subst e0
      clear h0 HR
      go_wp2_with fail
      refine (ldInts_I ga wa [] gc wc w4 (unhide HG4) (unhide HW4)).mono ?_
      rintro e w5 ⟨rfl, b5⟩
      have HW5 := hide ((unhide HW4).on b5)
      have HG5 := hide ((unhide HG4).on b5)
      have HC5 := hide ((unhide HC4).on b5)
      have HS5 := hide ((unhide HS4).on b5)
      have HB5 := hide ((unhide HB4).trans (b5.mono (unhide HB4).size))
      have hlt5 : w1.heap.size < w5.heap.size := Nat.lt_of_lt_of_le hlt4 b5.size
      rw [← b5.cell (p := ⟨w1.heap.size, _, none⟩) hlt4] at x0 x1
      clear HW4 HG4 HC4 HS4 HB4 b5 hlt4
      go_wp2_with fail
      refine (ldInts_I ga wa [] gc wc w5 (unhide HG5) (unhide HW5)).mono ?_
      rintro e w6 ⟨rfl, b6⟩
      have HW6 := hide ((unhide HW5).on b6)
      have HG6 := hide ((unhide HG5).on b6)
      have HC6 := hide ((unhide HC5).on b6)
      have HS6 := hide ((unhide HS5).on b6)
      have HB6 := hide ((unhide HB5).trans (b6.mono (unhide HB5).size))
      have hlt6 : w1.heap.size < w6.heap.size := Nat.lt_of_lt_of_le hlt5 b6.size
      rw [← b6.cell (p := ⟨w1.heap.size, _, none⟩) hlt5] at x0 x1
      clear HW5 HG5 HC5 HS5 HB5 b6 hlt5
      go_wp2_with fail
      go_ret
      exact ⟨rfl, unhide HB6⟩
    have h0b : ((rl.length : Int) == 0) = false := by rw [beq_eq_false_iff_ne]; omega
    go_wp2_with fail
    refine (ldInts_I ga wa rl gc wc w4 (unhide HG4) (unhide HW4)).mono ?_
    rintro e w5 ⟨rfl, b5⟩
    have HW5 := hide ((unhide HW4).on b5)
    have HG5 := hide ((unhide HG4).on b5)
    have HC5 := hide ((unhide HC4).on b5)
    have HS5 := hide ((unhide HS4).on b5)
    have HB5 := hide ((unhide HB4).trans (b5.mono (unhide HB4).size))
    have hlt5 : w1.heap.size < w5.heap.size := Nat.lt_of_lt_of_le hlt4 b5.size
    rw [← b5.cell (p := ⟨w1.heap.size, _, none⟩) hlt4] at x0 x1
    clear HW4 HG4 HC4 HS4 HB4 b5 hlt4
    obtain ⟨hsc, hscm, da, dc, hfr, hdrop⟩ := unhide HD1 hs0
    obtain ⟨fl, fb, hf⟩ : ∃ fl fb, unitsZ vars ls (set.drop 1) = (fl, fb) := ⟨_, _, rfl⟩
    obtain ⟨hfb, hfs⟩ := units_more (unhide HR) h0 (fun x hx => List.mem_of_mem_drop hx) (by simp) hf
    subst hfb
    have hfl : fl.length ≤ 400 := units_len hf
    have hdl : (set.drop 1).length = set.length - 1 := by simp
    have HCI := hide (fun x (hx : Below w5.heap.size w5 x) => implCnfUnits_any vars va ls vc da (set.drop 1) dc x ((unhide HC5).on hx) (hdrop x ((unhide HS5).on hx)))
    rw [hf, hdl] at HCI
    have HFS := hide hfs
    have hj1 : (1 : Int) ≤ (set.length : Int) := by omega
    have hj2 : 1 ≤ set.length := by omega
    have hj3 : 1 ≤ sc := by omega
    clear hf hfs hdrop HD1
    go_wp2_with fail
    go_upto_region 8 with fail
    refine wp_region_headE 8 (by kernel_rfl) (by kernel_rfl) (by kernel_rfl) (by kernel_rfl) (by kernel_rfl) (TU (.agg #[.int .i64 vars, .slice va ls.length vc]) (.slice sa set.length sc) (.slice da (set.length - 1) dc) fl) (fun _ x => Hid (Below w5.heap.size w5 x)) (fun x y => Below x.heap.size x y) (fun i v x y h hb => TU_on h hb) (Below.refl _ _).drew ?_ ?_
    · intro i oo him hi ac x n hn ha HC hd
      have hC := unhide HC
      match i with
      | 0 =>
        simp at hi
        subst hi
        have e3 : ac.tmps[3]? = some (.pointer (some ⟨w1.heap.size, 0, none⟩)) := (ha.slot 3 (slots_no (by kernel_rfl))).trans rfl
        rw [← hC.cell (p := ⟨w1.heap.size, _, none⟩) hlt5] at x0 x1
        go_simp
        exact ⟨_, rfl, rfl, (by first | exact HC | exact True.intro), Below.refl _ _⟩
      | 1 =>
        simp at hi
        subst hi
        have e4 : ac.tmps[4]? = some (.slice sa set.length sc) := (ha.slot 4 (slots_no (by kernel_rfl))).trans rfl
        go_simp
        exact ⟨_, rfl, rfl, (by first | exact HC | exact True.intro), Below.refl _ _⟩
      | 2 =>
        simp at hi
        subst hi
        have d1 := hd ⟨1, .data⟩ (by simp) rfl
        rw [valOf_at (d := 64) rfl] at d1
        have d1' : ac.tmps[64]?.getD undef = .slice sa set.length sc := d1
        obtain ⟨g, rfl, ⟨hq1, rfl, rfl⟩ | ⟨hq1, rfl, rfl⟩⟩ := hfr
        · subst hq1
          go_simp
          exact ⟨_, rfl, by first | rfl | simp [TU], (by first | exact HC | exact True.intro), Below.refl _ _⟩
        · go_simp
          exact ⟨_, rfl, by first | rfl | simp [TU, Addr.add], (by first | exact HC | exact True.intro), Below.refl _ _⟩
      | 3 =>
        simp at hi
        subst hi
        have d0 := hd ⟨0, .data⟩ (by simp) rfl
        rw [valOf_at (d := 63) rfl] at d0
        have d0' : ac.tmps[63]?.getD undef = .agg #[.int .i64 vars, .slice va ls.length vc] := d0
        have d2 := hd ⟨2, .data⟩ (by simp) rfl
        rw [valOf_at (d := 65) rfl] at d2
        have d2' : ac.tmps[65]?.getD undef = .slice da (set.length - 1) dc := d2
        go_simp
        refine (unhide HCI x hC).mono ?_
        rintro e y ⟨⟨v6, rfl, hr6⟩, b6⟩
        obtain ⟨ta, tc, hv6, hT6⟩ := RowI.set hr6 (by show fl.length ≤ 1048576; omega)
        subst hv6
        exact ⟨_, rfl, ⟨ta, tc, rfl, hT6⟩, hC.trans (b6.mono hC.size), b6⟩
      | 4 =>
        simp at hi
        subst hi
        obtain ⟨ta, tc, h3, r3⟩ := hd ⟨3, .data⟩ (by simp) rfl
        rw [valOf_at (d := 66) rfl] at h3
        have HR3 := hide r3
        clear r3
        go_simp
        exact ⟨_, rfl, ⟨ta, tc, rfl, unhide HR3⟩, (by first | exact HC | exact True.intro), Below.refl _ _⟩
      | 5 =>
        simp at hi
        subst hi
        obtain ⟨ta, tc, h3, r3⟩ := hd ⟨4, .data⟩ (by simp) rfl
        rw [valOf_at (d := 62) rfl] at h3
        have HR3 := hide r3
        clear r3
        go_simp
        exact ⟨_, rfl, ⟨ta, tc, rfl, unhide HR3⟩, (by first | exact HC | exact True.intro), Below.refl _ _⟩
      | 6 =>
        simp at hi
        subst hi
        obtain ⟨ta, tc, h3, r3⟩ := hd ⟨4, .data⟩ (by simp) rfl
        rw [valOf_at (d := 62) rfl] at h3
        clear r3
        go_simp
        exact ⟨_, rfl, rfl, (by first | exact HC | exact True.intro), Below.refl _ _⟩
      | 7 =>
        simp at hi
        subst hi
        obtain ⟨ta, tc, h3, r3⟩ := hd ⟨5, .data⟩ (by simp) rfl
        rw [valOf_at (d := 67) rfl] at h3
        have HR3 := hide r3
        clear r3
        go_simp
        exact ⟨_, rfl, ⟨ta, tc, rfl, unhide HR3⟩, (by first | exact HC | exact True.intro), Below.refl _ _⟩
      | i + 8 => omega
    · intro ac w6 ha hT b6
      replace b6 := unhide b6
      have t68 : ac.tmps[68]?.getD undef = .bool false := by have := hT 6 (by omega); rwa [valOf_at (d := 68) rfl] at this
      obtain ⟨fa, fc, t9, hF6⟩ := hT 7 (by omega)
      rw [valOf_at (d := 9) rfl] at t9
      have hl := ha.list
      simp [slotOf, List.range_succ] at hl
      rw [hl]
      clear hl ha hT
      rw [t68, t9]
      have HF6 := hide hF6
      clear t68 t9 hF6 HCI hfr hdl
      have HG6 := hide ((unhide HG5).on b6)
      have HC6 := hide ((unhide HC5).on b6)
      have HB6 := hide ((unhide HB5).trans (b6.mono (unhide HB5).size))
      have hlt6 : w1.heap.size < w6.heap.size := Nat.lt_of_lt_of_le hlt5 b6.size
      rw [← b6.cell (p := ⟨w1.heap.size, _, none⟩) hlt5] at x0 x1
      clear HG5 HC5 HB5 b6 hlt5
      go_wp2_with fail
      go_loopw [11] (fun i wr => ∃ k : Nat, k ≤ fl.length ∧ i = .int .i64 k ∧ wr = w6) (fun i _ => fl.length - (intOf i).toNat)
      case atStart => exact ⟨0, Nat.zero_le _, rfl, rfl⟩
      case round =>
        rename World => wo
        obtain ⟨k, hk, rfl, rfl⟩ := hrel
        by_cases hlt : k < fl.length
        · have j1 : (k : Int) < (fl.length : Int) := by omega
          have hmem := unhide HFS _ (getD_mem (d := 0) hlt)
          obtain ⟨_, hF⟩ := unhide HF6
          rcases hF with hF | ⟨b, o, rfl, _, hF⟩
          · subst hF; simp at hlt
          have c0 := hF k hlt
          clear hF
          generalize fl.getD k 0 = z at c0 hmem
          have HMEM := hide hmem
          clear hmem
          go_wp2_with fail
          refine (ldIn_I ga rl gc z _ (unhide HG6) (unhide HMEM)).mono ?_
          rintro e w7 ⟨rfl, rfl⟩
          go_wp2_with fail
          go_roundw
          case rel => exact ⟨k + 1, by omega, by go_num, by first | rfl | trivial⟩
          case measure => simp [intOf]; omega
        · have j1 : ¬ (k : Int) < (fl.length : Int) := by omega
          go_wp2_with fail
          go_ret
          exact ⟨rfl, unhide HB6⟩
end Go.Proofs.Ytnhboegiddkhfag
