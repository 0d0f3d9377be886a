/- The walk of the law FnSatMore: at every two codes it answers true. -/
import Derived.Test.YtgolmagpdbmahahDrawSf
import Derived.Test.YtgolmagpdbmahahSatL
import Derived.Test.YtgolmagpdbmahahSatR
import Derived.Test.YtgolmagpdbmahahSatC
import Derived.Test.YtgolmagpdbmahahLdMore
namespace Go.Proofs.Ytgolmagpdbmahah
set_option linter.unusedVariables false
set_option linter.unusedSimpArgs false
open Go.RowKit Go.Deep

/-- What the operations of its region leave. -/
def ST (vn r n2 b : Nat) (A M : Value) (ls : List (List Int)) (i : Nat) (v : Value) (x : World) : Prop := match i with
  | 0 => v = .agg #[.int .i64 (vn : Int), A]
  | 1 => v = M
  | 2 => v = .int .i64 (n2 : Int)
  | 3 => v = .pointer (some ⟨b, 0, none⟩)
  | 4 => v = .int .i64 (vn : Int)
  | 5 => v = .int .i64 (r : Int)
  | 6 => v = .int .i64 (1 + (r : Int))
  | 7 => ∃ g, v = .slice (some ⟨g, 0, none⟩) 1 1 ∧ SetAt x (some ⟨g, 0, none⟩) [1 + (r : Int)]
  | 8 => ∃ a' c', v = .agg #[.int .i64 (vn : Int), .slice (some a') (ls.length + 1) c'] ∧ ClsAt x (some a') (ls ++ [[1 + (r : Int)]])
  | 9 => ∃ mv pv, v = .tuple #[.int .i64 2, mv, pv]
  | 10 => ∃ mv pv, v = .tuple #[.int .i64 2, mv, pv]
  | 11 => v = .int .i64 2
  | 14 => v = .int .i64 2
  | _ => True
theorem ST.on {vn r n2 b : Nat} {A M : Value} {ls : List (List Int)} {i : Nat} {v : Value} {x y : World} (h : ST vn r n2 b A M ls i v x) (hb : Below x.heap.size x y) : ST vn r n2 b A M ls i v y := by
  unfold ST at h ⊢
  split at h
  case h_8 => obtain ⟨g, e, hs⟩ := h; exact ⟨g, e, hs.on hb⟩
  case h_9 => obtain ⟨a, c, e, hs⟩ := h; exact ⟨a, c, e, hs.on hb⟩
  all_goals exact h
theorem more_no {vars most : Int} {cs : List (List Int)} {m : List Bool} {p : List (List Int)} (h : satZ vars cs most = (2, m, p)) (h1 : 1 ≤ vars) (h12 : vars ≤ 12) (hl : cs.length ≤ 26) {q : Int} (hq1 : 1 ≤ q) (hq2 : q ≤ vars) : (satZ vars (cs ++ [[q]]) 3000).1 = 2 := by
  have hp := sat_no h
  have hok := (proof_parts hp).1
  have hok2 : cnfB vars (cs ++ [[q]]) = true := by
    have := hok
    simp only [cnfB, Bool.and_eq_true, decide_eq_true_eq, List.all_eq_true] at this ⊢
    refine ⟨this.1, by simp; omega, fun c hc => ?_⟩
    rcases List.mem_append.1 hc with hc | hc
    · exact this.2.2 c hc
    · rw [List.mem_singleton] at hc
      subst hc
      simp [litsB, litB, inB]
      omega
  refine sat_none hok2 h12 (by omega) (by omega) fun m' => ?_
  cases e : cnfTrueB vars (cs ++ [[q]]) m' with
  | false => rfl
  | true =>
    obtain ⟨_, hlen, hh⟩ := true_parts e
    have h0 : cnfTrueB vars cs m' = true := by
      unfold cnfTrueB
      rw [hok, decide_eq_true hlen, Bool.true_and, Bool.true_and]
      exact List.all_eq_true.2 fun c hc => hh c (List.mem_append_left _ hc)
    rw [proof_sound hp m'] at h0
    cases h0

set_option maxRecDepth 100000 in
set_option maxHeartbeats 8000000 in
theorem satmore_law (a : Option Addr) (n c : Nat) (a2 : Option Addr) (n2 c2 : Nat) (w : World) (h : CodeAt w.heap.size w a n) (hc : n ≤ c) (hc2 : c ≤ maxLen) (hd : n2 ≤ c2) (hd2 : c2 ≤ maxLen) :
    Calls Try.prog 7 #[.slice a n c, .slice a2 n2 c2] w fun e w' => e = .returned (.bool true) ∧ Below w.heap.size w w' := by
  have hmx := hc2
  unfold maxLen at hmx
  have hmd := hd2
  unfold maxLen at hmd
  by_cases hbig : 1048576 < n
  · have hb' : (1048576 : Int) < (n : Int) := by omega
    go_enter Try.func7, Try.ntmps7
    go_wp2_with fail
    go_ret
    exact ⟨rfl, Below.refl _ _⟩
  have hb' : ¬ (1048576 : Int) < (n : Int) := by omega
  by_cases hbig2 : 1048576 < n2
  · have hb2' : (1048576 : Int) < (n2 : Int) := by omega
    go_enter Try.func7, Try.ntmps7
    go_wp2_with fail
    go_ret
    exact ⟨rfl, Below.refl _ _⟩
  have hb2' : ¬ (1048576 : Int) < (n2 : Int) := by omega
  go_enter Try.func7, Try.ntmps7
  go_wp2_with fail
  refine (DrawSatFind_V a n c w h (by omega) hc hc2).mono ?_
  rintro e w1 ⟨⟨vars, v, ls, vs, most, rfl, hL, hll, hsh, hmo0, hmo1⟩, b1⟩
  obtain ⟨va, vc, hv, hcls⟩ := hL.cls (by omega) hsh
  subst hv
  have hvac : va = none → vc = 0 := fun e => by
    rcases hL.own.2 with ⟨h, _⟩ | ⟨g, cap, cur, h, _⟩
    · simp only [Value.slice.injEq] at h; exact h.2.2
    · simp only [Value.slice.injEq] at h; rw [h.1] at e; cases e
  have HC1 := hide hcls
  have HSH := hide hsh
  have HB1 := hide b1
  clear hL hcls b1 h hsh
  go_upto_region 4 with fail
  obtain ⟨w2, hw2⟩ : ∃ w2, w2 = w1.alloc (.cells #[.int .i64 vars, .slice va ls.length vc] 25) := ⟨_, rfl⟩
  rw [← hw2]
  have b2 : Below w1.heap.size w1 w2 := by rw [hw2]; exact (Below.refl _ _).alloc (Nat.le_refl _) _
  have x0 : w2.cell? ⟨w1.heap.size, 0, none⟩ = some (.int .i64 vars) := by rw [hw2]; simp
  have x1 : w2.cell? ⟨w1.heap.size, 1, none⟩ = some (.slice va ls.length vc) := by rw [hw2]; simp
  have hlt2 : w1.heap.size < w2.heap.size := by rw [hw2]; simp
  have HC2 := hide ((unhide HC1).on b2)
  have HB2 := hide ((unhide HB1).trans (b2.mono (unhide HB1).size))
  clear hw2 b2 HC1 HB1
  obtain ⟨k, m, p, hr⟩ : ∃ k m p, satZ vars ls most = (k, m, p) := ⟨_, _, _, rfl⟩
  obtain ⟨sm1, sm2, sm3, sm4, sm5, sm6⟩ := sat_small hr
  have HR0 := hide hr
  have HM4 := hide sm4
  have HM5 := hide sm5
  have HM6 := hide sm6
  have HM3 := hide (fun c hc => Nat.le_trans (sm3 c hc) (show 400 ≤ 1048576 by omega))
  have HCX := hide (fun x (hx : Below w2.heap.size w2 x) => specSatFind_any vars va ls vc most x ((unhide HC2).on hx))
  have HCY := hide (fun x (hx : Below w2.heap.size w2 x) => implSatFind_any vars va ls vc most x ((unhide HC2).on hx))
  rw [hr] at HCX HCY
  clear hr sm3 sm4 sm5 sm6
  go_wp2_with fail
  refine (unhide HCX w2 (Below.refl _ _)).mono ?_
  rintro e w3 ⟨⟨mv3, pv3, vs3, rfl, hm3, hp3⟩, b3⟩
  obtain ⟨wa, wc, hmv3, hmb3⟩ := bools_of (m := m) hm3 (by omega)
  subst hmv3
  obtain ⟨ra, rc, hpv3, hpc3, hpl3, hpk3⟩ := lists_of (p := p) hp3 (by omega) (unhide HM3)
  subst hpv3
  have HW3 := hide hmb3
  have HR3 := hide hpl3
  have HS3 := hide hpk3
  clear hm3 hp3 hmb3 hpl3 hpk3
  have HC3 := hide ((unhide HC2).on b3)
  have HCZ := hide (unhide HCY w3 b3)
  have HB3 := hide ((unhide HB2).trans (b3.mono (unhide HB2).size))
  have hlt3 : w1.heap.size < w3.heap.size := Nat.lt_of_lt_of_le hlt2 b3.size
  rw [← b3.cell (p := ⟨w1.heap.size, _, none⟩) hlt2] at x0 x1
  clear HCY HC2 HB2 b3 hlt2
  go_wp2_with fail
  refine (unhide HCZ).mono ?_
  rintro e w4 ⟨⟨mv4, pv4, vs4, rfl, hm4, hp4⟩, b4⟩
  obtain ⟨ga, gc, hmv4, hmb4⟩ := bools_of (m := m) hm4 (by omega)
  subst hmv4
  obtain ⟨pa, pc, hpv4, hpc4, hpl4, hpk4⟩ := lists_of (p := p) hp4 (by omega) (unhide HM3)
  subst hpv4
  have HG4 := hide hmb4
  have HP4 := hide hpl4
  have HQ4 := hide hpk4
  clear hm4 hp4 hmb4 hpl4 hpk4
  have HC4 := hide ((unhide HC3).on b4)
  have HW4 := hide ((unhide HW3).on b4)
  have HR4 := hide ((unhide HR3).on b4)
  have HS4 := hide ((unhide HS3).on b4)
  have HB4 := hide ((unhide HB3).trans (b4.mono (unhide HB3).size))
  have hlt4 : w1.heap.size < w4.heap.size := Nat.lt_of_lt_of_le hlt3 b4.size
  rw [← b4.cell (p := ⟨w1.heap.size, _, none⟩) hlt3] at x0 x1
  clear HC3 HW3 HR3 HS3 HB3 b4 hlt3
  by_cases hk1 : k = 2
  · subst hk1
    by_cases hv1 : vars < 1
    · go_wp2_with fail
      refine (ldRows_same pa p pc ra rc w4 (unhide HP4) (unhide HR4)).mono ?_
      rintro e w5 ⟨rfl, b5⟩
      have HC5 := hide ((unhide HC4).on b5)
      have HP5 := hide ((unhide HP4).on b5)
      have HR5 := hide ((unhide HR4).on b5)
      have HB5 := hide ((unhide HB4).trans (b5.mono (unhide HB4).size))
      have hlt5 : w1.heap.size < w5.heap.size := Nat.lt_of_lt_of_le hlt4 b5.size
      rw [← b5.cell (p := ⟨w1.heap.size, _, none⟩) hlt4] at x0 x1
      clear HC4 HP4 HR4 HB4 b5 hlt4
      go_wp2_with fail
      refine (ldRows_same pa p pc ra rc w5 (unhide HP5) (unhide HR5)).mono ?_
      rintro e w6 ⟨rfl, b6⟩
      have HC6 := hide ((unhide HC5).on b6)
      have HB6 := hide ((unhide HB5).trans (b6.mono (unhide HB5).size))
      have hlt6 : w1.heap.size < w6.heap.size := Nat.lt_of_lt_of_le hlt5 b6.size
      rw [← b6.cell (p := ⟨w1.heap.size, _, none⟩) hlt5] at x0 x1
      clear HC5 HB5 b6 hlt5
      go_wp2_with fail
      go_ret
      exact ⟨rfl, unhide HB6⟩
    by_cases hv2 : 12 < vars
    · go_wp2_with fail
      refine (ldRows_same pa p pc ra rc w4 (unhide HP4) (unhide HR4)).mono ?_
      rintro e w5 ⟨rfl, b5⟩
      have HC5 := hide ((unhide HC4).on b5)
      have HP5 := hide ((unhide HP4).on b5)
      have HR5 := hide ((unhide HR4).on b5)
      have HB5 := hide ((unhide HB4).trans (b5.mono (unhide HB4).size))
      have hlt5 : w1.heap.size < w5.heap.size := Nat.lt_of_lt_of_le hlt4 b5.size
      rw [← b5.cell (p := ⟨w1.heap.size, _, none⟩) hlt4] at x0 x1
      clear HC4 HP4 HR4 HB4 b5 hlt4
      go_wp2_with fail
      refine (ldRows_same pa p pc ra rc w5 (unhide HP5) (unhide HR5)).mono ?_
      rintro e w6 ⟨rfl, b6⟩
      have HC6 := hide ((unhide HC5).on b6)
      have HB6 := hide ((unhide HB5).trans (b6.mono (unhide HB5).size))
      have hlt6 : w1.heap.size < w6.heap.size := Nat.lt_of_lt_of_le hlt5 b6.size
      rw [← b6.cell (p := ⟨w1.heap.size, _, none⟩) hlt5] at x0 x1
      clear HC5 HB5 b6 hlt5
      go_wp2_with fail
      go_ret
      exact ⟨rfl, unhide HB6⟩
    go_wp2_with fail
    refine (ldRows_same pa p pc ra rc w4 (unhide HP4) (unhide HR4)).mono ?_
    rintro e w5 ⟨rfl, b5⟩
    have HC5 := hide ((unhide HC4).on b5)
    have HB5 := hide ((unhide HB4).trans (b5.mono (unhide HB4).size))
    have hlt5 : w1.heap.size < w5.heap.size := Nat.lt_of_lt_of_le hlt4 b5.size
    rw [← b5.cell (p := ⟨w1.heap.size, _, none⟩) hlt4] at x0 x1
    clear HC4 HB4 b5 hlt4
    obtain ⟨vn, rfl⟩ : ∃ vn : Nat, vars = (vn : Int) := ⟨vars.toNat, by omega⟩
    obtain ⟨r, hr⟩ : ∃ r, r = n2 % vn := ⟨_, rfl⟩
    have hrl : r < vn := by rw [hr]; exact Nat.mod_lt _ (by omega)
    have hmod : Int.tmod (n2 : Int) (vn : Int) = (r : Int) := by rw [Int.tmod_eq_emod_of_nonneg (by omega), hr]; norm_cast
    have hvz : ¬ (vn : Int) = 0 := by omega
    have hvz2 : ¬ vn = 0 := by omega
    have hwr : IntKind.i64.wrap (1 + (r : Int)) = 1 + (r : Int) := by rw [IntKind.wrap_i64]; omega
    have hwm : IntKind.i64.wrap (r : Int) = (r : Int) := by rw [IntKind.wrap_i64]; omega
    have HNO := hide (more_no (unhide HR0) (by omega) (by omega) hll (q := 1 + (r : Int)) (by omega) (by omega))
    clear hr
    go_upto_region 8 with fail
    refine wp_region_headF 16 (by kernel_rfl) (by kernel_rfl) (by kernel_rfl) (by kernel_rfl) (by kernel_rfl) (ST vn r n2 w1.heap.size (.slice va ls.length vc) (.slice a2 n2 c2) ls) (fun _ x => Below w5.heap.size w5 x) ((Below.refl _ _).drew) ?_ ?_
    · intro i o him hi' ac x L hL ha hc hd
      have y0 := (hc.cell (p := ⟨w1.heap.size, 0, none⟩) hlt5).trans x0
      have y1 := (hc.cell (p := ⟨w1.heap.size, 1, none⟩) hlt5).trans x1
      have e5 : ac.tmps[5]? = some (.pointer (some ⟨w1.heap.size, 0, none⟩)) := (ha.slot 5 (slots_no (by kernel_rfl))).trans rfl
      have e1 : ac.tmps[1]? = some (.slice a2 n2 c2) := (ha.slot 1 (slots_no (by kernel_rfl))).trans rfl
      have HCC := hide hc
      match i with
      | 0 =>
        simp at hi'
        subst hi'
        go_simp
        first | exact ⟨_, rfl, rfl, unhide HCC⟩ | exact ⟨_, rfl, rfl⟩ | exact rfl
      | 1 =>
        simp at hi'
        subst hi'
        go_simp
        first | exact ⟨_, rfl, rfl, unhide HCC⟩ | exact ⟨_, rfl, rfl⟩ | exact rfl
      | 2 =>
        simp at hi'
        subst hi'
        have d1 := hd ⟨1, .data⟩ (by simp) rfl
        rw [valOf_at (d := 76) rfl] at d1
        simp only [ST] at d1
        go_simp
        first | exact ⟨_, rfl, rfl, unhide HCC⟩ | exact ⟨_, rfl, rfl⟩ | exact rfl
      | 3 =>
        simp at hi'
        subst hi'
        go_simp
        first | exact ⟨_, rfl, rfl, unhide HCC⟩ | exact ⟨_, rfl, rfl⟩ | exact rfl
      | 4 =>
        simp at hi'
        subst hi'
        have d1 := hd ⟨3, .data⟩ (by simp) rfl
        rw [valOf_at (d := 78) rfl] at d1
        simp only [ST] at d1
        go_simp
        first | exact ⟨_, rfl, rfl, unhide HCC⟩ | exact ⟨_, rfl, rfl⟩ | exact rfl
      | 5 =>
        simp at hi'
        subst hi'
        have d1 := hd ⟨2, .data⟩ (by simp) rfl
        rw [valOf_at (d := 77) rfl] at d1
        simp only [ST] at d1
        have d2 := hd ⟨4, .data⟩ (by simp) rfl
        rw [valOf_at (d := 79) rfl] at d2
        simp only [ST] at d2
        go_simp
        first | exact ⟨_, rfl, rfl, unhide HCC⟩ | exact ⟨_, rfl, rfl⟩ | exact rfl
      | 6 =>
        simp at hi'
        subst hi'
        have d1 := hd ⟨5, .data⟩ (by simp) rfl
        rw [valOf_at (d := 80) rfl] at d1
        simp only [ST] at d1
        go_simp
        first | exact ⟨_, rfl, rfl, unhide HCC⟩ | exact ⟨_, rfl, rfl⟩ | exact rfl
      | 7 =>
        simp at hi'
        subst hi'
        have d1 := hd ⟨6, .data⟩ (by simp) rfl
        rw [valOf_at (d := 81) rfl] at d1
        simp only [ST] at d1
        have b1 := (Below.refl x.heap.size x).alloc (Nat.le_refl _) (.cells #[.int .i64 (1 + (r : Int))] 3)
        have hs : SetAt (x.alloc (.cells #[.int .i64 (1 + (r : Int))] 3)) (some ⟨x.heap.size, 0, none⟩) [1 + (r : Int)] := by
          refine ⟨by simp, Or.inr ⟨x.heap.size, 0, rfl, by simp, fun i hi => ?_⟩⟩
          have : i = 0 := by simp at hi; omega
          subst this
          simp
        have HS := hide hs
        have HB1 := hide b1
        clear hs b1
        go_simp
        exact ⟨_, rfl, ⟨_, rfl, unhide HS⟩, (unhide HCC).trans ((unhide HB1).mono (unhide HCC).size), fun j v hj hl hT => ST.on hT (unhide HB1)⟩
      | 8 =>
        simp at hi'
        subst hi'
        have d0 := hd ⟨0, .data⟩ (by simp) rfl
        rw [valOf_at (d := 75) rfl] at d0
        simp only [ST] at d0
        have d7 := hd ⟨7, .data⟩ (by simp) rfl
        rw [valOf_at (d := 82) rfl] at d7
        simp only [ST] at d7
        obtain ⟨g, d8, hs⟩ := d7
        have hcl := (unhide HC5).on hc
        have HM := hide (ldMore_any (vn : Int) va ls vc hvac (some ⟨g, 0, none⟩) [1 + (r : Int)] 1 x hcl hs (by omega))
        clear hs hcl
        go_simp
        refine (unhide HM).mono ?_
        rintro e y ⟨⟨a', c', rfl, hcl2⟩, b2⟩
        exact ⟨_, rfl, ⟨a', c', rfl, hcl2⟩, (unhide HCC).trans (b2.mono (unhide HCC).size), fun j v hj hl hT => ST.on hT b2⟩
      | 9 =>
        simp at hi'
        subst hi'
        have d8 := hd ⟨8, .data⟩ (by simp) rfl
        rw [valOf_at (d := 83) rfl] at d8
        simp only [ST] at d8
        obtain ⟨a', c', d9, hcl⟩ := d8
        have HM := hide (implSatFind_any (vn : Int) (some a') (ls ++ [[1 + (r : Int)]]) c' 3000 x hcl)
        rw [show (ls ++ [[1 + (r : Int)]]).length = ls.length + 1 by simp] at HM
        clear hcl
        go_simp
        refine (unhide HM).mono ?_
        rintro e y ⟨⟨mv, pv, vs2, rfl, _, _⟩, b2⟩
        rw [unhide HNO]
        exact ⟨_, rfl, ⟨mv, pv, rfl⟩, (unhide HCC).trans (b2.mono (unhide HCC).size), fun j v hj hl hT => ST.on hT b2⟩
      | 10 =>
        simp at hi'
        subst hi'
        have d9 := hd ⟨9, .data⟩ (by simp) rfl
        rw [valOf_at (d := 84) rfl] at d9
        simp only [ST] at d9
        obtain ⟨mv, pv, d9⟩ := d9
        go_simp
        first | exact ⟨_, rfl, ⟨mv, pv, rfl⟩, unhide HCC⟩ | exact ⟨_, rfl, ⟨mv, pv, rfl⟩⟩ | exact ⟨mv, pv, rfl⟩
      | 11 =>
        simp at hi'
        subst hi'
        have d9 := hd ⟨10, .data⟩ (by simp) rfl
        rw [valOf_at (d := 74) rfl] at d9
        simp only [ST] at d9
        obtain ⟨mv, pv, d9⟩ := d9
        go_simp
        first | exact ⟨_, rfl, rfl, unhide HCC⟩ | exact ⟨_, rfl, rfl⟩ | exact rfl
      | 12 =>
        simp at hi'
        subst hi'
        have d9 := hd ⟨10, .data⟩ (by simp) rfl
        rw [valOf_at (d := 74) rfl] at d9
        simp only [ST] at d9
        obtain ⟨mv, pv, d9⟩ := d9
        go_simp
        first | exact ⟨_, rfl, True.intro, unhide HCC⟩ | exact ⟨_, rfl, True.intro⟩ | exact True.intro
      | 13 =>
        simp at hi'
        subst hi'
        have d9 := hd ⟨10, .data⟩ (by simp) rfl
        rw [valOf_at (d := 74) rfl] at d9
        simp only [ST] at d9
        obtain ⟨mv, pv, d9⟩ := d9
        go_simp
        first | exact ⟨_, rfl, True.intro, unhide HCC⟩ | exact ⟨_, rfl, True.intro⟩ | exact True.intro
      | 14 =>
        simp at hi'
        subst hi'
        have d1 := hd ⟨11, .data⟩ (by simp) rfl
        rw [valOf_at (d := 85) rfl] at d1
        simp only [ST] at d1
        go_simp
        first | exact ⟨_, rfl, rfl, unhide HCC⟩ | exact ⟨_, rfl, rfl⟩ | exact rfl
      | 15 =>
        simp at hi'
        subst hi'
        go_simp
        first | exact ⟨_, rfl, True.intro, unhide HCC⟩ | exact ⟨_, rfl, True.intro⟩ | exact True.intro
      | i + 16 => omega
    · intro ac x ha ht hcL
      obtain ⟨L, hL, hc⟩ := hcL
      have h13 := ht 14 (by omega)
      rw [valOf_at (d := 13) rfl] at h13
      simp only [ST] at h13
      have HBF := hide ((unhide HB5).trans (hc.mono (unhide HB5).size))
      have hl := ha.list
      simp [slotOf, List.range_succ] at hl
      rw [hl]
      clear hl ha ht hc hL
      rw [h13]
      go_wp2_with fail
      go_ret
      exact ⟨rfl, unhide HBF⟩
  · have hk2 : (k == 2) = false := by rw [beq_eq_false_iff_ne]; exact hk1
    have hk3 : (k != 2) = true := by rw [bne_iff_ne]; exact hk1
    go_wp2_with fail
    refine (ldRows_same pa p pc ra rc w4 (unhide HP4) (unhide HR4)).mono ?_
    rintro e w5 ⟨rfl, b5⟩
    have HC5 := hide ((unhide HC4).on b5)
    have HP5 := hide ((unhide HP4).on b5)
    have HR5 := hide ((unhide HR4).on b5)
    have HB5 := hide ((unhide HB4).trans (b5.mono (unhide HB4).size))
    have hlt5 : w1.heap.size < w5.heap.size := Nat.lt_of_lt_of_le hlt4 b5.size
    rw [← b5.cell (p := ⟨w1.heap.size, _, none⟩) hlt4] at x0 x1
    clear HC4 HP4 HR4 HB4 b5 hlt4
    go_wp2_with fail
    refine (ldRows_same pa p pc ra rc w5 (unhide HP5) (unhide HR5)).mono ?_
    rintro e w6 ⟨rfl, b6⟩
    have HC6 := hide ((unhide HC5).on b6)
    have HB6 := hide ((unhide HB5).trans (b6.mono (unhide HB5).size))
    have hlt6 : w1.heap.size < w6.heap.size := Nat.lt_of_lt_of_le hlt5 b6.size
    rw [← b6.cell (p := ⟨w1.heap.size, _, none⟩) hlt5] at x0 x1
    clear HC5 HB5 b6 hlt5
    go_wp2_with fail
    go_ret
    exact ⟨rfl, unhide HB6⟩
end Go.Proofs.Ytgolmagpdbmahah
