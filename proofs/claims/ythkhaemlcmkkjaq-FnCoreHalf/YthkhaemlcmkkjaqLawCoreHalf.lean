/- The walk of the law FnCoreHalf: at every two codes it answers true. -/
import Derived.Test.YthkhaemlcmkkjaqDrawCo
import Derived.Test.YthkhaemlcmkkjaqSatE
import Derived.Test.YthkhaemlcmkkjaqLdMore
import Derived.Test.YthkhaemlcmkkjaqCoE
namespace Go.Proofs.Ythkhaemlcmkkjaq
set_option linter.unusedVariables false
set_option linter.unusedSimpArgs false
open Go.RowKit Go.Deep
theorem count_neg {vars : Int} {cs : List (List Int)} (h : smallB vars cs = false) : countZ vars cs = -1 := by
  unfold countZ
  rw [if_neg (by rw [h]; decide)]
theorem count_pos {vars : Int} {cs : List (List Int)} (h : smallB vars cs = true) : countZ vars cs = ((modelsN vars.toNat cs).length : Int) := by
  unfold countZ
  rw [if_pos h]
theorem countP_split {α : Type} (p q : α → Bool) : ∀ l : List α, l.countP (fun a => p a && q a) + l.countP (fun a => p a && !q a) = l.countP p
  | [] => rfl
  | a :: l => by
    have ih := countP_split p q l
    simp only [List.countP_cons]
    cases p a <;> cases q a <;> simp <;> omega
theorem so_negH (m : List Bool) {x : Int} (hx : 0 < x) : soB m (-x) = !soB m x := by
  unfold soB
  rw [if_pos hx, if_neg (by omega), show (- -x - 1).toNat = (x - 1).toNat by omega]
theorem hold_one (v b : Nat) (cs : List (List Int)) (x : Int) : holdN v (cs ++ [[x]]) b = (holdN v cs b && soB (bitsM v b) x) := by
  simp [holdN, holdsB]
theorem small_one {vars x : Int} {cs : List (List Int)} (h : smallB vars cs = true) (hl : cs.length ≤ 26) (h1 : x ≠ 0) (h2 : -vars ≤ x) (h3 : x ≤ vars) : smallB vars (cs ++ [[x]]) = true := by
  obtain ⟨q1, q2, q3⟩ := small_parts h
  unfold smallB
  rw [decide_eq_true q2, decide_eq_true (by simp; omega : (cs ++ [[x]]).length ≤ 60), Bool.and_self, Bool.and_true]
  simp only [cnfB, Bool.and_eq_true, decide_eq_true_eq, List.all_eq_true] at q1 ⊢
  refine ⟨q1.1, by simp; omega, fun c hc => ?_⟩
  rcases List.mem_append.1 hc with hc | hc
  · exact q1.2.2 c hc
  · rw [List.mem_singleton] at hc
    subst hc
    simp [litsB, litB, inB]
    omega
theorem count_half {vars x : Int} {cs : List (List Int)} (h : smallB vars cs = true) (hl : cs.length ≤ 26) (h1 : 0 < x) (h2 : x ≤ vars) : countZ vars (cs ++ [[x]]) + countZ vars (cs ++ [[-x]]) = countZ vars cs := by
  rw [count_pos h, count_pos (small_one h hl (by omega) (by omega) h2), count_pos (small_one h hl (by omega) (by omega) (by omega))]
  unfold modelsN
  rw [← List.countP_eq_length_filter, ← List.countP_eq_length_filter, ← List.countP_eq_length_filter]
  have e1 : holdN vars.toNat (cs ++ [[x]]) = fun b => holdN vars.toNat cs b && soB (bitsM vars.toNat b) x := funext fun b => hold_one _ b cs x
  have e2 : holdN vars.toNat (cs ++ [[-x]]) = fun b => holdN vars.toNat cs b && !soB (bitsM vars.toNat b) x := funext fun b => by rw [hold_one, so_negH _ h1]
  rw [e1, e2]
  exact_mod_cast countP_split _ _ _
/-- What the operations of its region leave. -/
def HT (vn n1 : Int) (z1 z2 z : Int) (A : Value) (ls : List (List Int)) (i : Nat) (v : Value) (x : World) : Prop := match i with
  | 0 => v = .agg #[.int .i64 vn, A]
  | 1 => v = .int .i64 n1
  | 2 => ∃ g, v = .slice (some ⟨g, 0, none⟩) 1 1 ∧ SetAt x (some ⟨g, 0, none⟩) [n1]
  | 3 => ∃ a' c', v = .agg #[.int .i64 vn, .slice (some a') (ls.length + 1) c'] ∧ ClsAt x (some a') (ls ++ [[n1]])
  | 4 => v = .int .i64 z1
  | 5 => v = .agg #[.int .i64 vn, A]
  | 6 => v = .int .i64 n1
  | 7 => v = .int .i64 (-n1)
  | 8 => ∃ g, v = .slice (some ⟨g, 0, none⟩) 1 1 ∧ SetAt x (some ⟨g, 0, none⟩) [-n1]
  | 9 => ∃ a' c', v = .agg #[.int .i64 vn, .slice (some a') (ls.length + 1) c'] ∧ ClsAt x (some a') (ls ++ [[-n1]])
  | 10 => v = .int .i64 z2
  | 11 => v = .int .i64 z
  | 12 => v = .int .i64 z
  | 13 => v = .bool true
  | _ => True
theorem HT.on {vn n1 z1 z2 z : Int} {A : Value} {ls : List (List Int)} {i : Nat} {v : Value} {x y : World} (h : HT vn n1 z1 z2 z A ls i v x) (hb : Below x.heap.size x y) : HT vn n1 z1 z2 z A ls i v y := by
  unfold HT at h ⊢
  split at h
  case h_3 => obtain ⟨g, e, hs⟩ := h; exact ⟨g, e, hs.on hb⟩
  case h_4 => obtain ⟨a, c, e, hs⟩ := h; exact ⟨a, c, e, hs.on hb⟩
  case h_9 => obtain ⟨g, e, hs⟩ := h; exact ⟨g, e, hs.on hb⟩
  case h_10 => obtain ⟨a, c, e, hs⟩ := h; exact ⟨a, c, e, hs.on hb⟩
  all_goals exact h

set_option maxRecDepth 100000 in
set_option maxHeartbeats 2000000 in
theorem corehalf_law (a : Option Addr) (n c : Nat) (a2 : Option Addr) (n2 c2 : Nat) (w : World) (h : CodeAt w.heap.size w a n) (hc : n ≤ c) (hc2 : c ≤ maxLen) (hd : n2 ≤ c2) (hd2 : c2 ≤ maxLen) :
    Calls Try.prog 4 #[.slice a n c, .slice a2 n2 c2] w fun e w' => e = .returned (.bool true) ∧ Below w.heap.size w w' := by
  have hmx := hc2
  unfold maxLen at hmx
  have hmd := hd2
  unfold maxLen at hmd
  by_cases hbig : 1048576 < n
  · have hb' : (1048576 : Int) < (n : Int) := by omega
    go_enter Try.func4, Try.ntmps4
    go_wp2_with fail
    go_ret
    exact ⟨rfl, Below.refl _ _⟩
  have hb' : ¬ (1048576 : Int) < (n : Int) := by omega
  by_cases hbig2 : 1048576 < n2
  · have hb2' : (1048576 : Int) < (n2 : Int) := by omega
    go_enter Try.func4, Try.ntmps4
    go_wp2_with fail
    go_ret
    exact ⟨rfl, Below.refl _ _⟩
  have hb2' : ¬ (1048576 : Int) < (n2 : Int) := by omega
  go_enter Try.func4, Try.ntmps4
  go_wp2_with fail
  refine (DrawCoreCount_V a n c w h (by omega) hc hc2).mono ?_
  rintro e w1 ⟨⟨vars, va, vc, ls, rfl, hcls, hcap, hvn, hll⟩, b1⟩
  have HC1 := hide hcls
  have HB1 := hide b1
  clear hcls b1 h
  go_upto_region 4 with fail
  obtain ⟨w2, hw2⟩ : ∃ w2, w2 = w1.alloc (.cells #[.int .i64 vars, .slice va ls.length vc] 25) := ⟨_, rfl⟩
  rw [← hw2]
  have b2 : Below w1.heap.size w1 w2 := by rw [hw2]; exact (Below.refl _ _).alloc (Nat.le_refl _) _
  have x0 : w2.cell? ⟨w1.heap.size, 0, none⟩ = some (.int .i64 vars) := by rw [hw2]; simp
  have x1 : w2.cell? ⟨w1.heap.size, 1, none⟩ = some (.slice va ls.length vc) := by rw [hw2]; simp
  have hlt2 : w1.heap.size < w2.heap.size := by rw [hw2]; simp
  have HC2 := hide ((unhide HC1).on b2)
  have HB2 := hide ((unhide HB1).trans (b2.mono (unhide HB1).size))
  obtain ⟨z, hz⟩ : ∃ z, countZ vars ls = z := ⟨_, rfl⟩
  have HI := hide (fun x (hx : ClsAt x va ls) => implCoreCount_any vars va ls vc x hx)
  have HS := hide (fun x (hx : ClsAt x va ls) => specCoreCount_any vars va ls vc x hx)
  rw [hz] at HI HS
  have HZ := hide hz
  clear hw2 b2 HC1 HB1 hz
  go_wp2_with fail
  refine (unhide HI w2 (unhide HC2)).mono ?_
  rintro e w3 ⟨rfl, b3⟩
  have HC3 := hide ((unhide HC2).on b3)
  have HB3 := hide ((unhide HB2).trans (b3.mono (unhide HB2).size))
  have hlt3 : w1.heap.size < w3.heap.size := Nat.lt_of_lt_of_le hlt2 b3.size
  rw [← b3.cell (p := ⟨w1.heap.size, _, none⟩) hlt2] at x0 x1
  clear HC2 HB2 b3 hlt2
  cases hs : smallB vars ls with
  | false =>
    have hzn := count_neg hs
    rw [unhide HZ] at hzn
    subst hzn
    clear hs
    go_wp2_with fail
    refine (unhide HS w3 (unhide HC3)).mono ?_
    rintro e w4 ⟨rfl, b4⟩
    have HC4 := hide ((unhide HC3).on b4)
    have HB4 := hide ((unhide HB3).trans (b4.mono (unhide HB3).size))
    have hlt4 : w1.heap.size < w4.heap.size := Nat.lt_of_lt_of_le hlt3 b4.size
    rw [← b4.cell (p := ⟨w1.heap.size, _, none⟩) hlt3] at x0 x1
    clear HC3 HB3 b4 hlt3
    go_wp2_with fail
    refine (unhide HS w4 (unhide HC4)).mono ?_
    rintro e w5 ⟨rfl, b5⟩
    have HB5 := hide ((unhide HB4).trans (b5.mono (unhide HB4).size))
    have hlt5 : w1.heap.size < w5.heap.size := Nat.lt_of_lt_of_le hlt4 b5.size
    rw [← b5.cell (p := ⟨w1.heap.size, _, none⟩) hlt4] at x0 x1
    clear  HB4 b5 hlt4
    go_wp2_with fail
    go_ret
    exact ⟨rfl, unhide HB5⟩
  | true =>
    have hzp := count_pos hs
    rw [unhide HZ] at hzp
    have j0 : ¬ z < 0 := by omega
    have j60 : ¬ (60 : Int) ≤ (ls.length : Int) := by omega
    obtain ⟨_, hv10, _⟩ := small_parts hs
    by_cases hv1 : vars < 1
    · clear hs hzp
      go_wp2_with fail
      refine (unhide HS w3 (unhide HC3)).mono ?_
      rintro e w4 ⟨rfl, b4⟩
      have HC4 := hide ((unhide HC3).on b4)
      have HB4 := hide ((unhide HB3).trans (b4.mono (unhide HB3).size))
      have hlt4 : w1.heap.size < w4.heap.size := Nat.lt_of_lt_of_le hlt3 b4.size
      rw [← b4.cell (p := ⟨w1.heap.size, _, none⟩) hlt3] at x0 x1
      clear HC3 HB3 b4 hlt3
      go_wp2_with fail
      refine (unhide HS w4 (unhide HC4)).mono ?_
      rintro e w5 ⟨rfl, b5⟩
      have HB5 := hide ((unhide HB4).trans (b5.mono (unhide HB4).size))
      have hlt5 : w1.heap.size < w5.heap.size := Nat.lt_of_lt_of_le hlt4 b5.size
      rw [← b5.cell (p := ⟨w1.heap.size, _, none⟩) hlt4] at x0 x1
      clear  HB4 b5 hlt4
      go_wp2_with fail
      go_ret
      exact ⟨rfl, unhide HB5⟩
    · obtain ⟨vn, hvn2⟩ : ∃ vn : Nat, vars = (vn : Int) := ⟨vars.toNat, by omega⟩
      obtain ⟨n1, hn1⟩ : ∃ n1 : Int, n1 = 1 + ((n2 % vn : Nat) : Int) := ⟨_, rfl⟩
      have hrl : n2 % vn < vn := Nat.mod_lt _ (by omega)
      have hmod : Int.tmod (n2 : Int) vars = ((n2 % vn : Nat) : Int) := by rw [hvn2, Int.tmod_eq_emod_of_nonneg (by omega)]; norm_cast
      have hch := count_half hs hll (x := n1) (by omega) (by omega)
      obtain ⟨z1, hz1⟩ : ∃ z1, countZ vars (ls ++ [[n1]]) = z1 := ⟨_, rfl⟩
      obtain ⟨z2, hz2⟩ : ∃ z2, countZ vars (ls ++ [[-n1]]) = z2 := ⟨_, rfl⟩
      have hzb : z ≤ 1024 := by
        have h1 := models_len vars.toNat ls (2 ^ vars.toNat)
        have h2 : (modelsN vars.toNat ls).length ≤ 2 ^ vars.toNat := h1
        have h3 : 2 ^ vars.toNat ≤ 2 ^ 10 := Nat.pow_le_pow_right (by omega) (by omega)
        omega
      rw [hz1, hz2, unhide HZ] at hch
      have HZ1 := hide hz1
      have HZ2 := hide hz2
      have hws : IntKind.i64.wrap (z1 + z2) = z := by rw [hch, IntKind.wrap_i64]; omega
      have hvz : ¬ vars = 0 := by omega
      obtain ⟨r, hr⟩ : ∃ r : Int, r = ((n2 % vn : Nat) : Int) := ⟨_, rfl⟩
      rw [← hr] at hmod hn1
      have hw0 : IntKind.i64.wrap r = r := by rw [IntKind.wrap_i64]; omega
      have hw1 : IntKind.i64.wrap (1 + r) = n1 := by rw [hn1, IntKind.wrap_i64]; omega
      have hwn : IntKind.i64.wrap (-n1) = -n1 := by rw [IntKind.wrap_i64]; omega
      clear hs hzp hrl hn1 hr hvn2 hz1 hz2 hch hzb
      go_wp2_with fail
      refine (unhide HS w3 (unhide HC3)).mono ?_
      rintro e w4 ⟨rfl, b4⟩
      have HC4 := hide ((unhide HC3).on b4)
      have HB4 := hide ((unhide HB3).trans (b4.mono (unhide HB3).size))
      have hlt4 : w1.heap.size < w4.heap.size := Nat.lt_of_lt_of_le hlt3 b4.size
      rw [← b4.cell (p := ⟨w1.heap.size, _, none⟩) hlt3] at x0 x1
      clear HC3 HB3 b4 hlt3
      clear HI HS HZ
      go_upto_region 8 with fail
      refine wp_region_headF 14 (by kernel_rfl) (by kernel_rfl) (by kernel_rfl) (by kernel_rfl) (by kernel_rfl) (HT vars n1 z1 z2 z (.slice va ls.length vc) ls) (fun _ x => Below w4.heap.size w4 x) ((Below.refl _ _).drew) ?_ ?_
      · intro i o him hi' ac x L hL ha hc hd
        have y0 := (hc.cell (p := ⟨w1.heap.size, 0, none⟩) hlt4).trans x0
        have y1 := (hc.cell (p := ⟨w1.heap.size, 1, none⟩) hlt4).trans x1
        have HCC := hide hc
        match i with
        | 0 =>
          simp at hi'
          subst hi'
          have e5 : ac.tmps[5]? = some (.pointer (some ⟨w1.heap.size, 0, none⟩)) := (ha.slot 5 (slots_no (by kernel_rfl))).trans rfl
          go_simp
          first | exact ⟨_, rfl, rfl, unhide HCC⟩ | exact ⟨_, rfl, rfl⟩ | exact rfl
        | 1 =>
          simp at hi'
          subst hi'
          have e7 : ac.tmps[7]? = some (.int .i64 n1) := (ha.slot 7 (slots_no (by kernel_rfl))).trans rfl
          go_simp
          first | exact ⟨_, rfl, rfl, unhide HCC⟩ | exact ⟨_, rfl, rfl⟩ | exact rfl
        | 2 =>
          simp at hi'
          subst hi'
          have d1 := hd ⟨1, .data⟩ (by simp) rfl
          rw [valOf_at (d := 50) rfl] at d1
          simp only [HT] at d1
          have b1 := (Below.refl x.heap.size x).alloc (Nat.le_refl _) (.cells #[.int .i64 (n1)] 3)
          have hs : SetAt (x.alloc (.cells #[.int .i64 (n1)] 3)) (some ⟨x.heap.size, 0, none⟩) [n1] := by
            refine ⟨by simp, Or.inr ⟨x.heap.size, 0, rfl, by simp, fun i hi => ?_⟩⟩
            have : i = 0 := by simp at hi; omega
            subst this
            simp
          have HS := hide hs
          have HB1 := hide b1
          clear hs b1
          go_simp
          exact ⟨_, rfl, ⟨_, rfl, unhide HS⟩, (unhide HCC).trans ((unhide HB1).mono (unhide HCC).size), fun j v hj hl hT => HT.on hT (unhide HB1)⟩
        | 3 =>
          simp at hi'
          subst hi'
          have d0 := hd ⟨0, .data⟩ (by simp) rfl
          rw [valOf_at (d := 49) rfl] at d0
          simp only [HT] at d0
          have d2 := hd ⟨2, .data⟩ (by simp) rfl
          rw [valOf_at (d := 51) rfl] at d2
          simp only [HT] at d2
          obtain ⟨g, d8', hs⟩ := d2
          have HM := hide (ldMore_any vars va ls vc hvn (some ⟨g, 0, none⟩) [n1] 1 x ((unhide HC4).on hc) hs (by omega))
          clear hs
          go_simp
          refine (unhide HM).mono ?_
          rintro e y ⟨⟨a', c', rfl, hcl2⟩, b2⟩
          exact ⟨_, rfl, ⟨a', c', rfl, hcl2⟩, (unhide HCC).trans (b2.mono (unhide HCC).size), fun j v hj hl hT => HT.on hT b2⟩
        | 4 =>
          simp at hi'
          subst hi'
          have d3 := hd ⟨3, .data⟩ (by simp) rfl
          rw [valOf_at (d := 52) rfl] at d3
          simp only [HT] at d3
          obtain ⟨a', c', d9', hcl⟩ := d3
          have HM := hide (implCoreCount_any vars (some a') (ls ++ [[n1]]) c' x hcl)
          rw [show (ls ++ [[n1]]).length = ls.length + 1 by simp, unhide HZ1] at HM
          clear hcl
          go_simp
          refine (unhide HM).mono ?_
          rintro e y ⟨rfl, b2⟩
          exact ⟨_, rfl, rfl, (unhide HCC).trans (b2.mono (unhide HCC).size), fun j v hj hl hT => HT.on hT b2⟩
        | 5 =>
          simp at hi'
          subst hi'
          have e5 : ac.tmps[5]? = some (.pointer (some ⟨w1.heap.size, 0, none⟩)) := (ha.slot 5 (slots_no (by kernel_rfl))).trans rfl
          go_simp
          first | exact ⟨_, rfl, rfl, unhide HCC⟩ | exact ⟨_, rfl, rfl⟩ | exact rfl
        | 6 =>
          simp at hi'
          subst hi'
          have e7 : ac.tmps[7]? = some (.int .i64 n1) := (ha.slot 7 (slots_no (by kernel_rfl))).trans rfl
          go_simp
          first | exact ⟨_, rfl, rfl, unhide HCC⟩ | exact ⟨_, rfl, rfl⟩ | exact rfl
        | 7 =>
          simp at hi'
          subst hi'
          have d6 := hd ⟨6, .data⟩ (by simp) rfl
          rw [valOf_at (d := 55) rfl] at d6
          simp only [HT] at d6
          go_simp
          first | exact ⟨_, rfl, rfl, unhide HCC⟩ | exact ⟨_, rfl, rfl⟩ | exact rfl
        | 8 =>
          simp at hi'
          subst hi'
          have d7 := hd ⟨7, .data⟩ (by simp) rfl
          rw [valOf_at (d := 56) rfl] at d7
          simp only [HT] at d7
          have b1 := (Below.refl x.heap.size x).alloc (Nat.le_refl _) (.cells #[.int .i64 (-n1)] 3)
          have hs : SetAt (x.alloc (.cells #[.int .i64 (-n1)] 3)) (some ⟨x.heap.size, 0, none⟩) [-n1] := by
            refine ⟨by simp, Or.inr ⟨x.heap.size, 0, rfl, by simp, fun i hi => ?_⟩⟩
            have : i = 0 := by simp at hi; omega
            subst this
            simp
          have HS := hide hs
          have HB1 := hide b1
          clear hs b1
          go_simp
          exact ⟨_, rfl, ⟨_, rfl, unhide HS⟩, (unhide HCC).trans ((unhide HB1).mono (unhide HCC).size), fun j v hj hl hT => HT.on hT (unhide HB1)⟩
        | 9 =>
          simp at hi'
          subst hi'
          have d5 := hd ⟨5, .data⟩ (by simp) rfl
          rw [valOf_at (d := 54) rfl] at d5
          simp only [HT] at d5
          have d8 := hd ⟨8, .data⟩ (by simp) rfl
          rw [valOf_at (d := 57) rfl] at d8
          simp only [HT] at d8
          obtain ⟨g, d8', hs⟩ := d8
          have HM := hide (ldMore_any vars va ls vc hvn (some ⟨g, 0, none⟩) [-n1] 1 x ((unhide HC4).on hc) hs (by omega))
          clear hs
          go_simp
          refine (unhide HM).mono ?_
          rintro e y ⟨⟨a', c', rfl, hcl2⟩, b2⟩
          exact ⟨_, rfl, ⟨a', c', rfl, hcl2⟩, (unhide HCC).trans (b2.mono (unhide HCC).size), fun j v hj hl hT => HT.on hT b2⟩
        | 10 =>
          simp at hi'
          subst hi'
          have d9 := hd ⟨9, .data⟩ (by simp) rfl
          rw [valOf_at (d := 58) rfl] at d9
          simp only [HT] at d9
          obtain ⟨a', c', d9', hcl⟩ := d9
          have HM := hide (implCoreCount_any vars (some a') (ls ++ [[-n1]]) c' x hcl)
          rw [show (ls ++ [[-n1]]).length = ls.length + 1 by simp, unhide HZ2] at HM
          clear hcl
          go_simp
          refine (unhide HM).mono ?_
          rintro e y ⟨rfl, b2⟩
          exact ⟨_, rfl, rfl, (unhide HCC).trans (b2.mono (unhide HCC).size), fun j v hj hl hT => HT.on hT b2⟩
        | 11 =>
          simp at hi'
          subst hi'
          have d4 := hd ⟨4, .data⟩ (by simp) rfl
          rw [valOf_at (d := 53) rfl] at d4
          simp only [HT] at d4
          have d10 := hd ⟨10, .data⟩ (by simp) rfl
          rw [valOf_at (d := 59) rfl] at d10
          simp only [HT] at d10
          go_simp
          first | exact ⟨_, rfl, rfl, unhide HCC⟩ | exact ⟨_, rfl, rfl⟩ | exact rfl
        | 12 =>
          simp at hi'
          subst hi'
          have e6 : ac.tmps[6]? = some (.int .i64 z) := (ha.slot 6 (slots_no (by kernel_rfl))).trans rfl
          go_simp
          first | exact ⟨_, rfl, rfl, unhide HCC⟩ | exact ⟨_, rfl, rfl⟩ | exact rfl
        | 13 =>
          simp at hi'
          subst hi'
          have d11 := hd ⟨11, .data⟩ (by simp) rfl
          rw [valOf_at (d := 60) rfl] at d11
          simp only [HT] at d11
          have d12 := hd ⟨12, .data⟩ (by simp) rfl
          rw [valOf_at (d := 61) rfl] at d12
          simp only [HT] at d12
          go_simp
          first | exact ⟨_, rfl, rfl, unhide HCC⟩ | exact ⟨_, rfl, rfl⟩ | exact rfl
        | i + 14 => omega
      · intro ac x ha ht hcL
        obtain ⟨L, hL, hc⟩ := hcL
        have h13 := ht 13 (by omega)
        rw [valOf_at (d := 62) rfl] at h13
        simp only [HT] at h13
        have HBF := hide ((unhide HB4).trans (hc.mono (unhide HB4).size))
        have hl := ha.list
        simp [slotOf, List.range_succ] at hl
        rw [hl]
        clear hl ha ht hc hL
        rw [h13]
        go_wp2_with fail
        go_ret
        exact ⟨rfl, unhide HBF⟩
end Go.Proofs.Ythkhaemlcmkkjaq
