/- The walk of the law FnSatNot: at every code it answers true. -/
import Derived.Test.YthkhaemlcmkkjaiDrawSf
import Derived.Test.YthkhaemlcmkkjaiSatL
import Derived.Test.YthkhaemlcmkkjaiSatR
import Derived.Test.YthkhaemlcmkkjaiSatC
import Derived.Test.YthkhaemlcmkkjaiSatE
import Derived.Test.YthkhaemlcmkkjaiLdMore
import Derived.Test.YthkhaemlcmkkjaiLdAhead
import Derived.Test.YthkhaemlcmkkjaiGCn
namespace Go.Proofs.Ythkhaemlcmkkjai
set_option linter.unusedVariables false
set_option linter.unusedSimpArgs false
open Go.RowKit Go.Deep

/-- What forbids a model. -/
def notM (m : List Bool) (n : Nat) : List Int := (List.range n).map fun j => if m.getD j false then -(j : Int) - 1 else (j : Int) + 1
theorem notM_more (m : List Bool) (n : Nat) : notM m (n + 1) = notM m n ++ [if m.getD n false then -(n : Int) - 1 else (n : Int) + 1] := by simp [notM, List.range_succ]
theorem notM_len (m : List Bool) (n : Nat) : (notM m n).length = n := by simp [notM]
theorem notM_holds (m : List Bool) (n : Nat) : holdsB m (notM m n) = false := by
  unfold holdsB
  rw [List.any_eq_false]
  intro x hx
  obtain ⟨j, hj, rfl⟩ := List.mem_map.1 hx
  unfold soB
  cases e : m.getD j false with
  | true =>
    have h1 : (if true = true then -(j : Int) - 1 else (j : Int) + 1) = -(j : Int) - 1 := by simp
    rw [h1, if_neg (by omega), show (-(-(j : Int) - 1) - 1).toNat = j by omega, e]
    simp
  | false =>
    have h1 : (if false = true then -(j : Int) - 1 else (j : Int) + 1) = (j : Int) + 1 := by simp
    rw [h1, if_pos (by omega), show ((j : Int) + 1 - 1).toNat = j by omega, e]
    simp
theorem aheadF_total : ∀ (a b : List Bool), a.length = b.length → a ≠ b → ¬ AheadB b a → aheadF a b = true
  | [], [], _, h, _ => absurd rfl h
  | [], _ :: _, h, _, _ => by simp at h
  | _ :: _, [], h, _, _ => by simp at h
  | x :: a, y :: b, hl, hne, hn => by
    unfold aheadF
    by_cases e : x = y
    · rw [if_pos e]
      refine aheadF_total a b (by simpa using hl) (fun h => hne (by rw [e, h])) (fun ⟨i, h1, h2, h3, h4, h5⟩ => hn ⟨i + 1, by simp; omega, by simp; omega, fun j hj => ?_, by simpa using h4, by simpa using h5⟩)
      cases j with
      | zero => simpa using e.symm
      | succ j => simpa using h3 j (by omega)
    · rw [if_neg e]
      cases y with
      | true => rfl
      | false =>
        cases x with
        | false => exact absurd rfl e
        | true => exact absurd ⟨0, by simp, by simp, fun j hj => by omega, by simp, by simp⟩ hn
theorem not_code {vars most : Int} {cs : List (List Int)} {m : List Bool} {p : List (List Int)} (h : satZ vars cs most = (1, m, p)) (h12 : vars ≤ 12) (hl : cs.length ≤ 26) {k : Int} {m' : List Bool} {p' : List (List Int)} (h' : satZ vars (cs ++ [notM m m.length]) 3000 = (k, m', p')) : k = 2 ∨ (k = 1 ∧ aheadF m m' = true ∧ cnfTrueB vars cs m' = true) := by
  have hy := (sat_yes h).1
  obtain ⟨hok, hlen, _⟩ := true_parts hy
  have hok' : cnfB vars (cs ++ [notM m m.length]) = true := by
    have := hok
    simp only [cnfB, Bool.and_eq_true, decide_eq_true_eq, List.all_eq_true] at this ⊢
    refine ⟨this.1, by simp; omega, fun c hc => ?_⟩
    rcases List.mem_append.1 hc with hc | hc
    · exact this.2.2 c hc
    · rw [List.mem_singleton] at hc
      subst hc
      unfold litsB
      rw [Bool.and_eq_true, decide_eq_true_eq, List.all_eq_true, notM_len]
      refine ⟨by omega, fun x hx => ?_⟩
      obtain ⟨j, hj, rfl⟩ := List.mem_map.1 hx
      rw [List.mem_range] at hj
      unfold litB inB
      split <;> simp <;> omega
  rcases sat_full hok' h12 (by omega) (Int.le_refl _) (most := 3000) with h1 | h1
  · rw [h'] at h1
    simp only at h1
    subst h1
    obtain ⟨_, hlen', hh⟩ := true_parts (sat_yes h').1
    have ht : cnfTrueB vars cs m' = true := by
      unfold cnfTrueB
      rw [hok, decide_eq_true hlen', Bool.true_and, Bool.true_and]
      exact List.all_eq_true.2 fun c hc => hh c (List.mem_append_left _ hc)
    have hno := hh _ (List.mem_append_right _ (List.mem_singleton.2 rfl))
    refine .inr ⟨rfl, aheadF_total m m' (by omega) (fun e => ?_) (sat_first h ht), ht⟩
    rw [← e, notM_holds] at hno
    cases hno
  · rw [h'] at h1
    exact .inl h1

set_option maxRecDepth 100000 in
set_option maxHeartbeats 8000000 in
theorem satnot_law (a : Option Addr) (n c : Nat) (w : World) (h : CodeAt w.heap.size w a n) (hc : n ≤ c) (hc2 : c ≤ maxLen) :
    Calls Try.prog 4 #[.slice a n c] w fun e w' => e = .returned (.bool true) ∧ Below w.heap.size w w' := by
  have hmx := hc2
  unfold maxLen at hmx
  by_cases hbig : 1048576 < n
  · have hb' : (1048576 : Int) < (n : Int) := by omega
    go_enter Try.func4, Try.ntmps4
    go_wp2_with fail
    go_ret
    exact ⟨rfl, Below.refl _ _⟩
  have hb' : ¬ (1048576 : Int) < (n : Int) := by omega
  go_enter Try.func4, Try.ntmps4
  go_wp2_with fail
  refine (DrawSatFind_V a n c w h (by omega) hc hc2).mono ?_
  rintro e w1 ⟨⟨vars, v, ls, vs, most, rfl, hL, hll, hsh, hmo0, hmo1⟩, b1⟩
  obtain ⟨va, vc, hv, hcls⟩ := hL.cls (by omega) hsh
  subst hv
  have hvac : va = none → vc = 0 := fun e => by
    rcases hL.own.2 with ⟨h, _⟩ | ⟨g, cap, cur, h, _⟩
    · simp only [Value.slice.injEq] at h; exact h.2.2
    · simp only [Value.slice.injEq] at h; rw [h.1] at e; cases e
  have HC1 := hide hcls
  have HSH := hide hsh
  have HB1 := hide b1
  clear hL hcls b1 h hsh
  go_upto_region 4 with fail
  obtain ⟨w2, hw2⟩ : ∃ w2, w2 = w1.alloc (.cells #[.int .i64 vars, .slice va ls.length vc] 25) := ⟨_, rfl⟩
  rw [← hw2]
  have b2 : Below w1.heap.size w1 w2 := by rw [hw2]; exact (Below.refl _ _).alloc (Nat.le_refl _) _
  have x0 : w2.cell? ⟨w1.heap.size, 0, none⟩ = some (.int .i64 vars) := by rw [hw2]; simp
  have x1 : w2.cell? ⟨w1.heap.size, 1, none⟩ = some (.slice va ls.length vc) := by rw [hw2]; simp
  have hlt2 : w1.heap.size < w2.heap.size := by rw [hw2]; simp
  have HC2 := hide ((unhide HC1).on b2)
  have HB2 := hide ((unhide HB1).trans (b2.mono (unhide HB1).size))
  clear hw2 b2 HC1 HB1
  obtain ⟨k, m, p, hr⟩ : ∃ k m p, satZ vars ls most = (k, m, p) := ⟨_, _, _, rfl⟩
  obtain ⟨sm1, sm2, sm3, sm4, sm5, sm6⟩ := sat_small hr
  have HR0 := hide hr
  have HM4 := hide sm4
  have HM5 := hide sm5
  have HM6 := hide sm6
  have HM3 := hide (fun c hc => Nat.le_trans (sm3 c hc) (show 400 ≤ 1048576 by omega))
  have HCX := hide (fun x (hx : Below w2.heap.size w2 x) => specSatFind_any vars va ls vc most x ((unhide HC2).on hx))
  have HCY := hide (fun x (hx : Below w2.heap.size w2 x) => implSatFind_any vars va ls vc most x ((unhide HC2).on hx))
  rw [hr] at HCX HCY
  clear hr sm3 sm4 sm5 sm6
  go_wp2_with fail
  refine (unhide HCX w2 (Below.refl _ _)).mono ?_
  rintro e w3 ⟨⟨mv3, pv3, vs3, rfl, hm3, hp3⟩, b3⟩
  obtain ⟨wa, wc, hmv3, hmb3⟩ := bools_of (m := m) hm3 (by omega)
  subst hmv3
  obtain ⟨ra, rc, hpv3, hpc3, hpl3, hpk3⟩ := lists_of (p := p) hp3 (by omega) (unhide HM3)
  subst hpv3
  have HW3 := hide hmb3
  have HR3 := hide hpl3
  have HS3 := hide hpk3
  clear hm3 hp3 hmb3 hpl3 hpk3
  have HC3 := hide ((unhide HC2).on b3)
  have HCZ := hide (unhide HCY w3 b3)
  have HB3 := hide ((unhide HB2).trans (b3.mono (unhide HB2).size))
  have hlt3 : w1.heap.size < w3.heap.size := Nat.lt_of_lt_of_le hlt2 b3.size
  rw [← b3.cell (p := ⟨w1.heap.size, _, none⟩) hlt2] at x0 x1
  clear HCY HC2 HB2 b3 hlt2
  go_wp2_with fail
  refine (unhide HCZ).mono ?_
  rintro e w4 ⟨⟨mv4, pv4, vs4, rfl, hm4, hp4⟩, b4⟩
  obtain ⟨ga, gc, hmv4, hmb4⟩ := bools_of (m := m) hm4 (by omega)
  subst hmv4
  obtain ⟨pa, pc, hpv4, hpc4, hpl4, hpk4⟩ := lists_of (p := p) hp4 (by omega) (unhide HM3)
  subst hpv4
  have HG4 := hide hmb4
  have HP4 := hide hpl4
  have HQ4 := hide hpk4
  clear hm4 hp4 hmb4 hpl4 hpk4
  have HC4 := hide ((unhide HC3).on b4)
  have HW4 := hide ((unhide HW3).on b4)
  have HR4 := hide ((unhide HR3).on b4)
  have HS4 := hide ((unhide HS3).on b4)
  have HB4 := hide ((unhide HB3).trans (b4.mono (unhide HB3).size))
  have hlt4 : w1.heap.size < w4.heap.size := Nat.lt_of_lt_of_le hlt3 b4.size
  rw [← b4.cell (p := ⟨w1.heap.size, _, none⟩) hlt3] at x0 x1
  clear HC3 HW3 HR3 HS3 HB3 b4 hlt3
  go_wp2_with fail
  refine (ldBools_I ga wa m gc wc w4 (unhide HG4) (unhide HW4)).mono ?_
  rintro e w5 ⟨rfl, b5⟩
  have HC5 := hide ((unhide HC4).on b5)
  have HG5 := hide ((unhide HG4).on b5)
  have HW5 := hide ((unhide HW4).on b5)
  have HB5 := hide ((unhide HB4).trans (b5.mono (unhide HB4).size))
  have hlt5 : w1.heap.size < w5.heap.size := Nat.lt_of_lt_of_le hlt4 b5.size
  rw [← b5.cell (p := ⟨w1.heap.size, _, none⟩) hlt4] at x0 x1
  clear HC4 HG4 HW4 HB4 b5 hlt4
  by_cases hk1 : k = 1
  · subst hk1
    by_cases hv2 : 12 < vars
    · go_wp2_with fail
      refine (ldBools_I ga wa m gc wc w5 (unhide HG5) (unhide HW5)).mono ?_
      rintro e w6 ⟨rfl, b6⟩
      have HC6 := hide ((unhide HC5).on b6)
      have HB6 := hide ((unhide HB5).trans (b6.mono (unhide HB5).size))
      have hlt6 : w1.heap.size < w6.heap.size := Nat.lt_of_lt_of_le hlt5 b6.size
      rw [← b6.cell (p := ⟨w1.heap.size, _, none⟩) hlt5] at x0 x1
      clear HC5 HB5 b6 hlt5
      go_wp2_with fail
      go_ret
      exact ⟨rfl, unhide HB6⟩
    obtain ⟨i1, hj1, hy0, hy1, hy2⟩ := info_parts Try.infoJ
    have HNC := hide (fun (k : Int) (m' : List Bool) (p' : List (List Int)) (h' : satZ vars (ls ++ [notM m m.length]) 3000 = (k, m', p')) => not_code (unhide HR0) (by omega) hll h')
    have HM0 := hide (RowI.nil w5)
    clear HW5
    go_wp2_with fail
    go_loopw [11, 12] (fun x i wr => ∃ j : Nat, j ≤ m.length ∧ i = .int .i64 j ∧ Hid (RowI w5.heap.size wr x (notM m j)) ∧ w5.heap.size ≤ wr.heap.size ∧ Hid (Below w5.heap.size w5 wr)) (fun _ i _ => m.length - (intOf i).toNat)
    case atStart => exact ⟨0, Nat.zero_le _, rfl, HM0, by simp, (Below.refl _ _).alloc (Nat.le_refl _) _⟩
    case round =>
      rename World => wi
      obtain ⟨j, hj, rfl, HM, hwi, HB⟩ := hrel
      clear HM0
      have hbl := notM_len m j
      by_cases hjv : j < m.length
      · have j2 : (j : Int) < (m.length : Int) := by omega
        have j0 : (0 : Int) ≤ (j : Int) := by omega
        have hown : wi.ownsRow w5.heap.size 3 1 u11 j ((notM m j).map fun i => .int .i64 i) := by
          have := unhide HM
          unfold RowI at this
          rwa [hbl] at this
        have hblk : ∀ b, u11.ownBlock = some b → w5.heap.size ≤ b := fun b hb => (World.ownsRow.lt hown b hb).1
        rcases (unhide HG5).2 with h0 | ⟨gb, go, hge, hgl, hgc⟩
        · rw [h0] at hjv; simp at hjv
        have c0 := ((unhide HB).cell (p := ⟨gb, go + j, none⟩) hgl).trans (hgc j hjv)
        subst hge
        have hwn : IntKind.i64.wrap (-(j : Int)) = -(j : Int) := by rw [IntKind.wrap_i64]; omega
        have hwn2 : IntKind.i64.wrap (-(j : Int) - 1) = -(j : Int) - 1 := by rw [IntKind.wrap_i64]; omega
        obtain ⟨bv, hbv⟩ : ∃ bv, m.getD j false = bv := ⟨_, rfl⟩
        rw [hbv] at c0
        cases bv with
        | true =>
          have HBV := hide (show (if m.getD j false = true then -(j : Int) - 1 else (j : Int) + 1) = -(j : Int) - 1 by rw [hbv]; rfl)
          clear hbv hgc
          go_wp2_with (first
            | (at_builtin; refine wpList_append_own _ rfl _ _ 34 rfl w5.heap.size 3 i1 (.int .i64 0) 1 8 Try.underlying34 hj1 hy0 hy1 hy2 rfl (by decide) _ _ _ rfl (hown.alloc _) ⟨wi.heap.size, 0, none⟩ 1 1 [.int .i64 (-(j : Int) - 1)] rfl rfl ?c1 ?c2 ?c3 ?c4 ?c5 ?_))
          case c1 =>
            intro j u hj
            match j, hj with
            | 0, hj => simp at hj; subst hj; simp [Addr.add]
          case c2 => intro u hu; simp at hu; subst hu; rfl
          case c3 => unfold maxLen; omega
          case c4 => omega
          case c5 => simp; omega
          intro v' wj hown' hgrow _
          have HM2 : Hid (RowI w5.heap.size wj v' (notM m (j + 1))) := by
            show RowI _ _ _ _
            have hb2 := notM_len m (j + 1)
            unfold RowI
            rw [hb2, notM_more, List.map_append, unhide HBV]
            exact hown'
          have hzj := hgrow.size
          simp at hzj
          have HB2 : Hid (Below w5.heap.size w5 wj) := ⟨hgrow.os.trans (unhide HB).os, hgrow.tape.trans (unhide HB).tape, hgrow.output.trans (unhide HB).output, by omega, fun b hb => (hgrow.block b (by simp; omega) (fun e => by have := hblk b e.symm; omega)).trans ((blk_alloc_lt _ _ _ (by omega)).trans ((unhide HB).block b hb))⟩
          clear hown hown' hgrow HB HM
          go_wp2_with fail
          go_roundw
          case rel => exact ⟨j + 1, by omega, by go_num, HM2, by omega, HB2⟩
          case measure => simp [intOf]; omega
        | false =>
          have HBV := hide (show (if m.getD j false = true then -(j : Int) - 1 else (j : Int) + 1) = (j : Int) + 1 by rw [hbv]; rfl)
          clear hbv hgc
          go_wp2_with (first
            | (at_builtin; refine wpList_append_own _ rfl _ _ 34 rfl w5.heap.size 3 i1 (.int .i64 0) 1 8 Try.underlying34 hj1 hy0 hy1 hy2 rfl (by decide) _ _ _ rfl (hown.alloc _) ⟨wi.heap.size, 0, none⟩ 1 1 [.int .i64 ((j : Int) + 1)] rfl rfl ?c1 ?c2 ?c3 ?c4 ?c5 ?_))
          case c1 =>
            intro j u hj
            match j, hj with
            | 0, hj => simp at hj; subst hj; simp [Addr.add]
          case c2 => intro u hu; simp at hu; subst hu; rfl
          case c3 => unfold maxLen; omega
          case c4 => omega
          case c5 => simp; omega
          intro v' wj hown' hgrow _
          have HM2 : Hid (RowI w5.heap.size wj v' (notM m (j + 1))) := by
            show RowI _ _ _ _
            have hb2 := notM_len m (j + 1)
            unfold RowI
            rw [hb2, notM_more, List.map_append, unhide HBV]
            exact hown'
          have hzj := hgrow.size
          simp at hzj
          have HB2 : Hid (Below w5.heap.size w5 wj) := ⟨hgrow.os.trans (unhide HB).os, hgrow.tape.trans (unhide HB).tape, hgrow.output.trans (unhide HB).output, by omega, fun b hb => (hgrow.block b (by simp; omega) (fun e => by have := hblk b e.symm; omega)).trans ((blk_alloc_lt _ _ _ (by omega)).trans ((unhide HB).block b hb))⟩
          clear hown hown' hgrow HB HM
          go_wp2_with fail
          go_roundw
          case rel => exact ⟨j + 1, by omega, by go_num, HM2, by omega, HB2⟩
          case measure => simp [intOf]; omega
      · have hjv2 : j = m.length := by omega
        subst hjv2
        have j2 : ¬ (m.length : Int) < (m.length : Int) := by omega
        obtain ⟨na, nc, hnv, hns⟩ := RowI.set (unhide HM) (by omega)
        subst hnv
        have x2 := ((unhide HB).cell (p := ⟨w1.heap.size, 0, none⟩) hlt5).trans x0
        have x3 := ((unhide HB).cell (p := ⟨w1.heap.size, 1, none⟩) hlt5).trans x1
        have HLM := hide (ldMore_any vars va ls vc hvac na (notM m m.length) nc wi ((unhide HC5).on (unhide HB)) hns (by omega))
        have HBI := hide ((unhide HB5).trans ((unhide HB).mono (unhide HB5).size))
        have HCI := hide ((unhide HC5).on (unhide HB))
        have HGI := hide ((unhide HG5).on (unhide HB))
        have hlti : w1.heap.size < wi.heap.size := by omega
        rw [hbl] at HLM ⊢
        clear hns HM HB x0 x1
        go_wp2_with fail
        refine (unhide HLM).mono ?_
        rintro e w6 ⟨⟨a', c', rfl, hcl⟩, b6⟩
        obtain ⟨k', m', p', hz⟩ : ∃ k' m' p', satZ vars (ls ++ [notM m m.length]) 3000 = (k', m', p') := ⟨_, _, _, rfl⟩
        obtain ⟨sn1, _⟩ := sat_small hz
        have hnc := unhide HNC k' m' p' hz
        have HF := hide (implSatFind_any vars (some a') (ls ++ [notM m m.length]) c' 3000 w6 hcl)
        rw [hz, show (ls ++ [notM m m.length]).length = ls.length + 1 by simp] at HF
        have HB6 := hide ((unhide HBI).trans (b6.mono (unhide HBI).size))
        have HC6 := hide ((unhide HCI).on b6)
        have HG6 := hide ((unhide HGI).on b6)
        rw [← b6.cell (p := ⟨w1.heap.size, _, none⟩) hlti] at x2 x3
        have hlt6 : w1.heap.size < w6.heap.size := Nat.lt_of_lt_of_le hlti b6.size
        clear hcl hz HLM HBI HCI HGI b6 HNC
        go_wp2_with fail
        refine (unhide HF).mono ?_
        rintro e w7 ⟨⟨mv7, pv7, vs7, rfl, hm7, hp7⟩, b7⟩
        obtain ⟨xa, xc, hmv7, hmb7⟩ := bools_of (m := m') hm7 (by omega)
        subst hmv7
        have HX7 := hide hmb7
        have HB7 := hide ((unhide HB6).trans (b7.mono (unhide HB6).size))
        have HC7 := hide ((unhide HC6).on b7)
        have HG7 := hide ((unhide HG6).on b7)
        rw [← b7.cell (p := ⟨w1.heap.size, _, none⟩) hlt6] at x2 x3
        have hlt7 : w1.heap.size < w7.heap.size := Nat.lt_of_lt_of_le hlt6 b7.size
        clear HF hm7 hp7 hmb7 b7 HB6 HC6 HG6
        rcases hnc with rfl | ⟨rfl, hah, htr⟩
        · go_wp2_with fail
          go_ret
          exact ⟨rfl, unhide HB7⟩
        · have HAH := hide hah
          have HCT := hide (fun x (hx : Below w7.heap.size w7 x) => implCnfTrue_any vars va ls vc xa m' xc x ((unhide HC7).on hx) ((unhide HX7).on hx))
          rw [htr] at HCT
          clear hah htr
          go_wp2_with fail
          refine (ldAhead_any ga xa m m' gc xc w7 (unhide HG7) (unhide HX7)).mono ?_
          rintro e w8 ⟨rfl, b8⟩
          rw [unhide HAH]
          rw [← b8.cell (p := ⟨w1.heap.size, _, none⟩) hlt7] at x2 x3
          have HB8 := hide ((unhide HB7).trans (b8.mono (unhide HB7).size))
          go_wp2_with fail
          refine (unhide HCT w8 b8).mono ?_
          rintro e w9 ⟨rfl, b9⟩
          have HB9 := hide ((unhide HB8).trans (b9.mono (unhide HB8).size))
          go_wp2_with fail
          go_ret
          exact ⟨rfl, unhide HB9⟩
  · have hk2 : (k == 1) = false := by rw [beq_eq_false_iff_ne]; exact hk1
    have hk3 : (k != 1) = true := by rw [bne_iff_ne]; exact hk1
    go_wp2_with fail
    refine (ldBools_I ga wa m gc wc w5 (unhide HG5) (unhide HW5)).mono ?_
    rintro e w6 ⟨rfl, b6⟩
    have HC6 := hide ((unhide HC5).on b6)
    have HB6 := hide ((unhide HB5).trans (b6.mono (unhide HB5).size))
    have hlt6 : w1.heap.size < w6.heap.size := Nat.lt_of_lt_of_le hlt5 b6.size
    rw [← b6.cell (p := ⟨w1.heap.size, _, none⟩) hlt5] at x0 x1
    clear HC5 HB5 b6 hlt5
    go_wp2_with fail
    go_ret
    exact ⟨rfl, unhide HB6⟩
end Go.Proofs.Ythkhaemlcmkkjai
