/- The walk of the law FnProofEach: at every code it answers true. -/
import Derived.Test.YthkhaemlcmkkjarPfL
import Derived.Test.YthkhaemlcmkkjarLdMore
import Derived.Test.YthkhaemlcmkkjarSatL
import Derived.Test.YthkhaemlcmkkjarSatC
import Derived.Test.YthkhaemlcmkkjarSatR
import Derived.Deep.QuietTactic
import Derived.BigQuiet
namespace Go.Proofs.Ythkhaemlcmkkjar
set_option linter.unusedVariables false
set_option linter.unusedSimpArgs false
open Go.RowKit Go.Deep

theorem so_negx (m : List Bool) {x : Int} (hx : x ≠ 0) : soB m (-x) = !soB m x := by
  unfold soB
  by_cases h : 0 < x
  · rw [if_pos h, if_neg (by omega), show (- -x - 1).toNat = (x - 1).toNat by omega]
  · rw [if_neg h, if_pos (by omega), Bool.not_not]
theorem each_none {vars : Int} {cs ps : List (List Int)} (h : proofZ vars cs ps = true) (h12 : vars ≤ 12) (hl : cs.length ≤ 26) {i : Nat} (hi : i < ps.length) : (satZ vars (cs ++ (ps.getD i []).map fun x => [-x]) 3000).1 = 2 := by
  obtain ⟨hok, _, _, _, hlit, href⟩ := proof_parts h
  have hci := hlit _ (getD_mem (d := ([] : List Int)) hi)
  have hnz := lits_nz hci
  generalize hc : ps.getD i [] = c at hci hnz
  have hcm : c ∈ ps := by rw [← hc]; exact getD_mem (d := ([] : List Int)) hi
  have hok' : cnfB vars (cs ++ c.map fun x => [-x]) = true := by
    have h1 := hok
    simp only [cnfB, litsB, Bool.and_eq_true, decide_eq_true_eq, List.all_eq_true] at h1 hci ⊢
    refine ⟨h1.1, by simp; omega, fun d hd => ?_⟩
    rcases List.mem_append.1 hd with hd | hd
    · exact h1.2.2 d hd
    · obtain ⟨x, hx, rfl⟩ := List.mem_map.1 hd
      refine ⟨by simp, fun y hy => ?_⟩
      rw [List.mem_singleton] at hy
      subst hy
      obtain ⟨q1, q2, q3⟩ := lit_parts (hci.2 x hx)
      simp [litB, inB]
      omega
  refine sat_none hok' h12 (by omega) (Int.le_refl _) fun m => ?_
  cases e : cnfTrueB vars (cs ++ c.map fun x => [-x]) m with
  | false => rfl
  | true =>
    obtain ⟨_, _, hh⟩ := true_parts e
    have h1 := ref_model (m := m) (cnf_nz hok) (fun d hd => hh d (List.mem_append_left _ hd)) ps (fun d hd => lits_nz (hlit d hd)) href c hcm
    unfold holdsB at h1
    rw [List.any_eq_true] at h1
    obtain ⟨x, hx, hs⟩ := h1
    have h2 := hh [-x] (List.mem_append_right _ (List.mem_map.2 ⟨x, hx, rfl⟩))
    simp [holdsB] at h2
    rw [so_negx m (hnz x hx), hs] at h2
    cases h2
/-- Numbers that lie elsewhere than in a variable. -/
def SetN (xb : Nat) (x : World) (a : Option Addr) (l : List Int) : Prop := l.length ≤ 1048576 ∧ (l = [] ∨ ∃ b o, a = some ⟨b, o, none⟩ ∧ b ≠ xb ∧ b < x.heap.size ∧ ∀ i, i < l.length → x.cell? ⟨b, o + i, none⟩ = some (.int .i64 (l.getD i 0)))
theorem SetN.set {xb : Nat} {x : World} {a : Option Addr} {l : List Int} (h : SetN xb x a l) : SetAt x a l := ⟨h.1, h.2.imp id fun ⟨b, o, e, _, h1, h2⟩ => ⟨b, o, e, h1, h2⟩⟩
theorem SetN.on {xb : Nat} {x y : World} {a : Option Addr} {l : List Int} (h : SetN xb x a l) (hb : Below x.heap.size x y) : SetN xb y a l :=
  ⟨h.1, h.2.imp id fun ⟨b, o, e, h0, h1, h2⟩ => ⟨b, o, e, h0, Nat.lt_of_lt_of_le h1 hb.size, fun i hi => (hb.cell (p := ⟨b, o + i, none⟩) h1).trans (h2 i hi)⟩⟩
theorem SetN.put {xb : Nat} {x y : World} {a : Option Addr} {l : List Int} (h : SetN xb x a l) (hs : y.heap.size = x.heap.size) (ho : ∀ g, g ≠ xb → y.heap[g]? = x.heap[g]?) : SetN xb y a l :=
  ⟨h.1, h.2.imp id fun ⟨b, o, e, h0, h1, h2⟩ => ⟨b, o, e, h0, by omega, fun i hi => (World.cell?_of_block (w := x) (a := ⟨b, o + i, none⟩) (ho b h0)).trans (h2 i hi)⟩⟩
/-- The clauses so far, and their variable. -/
structure XT (xb : Nat) (W : World) (vars : Int) (xa : Option Addr) (xs : List (List Int)) (xc : Nat) (x : World) : Prop where
  box : x.heap[xb]? = some (cnfCells vars (.slice xa xs.length xc))
  nn : xa = none → xc = 0
  rows : RowsR (SetN xb x) x xa xs
  low : Below W.heap.size W x
theorem XT.cls {xb : Nat} {W x : World} {vars : Int} {xa : Option Addr} {xs : List (List Int)} {xc : Nat} (h : XT xb W vars xa xs xc x) : ClsAt x xa xs := by
  obtain ⟨h1, h2⟩ := h.rows
  refine ⟨h1, h2.imp id fun ⟨b, o, e, h3, h4⟩ => ⟨b, o, e, h3, fun i hi => ?_⟩⟩
  obtain ⟨a', c, h5, h6⟩ := h4 i hi
  exact ⟨a', c, h5, h6.set⟩
theorem XT.on {xb : Nat} {W x y : World} {vars : Int} {xa : Option Addr} {xs : List (List Int)} {xc : Nat} (h : XT xb W vars xa xs xc x) (hb : Below x.heap.size x y) : XT xb W vars xa xs xc y := by
  refine ⟨(hb.block xb (Array.getElem?_eq_some_iff.1 h.box).1).trans h.box, h.nn, ?_, h.low.trans (hb.mono h.low.size)⟩
  obtain ⟨h1, h2⟩ := h.rows
  refine ⟨h1, h2.imp id fun ⟨b, o, e, h3, h4⟩ => ⟨b, o, e, Nat.lt_of_lt_of_le h3 hb.size, fun i hi => ?_⟩⟩
  obtain ⟨a', c, h5, h6⟩ := h4 i hi
  exact ⟨a', c, (hb.cell (p := ⟨b, o + i, none⟩) h3).trans h5, h6.on hb⟩
/-- One more, stored. -/
theorem XT.more {xb : Nat} {W x y : World} {vars : Int} {xa : Option Addr} {xs cs : List (List Int)} {xc g c' : Nat} (h : XT xb W vars xa xs xc x) (hb : Below x.heap.size x y) (hW : W.heap.size ≤ xb) (hg : x.heap.size ≤ g) (hgl : g < y.heap.size) (hl : cs.length ≤ 1048576)
    (hr : ∀ i, i < cs.length → ∃ a' c, y.cell? ⟨g, 0 + i, none⟩ = some (.slice a' (cs.getD i []).length c) ∧ SetN xb y a' (cs.getD i [])) : XT xb W vars (some ⟨g, 0, none⟩) cs c' ((y.setCell ⟨xb, 0, none⟩ (.int .i64 vars)).setCell ⟨xb, 1, none⟩ (.slice (some ⟨g, 0, none⟩) cs.length c')) := by
  have hxl := (Array.getElem?_eq_some_iff.1 h.box).1
  have hy := (h.on hb).box
  have e1 := blk_set hy 0 (.int .i64 vars)
  have ho : ∀ b, b ≠ xb → ((y.setCell ⟨xb, 0, none⟩ (.int .i64 vars)).setCell ⟨xb, 1, none⟩ (.slice (some ⟨g, 0, none⟩) cs.length c')).heap[b]? = y.heap[b]? := fun b hb => (blk_setCell_other _ _ _ _ hb).trans (blk_setCell_other _ _ _ _ hb)
  have hz : ((y.setCell ⟨xb, 0, none⟩ (.int .i64 vars)).setCell ⟨xb, 1, none⟩ (.slice (some ⟨g, 0, none⟩) cs.length c')).heap.size = y.heap.size := by rw [nblk_setCell, nblk_setCell]
  refine ⟨by rw [blk_set e1 1 _]; rfl, (fun e => by cases e), ⟨hl, .inr ⟨g, 0, rfl, by omega, fun i hi => ?_⟩⟩, Below.setCell (Below.setCell (h.on hb).low hW _) hW _⟩
  obtain ⟨a', c, h5, h6⟩ := hr i hi
  exact ⟨a', c, (World.cell?_of_block (w := y) (a := ⟨g, 0 + i, none⟩) (ho g (by omega))).trans h5, h6.put hz ho⟩
/-- One more clause is laid. -/
structure CMt (xb : Nat) (W : World) (vars z : Int) (cs : List (List Int)) (b : Bool) (us : List Value) (x : World) : Prop where
  below : Below W.heap.size W x
  row : ∀ y, us = [y] → ∃ g, y = .slice (some ⟨g, 0, none⟩) 1 1 ∧ SetN xb x (some ⟨g, 0, none⟩) [z]
  val : ∀ y v, us = [y, v] → ∃ g c', v = .agg #[.int .i64 vars, .slice (some ⟨g, 0, none⟩) cs.length c'] ∧ W.heap.size ≤ g ∧ g < x.heap.size ∧ ∀ i, i < cs.length → ∃ a' c, x.cell? ⟨g, 0 + i, none⟩ = some (.slice a' (cs.getD i []).length c) ∧ SetN xb x a' (cs.getD i [])
theorem CMt.on {xb : Nat} {W x y : World} {vars z : Int} {cs : List (List Int)} {b b' : Bool} {us : List Value} (h : CMt xb W vars z cs b us x) (hb : Below x.heap.size x y) : CMt xb W vars z cs b' us y :=
  ⟨h.below.trans (hb.mono h.below.size), fun u e => by
    obtain ⟨g, e1, h1⟩ := h.row u e
    exact ⟨g, e1, h1.on hb⟩, fun u v e => by
    obtain ⟨g, c', e1, h1, h2, h3⟩ := h.val u v e
    refine ⟨g, c', e1, h1, Nat.lt_of_lt_of_le h2 hb.size, fun i hi => ?_⟩
    obtain ⟨a', c, h4, h5⟩ := h3 i hi
    exact ⟨a', c, (hb.cell (p := ⟨g, 0 + i, none⟩) h2).trans h4, h5.on hb⟩⟩

set_option maxRecDepth 100000 in
set_option maxHeartbeats 2000000 in
theorem proofeach_law (a : Option Addr) (n c : Nat) (w : World) (h : CodeAt w.heap.size w a n) (hc : n ≤ c) (hc2 : c ≤ maxLen) :
    Calls Try.prog 6 #[.slice a n c] w fun e w' => e = .returned (.bool true) ∧ Below w.heap.size w w' := by
  have hmx := hc2
  unfold maxLen at hmx
  by_cases hbig : 1048576 < n
  · have hb' : (1048576 : Int) < (n : Int) := by omega
    go_enter Try.func6, Try.ntmps6
    go_wp2_with fail
    go_ret
    exact ⟨rfl, Below.refl _ _⟩
  have hb' : ¬ (1048576 : Int) < (n : Int) := by omega
  go_enter Try.func6, Try.ntmps6
  go_wp2_with fail
  refine (DrawSatProof_V a n c w h (by omega) hc hc2).mono ?_
  rintro e w1 ⟨⟨vars, va, vc, ls, pa, ps, pc, rfl, ⟨hcls, hvn, hvc1, hvc2, hll⟩, hps, hpc1, hpc2, hpn, hpl⟩, b1⟩
  have hvm := hvc2
  unfold maxLen at hvm
  have hpm := hpc2
  unfold maxLen at hpm
  have HC1 := hide hcls
  have HP1 := hide hps
  have HB1 := hide b1
  clear hcls hps b1 h
  go_upto_region 4 with fail
  obtain ⟨w2, hw2⟩ : ∃ w2, w2 = w1.alloc (.cells #[.int .i64 vars, .slice va ls.length vc] 41) := ⟨_, rfl⟩
  rw [← hw2]
  have b2 : Below w1.heap.size w1 w2 := by rw [hw2]; exact (Below.refl _ _).alloc (Nat.le_refl _) _
  have x0 : w2.cell? ⟨w1.heap.size, 0, none⟩ = some (.int .i64 vars) := by rw [hw2]; simp
  have x1 : w2.cell? ⟨w1.heap.size, 1, none⟩ = some (.slice va ls.length vc) := by rw [hw2]; simp
  have hlt2 : w1.heap.size < w2.heap.size := by rw [hw2]; simp
  have HC2 := hide ((unhide HC1).on b2)
  have HP2 := hide ((unhide HP1).on b2)
  have HB2 := hide ((unhide HB1).trans (b2.mono (unhide HB1).size))
  clear hw2 b2 HC1 HP1 HB1
  have HI := hide (fun x (hx : Below w2.heap.size w2 x) => implSatProof_any vars va ls vc pa ps pc hpc1 x ((unhide HC2).on hx) ((unhide HP2).on hx))
  have HS := hide (fun x (hx : Below w2.heap.size w2 x) => specSatProof_any vars va ls vc hvn pa ps pc x ((unhide HC2).on hx) ((unhide HP2).on hx))
  obtain ⟨z, hz⟩ : ∃ z, proofZ vars ls ps = z := ⟨_, rfl⟩
  rw [hz] at HI HS
  have HZ := hide hz
  have H22 := hide (Below.refl w2.heap.size w2)
  clear hz
  go_wp2_with fail
  refine (unhide HI w2 (unhide H22)).mono ?_
  rintro e w3 ⟨rfl, b3⟩
  have H23 := hide ((unhide H22).trans (b3.mono (unhide H22).size))
  clear H22
  have HC3 := hide ((unhide HC2).on b3)
  have HP3 := hide ((unhide HP2).on b3)
  have HB3 := hide ((unhide HB2).trans (b3.mono (unhide HB2).size))
  have hlt3 : w1.heap.size < w3.heap.size := Nat.lt_of_lt_of_le hlt2 b3.size
  rw [← b3.cell (p := ⟨w1.heap.size, _, none⟩) hlt2] at x0 x1
  clear HC2 HP2 HB2 b3 hlt2
  cases z with
  | false =>
    go_wp2_with fail
    refine (unhide HS w3 (unhide H23)).mono ?_
    rintro e w4 ⟨rfl, b4⟩
    have H24 := hide ((unhide H23).trans (b4.mono (unhide H23).size))
    clear H23
    have HC4 := hide ((unhide HC3).on b4)
    have HP4 := hide ((unhide HP3).on b4)
    have HB4 := hide ((unhide HB3).trans (b4.mono (unhide HB3).size))
    have hlt4 : w1.heap.size < w4.heap.size := Nat.lt_of_lt_of_le hlt3 b4.size
    rw [← b4.cell (p := ⟨w1.heap.size, _, none⟩) hlt3] at x0 x1
    clear HC3 HP3 HB3 b4 hlt3
    go_wp2_with fail
    refine (unhide HS w4 (unhide H24)).mono ?_
    rintro e w5 ⟨rfl, b5⟩
    have H25 := hide ((unhide H24).trans (b5.mono (unhide H24).size))
    clear H24
    have HC5 := hide ((unhide HC4).on b5)
    have HP5 := hide ((unhide HP4).on b5)
    have HB5 := hide ((unhide HB4).trans (b5.mono (unhide HB4).size))
    have hlt5 : w1.heap.size < w5.heap.size := Nat.lt_of_lt_of_le hlt4 b5.size
    rw [← b5.cell (p := ⟨w1.heap.size, _, none⟩) hlt4] at x0 x1
    clear HC4 HP4 HB4 b5 hlt4
    go_wp2_with fail
    go_ret
    exact ⟨rfl, unhide HB5⟩
  | true =>
    by_cases hbg : (12 : Int) < vars
    · go_wp2_with fail
      refine (unhide HS w3 (unhide H23)).mono ?_
      rintro e w4 ⟨rfl, b4⟩
      have H24 := hide ((unhide H23).trans (b4.mono (unhide H23).size))
      clear H23
      have HC4 := hide ((unhide HC3).on b4)
      have HP4 := hide ((unhide HP3).on b4)
      have HB4 := hide ((unhide HB3).trans (b4.mono (unhide HB3).size))
      have hlt4 : w1.heap.size < w4.heap.size := Nat.lt_of_lt_of_le hlt3 b4.size
      rw [← b4.cell (p := ⟨w1.heap.size, _, none⟩) hlt3] at x0 x1
      clear HC3 HP3 HB3 b4 hlt3
      go_wp2_with fail
      refine (unhide HS w4 (unhide H24)).mono ?_
      rintro e w5 ⟨rfl, b5⟩
      have H25 := hide ((unhide H24).trans (b5.mono (unhide H24).size))
      clear H24
      have HC5 := hide ((unhide HC4).on b5)
      have HP5 := hide ((unhide HP4).on b5)
      have HB5 := hide ((unhide HB4).trans (b5.mono (unhide HB4).size))
      have hlt5 : w1.heap.size < w5.heap.size := Nat.lt_of_lt_of_le hlt4 b5.size
      rw [← b5.cell (p := ⟨w1.heap.size, _, none⟩) hlt4] at x0 x1
      clear HC4 HP4 HB4 b5 hlt4
      go_wp2_with fail
      go_ret
      exact ⟨rfl, unhide HB5⟩
    · go_wp2_with fail
      refine (unhide HS w3 (unhide H23)).mono ?_
      rintro e w4 ⟨rfl, b4⟩
      have H24 := hide ((unhide H23).trans (b4.mono (unhide H23).size))
      clear H23
      have HC4 := hide ((unhide HC3).on b4)
      have HP4 := hide ((unhide HP3).on b4)
      have HB4 := hide ((unhide HB3).trans (b4.mono (unhide HB3).size))
      have hlt4 : w1.heap.size < w4.heap.size := Nat.lt_of_lt_of_le hlt3 b4.size
      rw [← b4.cell (p := ⟨w1.heap.size, _, none⟩) hlt3] at x0 x1
      clear HC3 HP3 HB3 b4 hlt3
      have HEA := hide (fun n (hn : n < ps.length) => each_none (unhide HZ) (by omega) hll hn)
      have HLT := hide (fun n (hn : n < ps.length) => (proof_parts (unhide HZ)).2.2.2.2.1 _ (getD_mem (d := ([] : List Int)) hn))
      have hv0 : 0 ≤ vars := by
        have hcb := (proof_parts (unhide HZ)).1
        simp only [cnfB, inB, Bool.and_eq_true, decide_eq_true_eq] at hcb
        exact hcb.1.1
      clear HI HS HZ H24
      go_wp2_with fail
      go_loopw [6] (fun i wr => ∃ n : Nat, n ≤ ps.length ∧ i = .int .i64 n ∧ Hid (Below w4.heap.size w4 wr)) (fun i _ => ps.length - (intOf i).toNat)
      case atStart => exact ⟨0, Nat.zero_le _, rfl, Below.refl _ _⟩
      case round =>
        rename World => wo
        obtain ⟨n, hn, rfl, HO⟩ := hrel
        have y0 := ((unhide HO).cell (p := ⟨w1.heap.size, 0, none⟩) hlt4).trans x0
        have y1 := ((unhide HO).cell (p := ⟨w1.heap.size, 1, none⟩) hlt4).trans x1
        by_cases hnp : n < ps.length
        · have j1 : (n : Int) < (ps.length : Int) := by omega
          have j0 : (0 : Int) ≤ (n : Int) := by omega
          obtain ⟨pb, po, ra, rc, rfl, c2, hrs⟩ := (unhide HP4).cellAt hnp
          have hpb : pb < w4.heap.size := block_lt_of_cell c2
          obtain ⟨rl, hrl⟩ : ∃ rl, (ps.getD n []).length = rl := ⟨_, rfl⟩
          rw [hrl] at c2
          have hlits := unhide HLT n hnp
          have hr400 : rl ≤ 400 := by
            rw [← hrl]
            simp only [litsB, Bool.and_eq_true, decide_eq_true_eq] at hlits
            exact hlits.1
          have HLI := hide (fun x (hx : x ∈ ps.getD n []) => show -12 ≤ x ∧ x ≤ 12 by
            simp only [litsB, Bool.and_eq_true, List.all_eq_true] at hlits
            obtain ⟨q1, q2, q3⟩ := lit_parts (hlits.2 x hx)
            omega)
          have hea := unhide HEA n hnp
          have HEN := hide hea
          clear hlits hea
          have bA := (Below.refl wo.heap.size wo).alloc (Nat.le_refl _) (.cells #[.int .i64 vars, .slice va ls.length vc] 41)
          have hX0 : XT wo.heap.size w4 vars va (ls ++ ((ps.getD n []).take 0).map fun x => [-x]) vc (wo.alloc (.cells #[.int .i64 vars, .slice va ls.length vc] 41)) := by
            rw [List.take_zero, List.map_nil, List.append_nil]
            refine ⟨blk_alloc_new _ _, hvn, ?_, (unhide HO).trans (bA.mono (unhide HO).size)⟩
            obtain ⟨h1, h2⟩ := ((unhide HC4).on (unhide HO))
            refine ⟨h1, h2.imp id fun ⟨b, o, e, h3, h4⟩ => ⟨b, o, e, Nat.lt_of_lt_of_le h3 bA.size, fun i hi => ?_⟩⟩
            obtain ⟨a', c, h5, h6⟩ := h4 i hi
            refine ⟨a', c, (bA.cell (p := ⟨b, o + i, none⟩) h3).trans h5, h6.1, h6.2.imp id fun ⟨b2, o2, e2, h7, h8⟩ => ⟨b2, o2, e2, by omega, Nat.lt_of_lt_of_le h7 bA.size, fun q hq => (bA.cell (p := ⟨b2, o2 + q, none⟩) h7).trans (h8 q hq)⟩⟩
          have HX0 := hide hX0
          clear hX0 bA
          go_wp2_with fail
          go_loopw [8] (fun i wr => ∃ (k : Nat) (xa : Option Addr) (xc : Nat), k ≤ rl ∧ i = .int .i64 k ∧ Hid (XT wo.heap.size w4 vars xa (ls ++ ((ps.getD n []).take k).map fun x => [-x]) xc wr)) (fun i _ => rl - (intOf i).toNat)
          case atStart => exact ⟨0, va, vc, Nat.zero_le _, rfl, HX0⟩
          case round =>
            rename World => wi
            obtain ⟨k, xa, xc, hk, rfl, HX⟩ := hrel
            clear HX0
            obtain ⟨xl, hxl⟩ : ∃ q, (ls ++ ((ps.getD n []).take k).map fun x => [-x]).length = q := ⟨_, rfl⟩
            have HXB := hide (show xl = ls.length + k by rw [← hxl, List.length_append, List.length_map, List.length_take]; omega)
            have HXL0 := hide hxl
            clear hxl
            obtain ⟨q0, q1, qf⟩ := two (unhide HX).box
            rw [unhide HXL0] at q1
            have hxq := (Array.getElem?_eq_some_iff.1 (unhide HX).box).1
            have d2 := ((unhide HX).low.cell (p := ⟨pb, po + n, none⟩) hpb).trans c2
            clear qf
            by_cases hkr : k < rl
            · have k1 : (k : Int) < (rl : Int) := by omega
              have k0 : (0 : Int) ≤ (k : Int) := by omega
              rcases hrs.2 with h0 | ⟨rb, ro, hra, hrbl, hrcell⟩
              · rw [h0] at hrl
                simp at hrl
                omega
              subst hra
              have hz0 := hrcell k (by omega)
              have hzl := unhide HLI ((ps.getD n []).getD k 0) (getD_mem (d := (0 : Int)) (by omega))
              obtain ⟨z, hz⟩ : ∃ z, (ps.getD n []).getD k 0 = z := ⟨_, rfl⟩
              rw [hz] at hz0 hzl
              have HZE := hide hz
              clear hz hrcell
              have d0 := ((unhide HX).low.cell (p := ⟨pb, po + n, none⟩) hpb).trans c2
              have d1 := ((unhide HX).low.cell (p := ⟨rb, ro + k, none⟩) hrbl).trans hz0
              have hwn : IntKind.i64.wrap (-z) = -z := by rw [IntKind.wrap_i64]; omega
              have hrb2 : rb < wi.heap.size := Nat.lt_of_lt_of_le hrbl (unhide HX).low.size
              have hpb2 : pb < wi.heap.size := Nat.lt_of_lt_of_le hpb (unhide HX).low.size
              have HLM := hide (fun x g (hx : Below wi.heap.size wi x) (hs : SetN wo.heap.size x (some ⟨g, 0, none⟩) [-z]) => ldMore_R (SetN wo.heap.size x) vars xa (ls ++ ((ps.getD n []).take k).map fun x => [-x]) xc (unhide HX).nn (some ⟨g, 0, none⟩) [-z] 1 x ((unhide HX).on hx).rows hs (by rw [unhide HXL0]; have := unhide HXB; omega))
              rw [unhide HXL0] at HLM
              obtain ⟨nx, hnx⟩ : ∃ L, (ls ++ ((ps.getD n []).take k).map fun x => [-x]) ++ [[-z]] = L := ⟨_, rfl⟩
              rw [hnx] at HLM
              have HNX := hide hnx
              clear hnx hz0
              go_upto_region 14 with fail
              refine wp_region_mix (k := 100) 11 [9, 10] [.agg #[.int .i64 vars, .slice xa xl xc], .slice (some ⟨pb, po, none⟩) ps.length pc, .int .i64 (n : Int), .pointer (some ⟨pb, po + n, none⟩), .slice (some ⟨rb, ro, none⟩) rl rc, .int .i64 (k : Int), .pointer (some ⟨rb, ro + k, none⟩), .int .i64 z, .int .i64 (-z), undef, undef] (CMt wo.heap.size wi vars (-z) nx) (by kernel_rfl) (by kernel_rfl) (by kernel_rfl) (by kernel_rfl) (by kernel_rfl) (by kernel_rfl) ⟨(Below.refl _ _).drew, (fun _ h => by cases h), (fun _ _ h => by cases h)⟩ ?_ ?_ ?_
              · intro full hfull i oo hi' hns ho x fl us hC hb
                simp [putAll, slotOf, Act.put] at hfull
                subst hfull
                have bx := hC.below
                have p0 := (bx.cell (p := ⟨wo.heap.size, 0, none⟩) hxq).trans q0
                have p1 := (bx.cell (p := ⟨wo.heap.size, 1, none⟩) hxq).trans q1
                have p2 := (bx.cell (p := ⟨pb, po + n, none⟩) hpb2).trans d0
                have p3 := (bx.cell (p := ⟨rb, ro + k, none⟩) hrb2).trans d1
                have hC0 := hC.on (b' := fl) (Below.refl _ _)
                match i with
                | 0 => simp at ho; subst ho; simp [gwp, Region.wanted, yielded]; go_simp; first | done | exact hC0 | exact ⟨rfl, hC0⟩ | (simp; exact hC0) | (refine ⟨by simp <;> omega, hC0⟩)
                | 1 => simp at ho; subst ho; simp [gwp, Region.wanted, yielded]; go_simp; first | done | exact hC0 | exact ⟨rfl, hC0⟩ | (simp; exact hC0) | (refine ⟨by simp <;> omega, hC0⟩)
                | 2 => simp at ho; subst ho; simp [gwp, Region.wanted, yielded]; go_simp; first | done | exact hC0 | exact ⟨rfl, hC0⟩ | (simp; exact hC0) | (refine ⟨by simp <;> omega, hC0⟩)
                | 3 => simp at ho; subst ho; simp [gwp, Region.wanted, yielded]; go_simp; first | done | exact hC0 | exact ⟨rfl, hC0⟩ | (simp; exact hC0) | (refine ⟨by simp <;> omega, hC0⟩)
                | 4 => simp at ho; subst ho; simp [gwp, Region.wanted, yielded]; go_simp; first | done | exact hC0 | exact ⟨rfl, hC0⟩ | (simp; exact hC0) | (refine ⟨by simp <;> omega, hC0⟩)
                | 5 => simp at ho; subst ho; simp [gwp, Region.wanted, yielded]; go_simp; first | done | exact hC0 | exact ⟨rfl, hC0⟩ | (simp; exact hC0) | (refine ⟨by simp <;> omega, hC0⟩)
                | 6 => simp at ho; subst ho; simp [gwp, Region.wanted, yielded]; go_simp; first | done | exact hC0 | exact ⟨rfl, hC0⟩ | (simp; exact hC0) | (refine ⟨by simp <;> omega, hC0⟩)
                | 7 => simp at ho; subst ho; simp [gwp, Region.wanted, yielded]; go_simp; first | done | exact hC0 | exact ⟨rfl, hC0⟩ | (simp; exact hC0) | (refine ⟨by simp <;> omega, hC0⟩)
                | 8 => simp at ho; subst ho; simp [gwp, Region.wanted, yielded]; go_simp; first | done | exact hC0 | exact ⟨rfl, hC0⟩ | (simp; exact hC0) | (refine ⟨by simp <;> omega, hC0⟩)
                | 9 => simp at hns
                | 10 => simp at hns
                | i + 11 => omega
              · intro full hfull us j hj oo ho x fl hC
                simp [putAll, slotOf, Act.put] at hfull
                subst hfull
                have bx := hC.below
                match us with
                | [] =>
                  simp at hj
                  subst hj
                  simp at ho
                  subst ho
                  have bn := (Below.refl x.heap.size x).alloc (Nat.le_refl _) (.cells #[.int .i64 (-z)] 3)
                  have hC1 : CMt wo.heap.size wi vars (-z) nx fl [.slice (some ⟨x.heap.size, 0, none⟩) 1 1] (x.alloc (.cells #[.int .i64 (-z)] 3)) := ⟨bx.trans (bn.mono bx.size), fun y h => by
                    cases h
                    refine ⟨x.heap.size, rfl, by simp, .inr ⟨x.heap.size, 0, rfl, by have := bx.size; omega, by simp, fun i hi => ?_⟩⟩
                    have : i = 0 := by simp at hi; omega
                    subst this
                    simp, (fun _ _ h => by cases h)⟩
                  have HC1 := hide hC1
                  clear hC hC1 bn
                  simp [gwp, Region.wanted, yielded, putP, slotOf, Act.put]
                  go_simp
                  first | done | exact unhide HC1 | exact ⟨_, rfl, unhide HC1⟩ | (simp; exact unhide HC1)
                | [y] =>
                  simp at hj
                  subst hj
                  simp at ho
                  subst ho
                  obtain ⟨g, hy, hs⟩ := hC.row y rfl
                  subst hy
                  have HCM := hide (unhide HLM x g bx hs)
                  clear hC hs
                  simp only [List.length_singleton] at HCM
                  simp [gwp, Region.wanted, yielded, putP, slotOf, Act.put]
                  go_simp
                  refine (unhide HCM).mono ?_
                  rintro e wy ⟨⟨g2, c', rfl, h1, h2, h3⟩, by1⟩
                  have hC1 : CMt wo.heap.size wi vars (-z) nx fl [.slice (some ⟨g, 0, none⟩) 1 1, .agg #[.int .i64 vars, .slice (some ⟨g2, 0, none⟩) nx.length c']] wy := ⟨bx.trans (by1.mono bx.size), (fun _ h => by cases h), fun y v h => by
                    cases h
                    refine ⟨g2, c', rfl, Nat.le_trans bx.size h1, h2, fun i hi => ?_⟩
                    obtain ⟨a', c, h4, h5⟩ := h3 i hi
                    exact ⟨a', c, h4, h5.on by1⟩⟩
                  go_simp
                  first | done | exact hC1 | exact ⟨_, rfl, hC1⟩ | (simp; exact hC1)
                | _ :: _ :: _ => simp at hj
              intro full hfull us x hus hC
              simp [putAll, slotOf, Act.put] at hfull
              subst hfull
              match us, hus with
              | [y, v], _ =>
              obtain ⟨g, c', hv, h1, h2, h3⟩ := hC.val y v rfl
              subst hv
              have bx := hC.below
              have htk : nx = ls ++ ((ps.getD n []).take (k + 1)).map fun x => [-x] := by
                rw [← unhide HNX, List.append_assoc, List.take_add_one, List.map_append, ← unhide HZE]
                congr 2
                have hkl : k < (ps.getD n []).length := by omega
                generalize ps.getD n [] = c at hkl
                simp [List.getD, hkl]
              rw [htk] at h3
              obtain ⟨xl2, hxl2⟩ : ∃ n, n = nx.length := ⟨_, rfl⟩
              have hxl3 : xl2 = (ls ++ ((ps.getD n []).take (k + 1)).map fun x => [-x]).length := by rw [hxl2, htk]
              rw [← hxl2]
              have hXN := (unhide HX).more (cs := ls ++ ((ps.getD n []).take (k + 1)).map fun x => [-x]) (c' := c') bx (unhide HO).size h1 h2 (by rw [List.length_append, List.length_map, List.length_take]; omega) h3
              rw [← hxl3] at hXN
              obtain ⟨p0, p1, pf⟩ := two ((unhide HX).on bx).box
              have pf0 := pf 0
              have pf1 := pf 1
              have HXN := hide hXN
              clear hC hXN pf h3 hxl2 hxl3
              simp [putP, slotOf, Act.put]
              go_wp2_with fail
              go_roundw
              case rel => exact ⟨k + 1, some ⟨g, 0, none⟩, c', by omega, by go_num, HXN⟩
              case measure => simp [intOf]; omega
            · have k1 : ¬ (k : Int) < (rl : Int) := by omega
              have hkk : (ps.getD n []).take k = ps.getD n [] := List.take_of_length_le (by omega)
              obtain ⟨kz, mz, pz, hsz⟩ : ∃ kz mz pz, satZ vars (ls ++ (ps.getD n []).map fun x => [-x]) 3000 = (kz, mz, pz) := ⟨_, _, _, rfl⟩
              have hkz : kz = 2 := by have := unhide HEN; rw [hsz] at this; exact this
              subst hkz
              have HT := hide (implSatFind_any vars xa (ls ++ ((ps.getD n []).take k).map fun x => [-x]) xc 3000 wi (unhide HX).cls)
              rw [unhide HXL0, hkk, hsz] at HT
              have HLW := hide (unhide HX).low
              clear hkk hsz HX
              go_wp2_with fail
              refine (unhide HT).mono ?_
              rintro e w9 ⟨⟨mv, pv, vs9, rfl, _, _⟩, b9⟩
              have HF := hide ((unhide HLW).trans (b9.mono (unhide HLW).size))
              clear b9 HT HLW
              go_wp2_with fail
              go_roundw
              case rel => exact ⟨n + 1, by omega, by go_num, HF⟩
              case measure => simp [intOf]; omega
        · have j1 : ¬ (n : Int) < (ps.length : Int) := by omega
          go_wp2_with fail
          go_ret
          exact ⟨rfl, (unhide HB4).trans ((unhide HO).mono (unhide HB4).size)⟩
end Go.Proofs.Ythkhaemlcmkkjar
