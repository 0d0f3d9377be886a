/- The walk of the law FnProofMore: at every two codes it answers true. -/
import Derived.Test.YthkhaemlcmkkjaiPfL
import Derived.Test.YthkhaemlcmkkjaiLdMore
import Derived.Test.YthkhaemlcmkkjaiSatL
import Derived.Deep.QuietTactic
import Derived.BigQuiet
namespace Go.Proofs.Ythkhaemlcmkkjai
set_option linter.unusedVariables false
set_option linter.unusedSimpArgs false
open Go.RowKit Go.Deep

theorem lits_wide {d v : Int} (h : d ≤ v) {c : List Int} (hc : litsB d c = true) : litsB v c = true := by
  simp only [litsB, Bool.and_eq_true, decide_eq_true_eq, List.all_eq_true] at hc ⊢
  refine ⟨hc.1, fun x hx => ?_⟩
  obtain ⟨h1, h2, h3⟩ := lit_parts (hc.2 x hx)
  simp [litB, inB]
  omega
theorem cnf_more {d v : Int} {ls ds : List (List Int)} (h : cnfB v ls = true) (hd : cnfB d ds = true) (hv : d ≤ v) (h1 : ls.length ≤ 26) (h2 : ds.length ≤ 26) (k : Nat) : cnfB v (ls ++ ds.take k) = true := by
  simp only [cnfB, Bool.and_eq_true, decide_eq_true_eq, List.all_eq_true] at h hd ⊢
  refine ⟨h.1, by simp; omega, fun c hc => ?_⟩
  rcases List.mem_append.1 hc with hc | hc
  · exact h.2.2 c hc
  · exact lits_wide hv (hd.2.2 c (List.mem_of_mem_take hc))
/-- The clauses so far, and their variable. -/
structure XS (W : World) (xb : Nat) (vars : Int) (xa : Option Addr) (xs : List (List Int)) (xc : Nat) (x : World) : Prop where
  box : x.heap[xb]? = some (cnfCells vars (.slice xa xs.length xc))
  nn : xa = none → xc = 0
  rows : RowsR (SetAt W) x xa xs
  apart : ∀ b o, xa = some ⟨b, o, none⟩ → xs ≠ [] → b ≠ xb
  low : Below W.heap.size W x
theorem XS.cls {W x : World} {xb : Nat} {vars : Int} {xa : Option Addr} {xs : List (List Int)} {xc : Nat} (h : XS W xb vars xa xs xc x) : ClsAt x xa xs := by
  obtain ⟨h1, h2⟩ := h.rows
  refine ⟨h1, h2.imp id fun ⟨b, o, e, h3, h4⟩ => ⟨b, o, e, h3, fun i hi => ?_⟩⟩
  obtain ⟨a', c, h5, h6⟩ := h4 i hi
  exact ⟨a', c, h5, h6.on h.low⟩
theorem XS.on {W x y : World} {xb : Nat} {vars : Int} {xa : Option Addr} {xs : List (List Int)} {xc : Nat} (h : XS W xb vars xa xs xc x) (hb : Below x.heap.size x y) : XS W xb vars xa xs xc y := by
  refine ⟨(hb.block xb (Array.getElem?_eq_some_iff.1 h.box).1).trans h.box, h.nn, ?_, h.apart, h.low.trans (hb.mono h.low.size)⟩
  obtain ⟨h1, h2⟩ := h.rows
  refine ⟨h1, h2.imp id fun ⟨b, o, e, h3, h4⟩ => ⟨b, o, e, Nat.lt_of_lt_of_le h3 hb.size, fun i hi => ?_⟩⟩
  obtain ⟨a', c, h5, h6⟩ := h4 i hi
  exact ⟨a', c, (hb.cell (p := ⟨b, o + i, none⟩) h3).trans h5, h6⟩
/-- One more, stored. -/
theorem XS.more {W x y : World} {xb : Nat} {vars : Int} {xa : Option Addr} {xs cs : List (List Int)} {xc g c' : Nat} (h : XS W xb vars xa xs xc x) (hb : Below x.heap.size x y) (hW : W.heap.size ≤ xb) (hg : x.heap.size ≤ g) (hgl : g < y.heap.size) (hl : cs.length ≤ 1048576)
    (hr : ∀ i, i < cs.length → ∃ a' c, y.cell? ⟨g, 0 + i, none⟩ = some (.slice a' (cs.getD i []).length c) ∧ SetAt W a' (cs.getD i [])) : XS W xb vars (some ⟨g, 0, none⟩) cs c' ((y.setCell ⟨xb, 0, none⟩ (.int .i64 vars)).setCell ⟨xb, 1, none⟩ (.slice (some ⟨g, 0, none⟩) cs.length c')) := by
  have hxl := (Array.getElem?_eq_some_iff.1 h.box).1
  have hy := (h.on hb).box
  have e1 := blk_set hy 0 (.int .i64 vars)
  refine ⟨by rw [blk_set e1 1 _]; rfl, (fun e => by cases e), ⟨hl, .inr ⟨g, 0, rfl, by rw [nblk_setCell, nblk_setCell]; exact hgl, fun i hi => ?_⟩⟩, fun b o e _ => ?_, Below.setCell (Below.setCell (h.on hb).low hW _) hW _⟩
  · obtain ⟨a', c, h5, h6⟩ := hr i hi
    refine ⟨a', c, ?_, h6⟩
    rw [World.cell?_of_block (w := y) (a := ⟨g, 0 + i, none⟩) ((blk_setCell_other _ _ _ _ (by show g ≠ xb; omega)).trans (blk_setCell_other _ _ _ _ (by show g ≠ xb; omega)))]
    exact h5
  · simp only [Option.some.injEq, Addr.mk.injEq] at e
    omega
/-- One more clause is laid. -/
structure CMo (W0 W : World) (vars : Int) (cs : List (List Int)) (b : Bool) (us : List Value) (x : World) : Prop where
  below : Below W.heap.size W x
  val : ∀ v, us = [v] → ∃ g c', v = .agg #[.int .i64 vars, .slice (some ⟨g, 0, none⟩) cs.length c'] ∧ W.heap.size ≤ g ∧ g < x.heap.size ∧ ∀ i, i < cs.length → ∃ a' c, x.cell? ⟨g, 0 + i, none⟩ = some (.slice a' (cs.getD i []).length c) ∧ SetAt W0 a' (cs.getD i [])
theorem CMo.on {W0 W x y : World} {vars : Int} {cs : List (List Int)} {b b' : Bool} {us : List Value} (h : CMo W0 W vars cs b us x) (hb : Below x.heap.size x y) : CMo W0 W vars cs b' us y :=
  ⟨h.below.trans (hb.mono h.below.size), fun v e => by
    obtain ⟨g, c', e1, h1, h2, h3⟩ := h.val v e
    refine ⟨g, c', e1, h1, Nat.lt_of_lt_of_le h2 hb.size, fun i hi => ?_⟩
    obtain ⟨a', c, h4, h5⟩ := h3 i hi
    exact ⟨a', c, (hb.cell (p := ⟨g, 0 + i, none⟩) h2).trans h4, h5⟩⟩

set_option maxRecDepth 100000 in
set_option maxHeartbeats 2000000 in
theorem proofmore_law (a : Option Addr) (n c : Nat) (a2 : Option Addr) (n2 c2 : Nat) (w : World) (h : CodeAt w.heap.size w a n) (hc : n ≤ c) (hc2 : c ≤ maxLen) (h2 : CodeAt w.heap.size w a2 n2) (hd : n2 ≤ c2) (hd2 : c2 ≤ maxLen) :
    Calls Try.prog 6 #[.slice a n c, .slice a2 n2 c2] w fun e w' => e = .returned (.bool true) ∧ Below w.heap.size w w' := by
  have hmx := hc2
  unfold maxLen at hmx
  have hmd := hd2
  unfold maxLen at hmd
  by_cases hbig : 1048576 < n
  · have hb' : (1048576 : Int) < (n : Int) := by omega
    go_enter Try.func6, Try.ntmps6
    go_wp2_with fail
    go_ret
    exact ⟨rfl, Below.refl _ _⟩
  have hb' : ¬ (1048576 : Int) < (n : Int) := by omega
  by_cases hbig2 : 1048576 < n2
  · have hb2' : (1048576 : Int) < (n2 : Int) := by omega
    go_enter Try.func6, Try.ntmps6
    go_wp2_with fail
    go_ret
    exact ⟨rfl, Below.refl _ _⟩
  have hb2' : ¬ (1048576 : Int) < (n2 : Int) := by omega
  have HCD := hide h2
  clear h2
  go_enter Try.func6, Try.ntmps6
  go_wp2_with fail
  refine (DrawSatProof_V a n c w h (by omega) hc hc2).mono ?_
  rintro e w1 ⟨⟨vars, va, vc, ls, pa, ps, pc, rfl, ⟨hcls, hvn, hvc1, hvc2, hll⟩, hps, hpc1, hpc2, hpn, hpl⟩, b1⟩
  have hvm := hvc2
  unfold maxLen at hvm
  have hpm := hpc2
  unfold maxLen at hpm
  have HC1 := hide hcls
  have HP1 := hide hps
  have HB1 := hide b1
  clear hcls hps b1
  go_upto_region 4 with fail
  obtain ⟨w2, hw2⟩ : ∃ w2, w2 = w1.alloc (.cells #[.int .i64 vars, .slice va ls.length vc] 25) := ⟨_, rfl⟩
  rw [← hw2]
  have b2 : Below w1.heap.size w1 w2 := by rw [hw2]; exact (Below.refl _ _).alloc (Nat.le_refl _) _
  have x0 : w2.cell? ⟨w1.heap.size, 0, none⟩ = some (.int .i64 vars) := by rw [hw2]; simp
  have x1 : w2.cell? ⟨w1.heap.size, 1, none⟩ = some (.slice va ls.length vc) := by rw [hw2]; simp
  have hlt2 : w1.heap.size < w2.heap.size := by rw [hw2]; simp
  have HC2 := hide ((unhide HC1).on b2)
  have HP2 := hide ((unhide HP1).on b2)
  have HB2 := hide ((unhide HB1).trans (b2.mono (unhide HB1).size))
  clear hw2 b2 HC1 HP1 HB1
  have HI := hide (fun x (hx : Below w2.heap.size w2 x) => implSatProof_any vars va ls vc pa ps pc hpc1 x ((unhide HC2).on hx) ((unhide HP2).on hx))
  have HS := hide (fun x (hx : Below w2.heap.size w2 x) => specSatProof_any vars va ls vc hvn pa ps pc x ((unhide HC2).on hx) ((unhide HP2).on hx))
  obtain ⟨z, hz⟩ : ∃ z, proofZ vars ls ps = z := ⟨_, rfl⟩
  rw [hz] at HI HS
  have HZ := hide hz
  have H22 := hide (Below.refl w2.heap.size w2)
  clear hz
  go_wp2_with fail
  refine (unhide HI w2 (unhide H22)).mono ?_
  rintro e w3 ⟨rfl, b3⟩
  have H23 := hide ((unhide H22).trans (b3.mono (unhide H22).size))
  clear H22
  have HC3 := hide ((unhide HC2).on b3)
  have HP3 := hide ((unhide HP2).on b3)
  have HB3 := hide ((unhide HB2).trans (b3.mono (unhide HB2).size))
  have hlt3 : w1.heap.size < w3.heap.size := Nat.lt_of_lt_of_le hlt2 b3.size
  rw [← b3.cell (p := ⟨w1.heap.size, _, none⟩) hlt2] at x0 x1
  clear HC2 HP2 HB2 b3 hlt2
  cases z with
  | false =>
    go_wp2_with fail
    refine (unhide HS w3 (unhide H23)).mono ?_
    rintro e w4 ⟨rfl, b4⟩
    have H24 := hide ((unhide H23).trans (b4.mono (unhide H23).size))
    clear H23
    have HC4 := hide ((unhide HC3).on b4)
    have HP4 := hide ((unhide HP3).on b4)
    have HB4 := hide ((unhide HB3).trans (b4.mono (unhide HB3).size))
    have hlt4 : w1.heap.size < w4.heap.size := Nat.lt_of_lt_of_le hlt3 b4.size
    rw [← b4.cell (p := ⟨w1.heap.size, _, none⟩) hlt3] at x0 x1
    clear HC3 HP3 HB3 b4 hlt3
    go_wp2_with fail
    refine (unhide HS w4 (unhide H24)).mono ?_
    rintro e w5 ⟨rfl, b5⟩
    have H25 := hide ((unhide H24).trans (b5.mono (unhide H24).size))
    clear H24
    have HC5 := hide ((unhide HC4).on b5)
    have HP5 := hide ((unhide HP4).on b5)
    have HB5 := hide ((unhide HB4).trans (b5.mono (unhide HB4).size))
    have hlt5 : w1.heap.size < w5.heap.size := Nat.lt_of_lt_of_le hlt4 b5.size
    rw [← b5.cell (p := ⟨w1.heap.size, _, none⟩) hlt4] at x0 x1
    clear HC4 HP4 HB4 b5 hlt4
    go_wp2_with fail
    go_ret
    exact ⟨rfl, unhide HB5⟩
  | true =>
    by_cases hbg : (6000 : Int) ≤ (ls.length : Int)
    · omega
    · go_wp2_with fail
      refine (unhide HS w3 (unhide H23)).mono ?_
      rintro e w4 ⟨rfl, b4⟩
      have H24 := hide ((unhide H23).trans (b4.mono (unhide H23).size))
      clear H23
      have HC4 := hide ((unhide HC3).on b4)
      have HP4 := hide ((unhide HP3).on b4)
      have HB4 := hide ((unhide HB3).trans (b4.mono (unhide HB3).size))
      have hlt4 : w1.heap.size < w4.heap.size := Nat.lt_of_lt_of_le hlt3 b4.size
      rw [← b4.cell (p := ⟨w1.heap.size, _, none⟩) hlt3] at x0 x1
      clear HC3 HP3 HB3 b4 hlt3
      have hok := (proof_parts (unhide HZ)).1
      have HOK := hide hok
      clear HI HS H24 hok
      go_wp2_with fail
      refine (DrawSatFind_V a2 n2 c2 w4 ((unhide HCD).below (unhide HB4) (Nat.le_refl _)) (by omega) hd hd2).mono ?_
      rintro e w5 ⟨⟨dv, dV, ds, dvs, most, rfl, hL5, hdl, hdsh, _, _⟩, b5⟩
      obtain ⟨da, dc, hdV, hdcls⟩ := hL5.cls (by omega) hdsh
      subst hdV
      have HD5 := hide hdcls
      clear hL5 hdcls hdsh
      have HC5 := hide ((unhide HC4).on b5)
      have HP5 := hide ((unhide HP4).on b5)
      have HB5 := hide ((unhide HB4).trans (b5.mono (unhide HB4).size))
      have hlt5 : w1.heap.size < w5.heap.size := Nat.lt_of_lt_of_le hlt4 b5.size
      rw [← b5.cell (p := ⟨w1.heap.size, _, none⟩) hlt4] at x0 x1
      clear HC4 HP4 HB4 b5 hlt4
      obtain ⟨w7, hw7⟩ : ∃ w7, w7 = (w5.alloc (.cells #[.int .i64 dv, .slice da ds.length dc] 25)).alloc (.cells #[.int .i64 vars, .slice va ls.length vc] 25) := ⟨_, rfl⟩
      have z7 : w7.heap.size = w5.heap.size + 2 := by rw [hw7]; simp
      have s1 : (w5.alloc (.cells #[.int .i64 dv, .slice da ds.length dc] 25)).heap.size = w5.heap.size + 1 := by simp
      have b7 : Below w5.heap.size w5 w7 := by rw [hw7]; exact ((Below.refl _ _).alloc (Nat.le_refl _) _).alloc (by omega) _
      have hd7 : w7.heap[w5.heap.size]? = some (cnfCells dv (.slice da ds.length dc)) := by rw [hw7, blk_alloc_lt _ _ _ (by omega)]; exact blk_alloc_new _ _
      have hx7 : w7.heap[w5.heap.size + 1]? = some (cnfCells vars (.slice va ls.length vc)) := by rw [hw7, ← s1]; exact blk_alloc_new _ _
      have hX7 : XS w5 (w5.heap.size + 1) vars va (ls ++ ds.take 0) vc w7 := by
        rw [List.take_zero, List.append_nil]
        refine ⟨hx7, hvn, ?_, ?_, b7⟩
        · obtain ⟨h1, h2⟩ := unhide HC5
          refine ⟨h1, h2.imp id fun ⟨b, o, e, h3, h4⟩ => ⟨b, o, e, by omega, fun i hi => ?_⟩⟩
          obtain ⟨a', c, h5, h6⟩ := h4 i hi
          exact ⟨a', c, (b7.cell (p := ⟨b, o + i, none⟩) h3).trans h5, h6⟩
        · intro b o e hne
          rcases (unhide HC5).2 with h0 | ⟨b', o', e', h3, _⟩
          · exact absurd h0 hne
          · rw [e] at e'
            simp only [Option.some.injEq, Addr.mk.injEq] at e'
            omega
      have HX7 := hide hX7
      have HD7 := hide hd7
      obtain ⟨y0, y1, yf⟩ := two hd7
      obtain ⟨okd, hokd⟩ : ∃ okd, okd = cnfB dv ds := ⟨_, rfl⟩
      have HOKD0 := hide hokd
      clear hX7 hd7 hx7 b7 s1 yf hokd
      go_upto_region 8 with fail
      go_upto_region 9 with fail
      rw [← hw7]
      clear hw7
      go_wp2_with fail
      go_loopw [11] (fun i wr => ∃ (k : Nat) (xa : Option Addr) (xc : Nat), k ≤ ds.length ∧ i = .int .i64 k ∧ Hid (XS w5 (w5.heap.size + 1) vars xa (ls ++ ds.take k) xc wr) ∧ wr.heap[w5.heap.size]? = some (cnfCells dv (.slice da ds.length dc)) ∧ Hid (0 < k → cnfB dv ds = true ∧ dv ≤ vars)) (fun i _ => ds.length - (intOf i).toNat)
      case atStart => exact ⟨0, va, vc, Nat.zero_le _, rfl, HX7, unhide HD7, fun h => by omega⟩
      case round =>
        rename World => wo
        obtain ⟨k, xa, xc, hk, rfl, HX, hd8, HOKK⟩ := hrel
        clear HX7 HD7 y0 y1
        have HLO := hide (unhide HX).low
        obtain ⟨xl, hxl⟩ : ∃ n, (ls ++ ds.take k).length = n := ⟨_, rfl⟩
        have HXB := hide (show xl = ls.length + k by rw [← hxl]; simp; omega)
        have HXL0 := hide hxl
        clear hxl
        have hlt5o : w1.heap.size < wo.heap.size := Nat.lt_of_lt_of_le hlt5 (unhide HLO).size
        have v0 := ((unhide HLO).cell (p := ⟨w1.heap.size, 0, none⟩) hlt5).trans x0
        have v1 := ((unhide HLO).cell (p := ⟨w1.heap.size, 1, none⟩) hlt5).trans x1
        obtain ⟨y0, y1, yf⟩ := two hd8
        have HOKX : Hid (cnfB vars (ls ++ ds.take k) = true) := by
          show cnfB vars (ls ++ ds.take k) = true
          by_cases h0 : 0 < k
          · obtain ⟨h1, h2⟩ := unhide HOKK h0
            exact cnf_more (unhide HOK) h1 h2 hll hdl k
          · rw [show k = 0 by omega, List.take_zero, List.append_nil]
            exact unhide HOK
        clear yf
        by_cases hkd : k < ds.length
        · have j1 : (k : Int) < (ds.length : Int) := by omega
          have HK := hide (specCnfOk_any dv da ds dc wo ((unhide HD5).on (unhide HLO)))
          rw [← unhide HOKD0] at HK
          cases okd with
          | false =>
            obtain ⟨q0, q1, qf⟩ := two (unhide HX).box
            have HPM := hide (proof_more (unhide HZ) (unhide HOKX) (fun c hc => List.mem_append_left _ hc))
            have HT := hide (fun x (hx : Below wo.heap.size wo x) => implSatProof_any vars xa (ls ++ ds.take k) xc pa ps pc hpc1 x ((unhide HX).on hx).cls ((unhide HP5).on ((unhide HX).on hx).low))
            rw [unhide HPM, unhide HXL0] at HT
            clear qf
            rw [unhide HXL0] at q1
            have hxo := (Array.getElem?_eq_some_iff.1 (unhide HX).box).1
            go_wp2_with fail
            refine (unhide HK).mono ?_
            rintro e w8 ⟨rfl, b8⟩
            rw [← b8.cell (p := ⟨w5.heap.size + 1, _, none⟩) hxo] at q0 q1
            go_wp2_with fail
            refine (unhide HT w8 b8).mono ?_
            rintro e w9 ⟨rfl, b9⟩
            have HF := hide ((unhide HB5).trans (((unhide HLO).trans ((b8.trans (b9.mono b8.size)).mono (unhide HLO).size)).mono (unhide HB5).size))
            go_wp2_with fail
            go_ret
            exact ⟨rfl, unhide HF⟩
          | true =>
            by_cases hdv : dv ≤ vars
            · have HOKD := hide (unhide HOKD0).symm
              have hd8o := (Array.getElem?_eq_some_iff.1 hd8).1
              go_wp2_with fail
              refine (unhide HK).mono ?_
              rintro e wq ⟨rfl, b8⟩
              have HX' := hide ((unhide HX).on b8)
              have hd8' := (b8.block _ hd8o).trans hd8
              rw [← b8.cell (p := ⟨w1.heap.size, _, none⟩) hlt5o] at v0 v1
              rw [← b8.cell (p := ⟨w5.heap.size, _, none⟩) hd8o] at y0 y1
              clear HX hd8 HK HOKX HOKK b8 HLO
              obtain ⟨db, dO, ca, cc, hda, cd0, hcset⟩ := (unhide HD5).cellAt hkd
              subst hda
              have hdb5 : db < w5.heap.size := block_lt_of_cell cd0
              have HLM := hide (fun x (hx : Below wq.heap.size wq x) => ldMore_R (SetAt w5) vars xa (ls ++ ds.take k) xc (unhide HX').nn ca (ds.getD k []) cc x ((unhide HX').on hx).rows hcset (by rw [unhide HXL0]; have := unhide HXB; omega))
              obtain ⟨cl, hcl⟩ : ∃ cl, cl = (ds.getD k []).length := ⟨_, rfl⟩
              rw [← hcl] at cd0 HLM
              rw [unhide HXL0] at HLM
              obtain ⟨nx, hnx⟩ : ∃ L, (ls ++ ds.take k) ++ [ds.getD k []] = L := ⟨_, rfl⟩
              rw [hnx] at HLM
              have HNX := hide hnx
              clear hnx
              have HCL := hide hcl
              clear hcl hcset
              obtain ⟨q0, q1, qf⟩ := two (unhide HX').box
              rw [unhide HXL0] at q1
              have cd1 := ((unhide HX').low.cell (p := ⟨db, dO + k, none⟩) hdb5).trans cd0
              have hd8q := (Array.getElem?_eq_some_iff.1 hd8').1
              obtain ⟨g0, g1, gf⟩ := two hd8'
              have hxq := (Array.getElem?_eq_some_iff.1 (unhide HX').box).1
              have hxbne : w5.heap.size + 1 ≠ w5.heap.size := by omega
              have k0 : (0 : Int) ≤ (k : Int) := by omega
              clear qf gf
              go_upto_region 12 with fail
              refine wp_region_mix (k := 100) 7 [6] [.agg #[.int .i64 vars, .slice xa xl xc], .pointer (some ⟨w5.heap.size, 1, none⟩), .slice (some ⟨db, dO, none⟩) ds.length dc, .int .i64 (k : Int), .pointer (some ⟨db, dO + k, none⟩), .slice ca cl cc, undef] (CMo w5 wq vars nx) (by kernel_rfl) (by kernel_rfl) (by kernel_rfl) (by kernel_rfl) (by kernel_rfl) (by kernel_rfl) ⟨(Below.refl _ _).drew, (fun _ h => by cases h)⟩ ?_ ?_ ?_
              · intro full hfull i oo hi' hns ho x fl us hC hb
                simp [putAll, slotOf, Act.put] at hfull
                subst hfull
                have bx := hC.below
                have p0 := (bx.cell (p := ⟨w5.heap.size + 1, 0, none⟩) hxq).trans q0
                have p1 := (bx.cell (p := ⟨w5.heap.size + 1, 1, none⟩) hxq).trans q1
                have p2 := (bx.cell (p := ⟨w5.heap.size, 1, none⟩) hd8q).trans g1
                have p3 := (bx.cell (p := ⟨db, dO + k, none⟩) (by show db < wq.heap.size; omega)).trans cd1
                have hC0 := hC.on (b' := fl) (Below.refl _ _)
                match i with
                | 0 => simp at ho; subst ho; simp [gwp, Region.wanted, yielded]; go_simp; first | done | exact hC0 | exact ⟨rfl, hC0⟩ | (simp; exact hC0) | (refine ⟨by simp <;> omega, hC0⟩)
                | 1 => simp at ho; subst ho; simp [gwp, Region.wanted, yielded]; go_simp; first | done | exact hC0 | exact ⟨rfl, hC0⟩ | (simp; exact hC0) | (refine ⟨by simp <;> omega, hC0⟩)
                | 2 => simp at ho; subst ho; simp [gwp, Region.wanted, yielded]; go_simp; first | done | exact hC0 | exact ⟨rfl, hC0⟩ | (simp; exact hC0) | (refine ⟨by simp <;> omega, hC0⟩)
                | 3 => simp at ho; subst ho; simp [gwp, Region.wanted, yielded]; go_simp; first | done | exact hC0 | exact ⟨rfl, hC0⟩ | (simp; exact hC0) | (refine ⟨by simp <;> omega, hC0⟩)
                | 4 => simp at ho; subst ho; simp [gwp, Region.wanted, yielded]; go_simp; first | done | exact hC0 | exact ⟨rfl, hC0⟩ | (simp; exact hC0) | (refine ⟨by simp <;> omega, hC0⟩)
                | 5 => simp at ho; subst ho; simp [gwp, Region.wanted, yielded]; go_simp; first | done | exact hC0 | exact ⟨rfl, hC0⟩ | (simp; exact hC0) | (refine ⟨by simp <;> omega, hC0⟩)
                | 6 => simp at hns
                | i + 7 => omega
              · intro full hfull us j hj oo ho x fl hC
                simp [putAll, slotOf, Act.put] at hfull
                subst hfull
                have bx := hC.below
                match us with
                | [] =>
                  simp at hj
                  subst hj
                  simp at ho
                  subst ho
                  have HCM := hide (unhide HLM x bx)
                  clear hC
                  simp [gwp, Region.wanted, yielded, putP, slotOf, Act.put]
                  go_simp
                  refine (unhide HCM).mono ?_
                  rintro e wy ⟨⟨g, c', rfl, h1, h2, h3⟩, by1⟩
                  have hC1 : CMo w5 wq vars nx fl [.agg #[.int .i64 vars, .slice (some ⟨g, 0, none⟩) nx.length c']] wy := ⟨bx.trans (by1.mono bx.size), fun v e => by
                    cases e
                    exact ⟨g, c', rfl, Nat.le_trans bx.size h1, h2, h3⟩⟩
                  go_simp
                  first | done | exact hC1 | exact ⟨_, rfl, hC1⟩ | (simp; exact hC1)
                | _ :: _ => simp at hj
              intro full hfull us x hus hC
              simp [putAll, slotOf, Act.put] at hfull
              subst hfull
              match us, hus with
              | [v], _ =>
              obtain ⟨g, c', hv, h1, h2, h3⟩ := hC.val v rfl
              subst hv
              have bx := hC.below
              have htk : nx = ls ++ ds.take (k + 1) := by
                rw [← unhide HNX, List.append_assoc, List.take_add_one]
                congr 2
                simp [List.getD, hkd]
              rw [htk] at h3
              obtain ⟨xl2, hxl2⟩ : ∃ n, n = nx.length := ⟨_, rfl⟩
              have hxl3 : xl2 = (ls ++ ds.take (k + 1)).length := by rw [hxl2, htk]
              rw [← hxl2]
              have hXN := (unhide HX').more (cs := ls ++ ds.take (k + 1)) (c' := c') bx (by omega) h1 h2 (by simp; omega) h3
              rw [← hxl3] at hXN
              have hX8 : x.heap[w5.heap.size]? = some (cnfCells dv (.slice (some ⟨db, dO, none⟩) ds.length dc)) := (bx.block _ hd8q).trans hd8'
              obtain ⟨p0, p1, pf⟩ := two ((unhide HX').on bx).box
              have pf0 := pf 0
              have pf1 := pf 1
              have HXN := hide hXN
              have HX8 := hide hX8
              have HXL := hide hxl3
              clear hC hXN hX8 pf h3 hxl2 hxl3
              simp [putP, slotOf, Act.put]
              go_wp2_with fail
              go_roundw
              case rel => exact ⟨k + 1, some ⟨g, 0, none⟩, c', by omega, by go_num, HXN, (blk_setCell_other _ _ _ _ (by show w5.heap.size ≠ w5.heap.size + 1; omega)).trans ((blk_setCell_other _ _ _ _ (by show w5.heap.size ≠ w5.heap.size + 1; omega)).trans (unhide HX8)), fun _ => ⟨unhide HOKD, hdv⟩⟩
              case measure => simp [intOf]; omega
            · have hdv2 : vars < dv := by omega
              obtain ⟨q0, q1, qf⟩ := two (unhide HX).box
              have HPM := hide (proof_more (unhide HZ) (unhide HOKX) (fun c hc => List.mem_append_left _ hc))
              have HT := hide (fun x (hx : Below wo.heap.size wo x) => implSatProof_any vars xa (ls ++ ds.take k) xc pa ps pc hpc1 x ((unhide HX).on hx).cls ((unhide HP5).on ((unhide HX).on hx).low))
              rw [unhide HPM, unhide HXL0] at HT
              clear qf
              rw [unhide HXL0] at q1
              have hxo := (Array.getElem?_eq_some_iff.1 (unhide HX).box).1
              have hd8o := (Array.getElem?_eq_some_iff.1 hd8).1
              go_wp2_with fail
              refine (unhide HK).mono ?_
              rintro e w8 ⟨rfl, b8⟩
              rw [← b8.cell (p := ⟨w5.heap.size + 1, _, none⟩) hxo] at q0 q1
              rw [← b8.cell (p := ⟨w1.heap.size, _, none⟩) hlt5o] at v0 v1
              rw [← b8.cell (p := ⟨w5.heap.size, _, none⟩) hd8o] at y0 y1
              go_wp2_with fail
              refine (unhide HT w8 b8).mono ?_
              rintro e w9 ⟨rfl, b9⟩
              have HF := hide ((unhide HB5).trans (((unhide HLO).trans ((b8.trans (b9.mono b8.size)).mono (unhide HLO).size)).mono (unhide HB5).size))
              go_wp2_with fail
              go_ret
              exact ⟨rfl, unhide HF⟩
        · have j1 : ¬ (k : Int) < (ds.length : Int) := by omega
          obtain ⟨q0, q1, qf⟩ := two (unhide HX).box
          have HPM := hide (proof_more (unhide HZ) (unhide HOKX) (fun c hc => List.mem_append_left _ hc))
          have HT := hide (implSatProof_any vars xa (ls ++ ds.take k) xc pa ps pc hpc1 wo (unhide HX).cls ((unhide HP5).on (unhide HX).low))
          rw [unhide HPM, unhide HXL0] at HT
          clear qf
          rw [unhide HXL0] at q1
          go_wp2_with fail
          refine (unhide HT).mono ?_
          rintro e w9 ⟨rfl, b9⟩
          have HF := hide ((unhide HB5).trans (((unhide HLO).trans (b9.mono (unhide HLO).size)).mono (unhide HB5).size))
          go_wp2_with fail
          go_ret
          exact ⟨rfl, unhide HF⟩
end Go.Proofs.Ythkhaemlcmkkjai
