/- The walk of the law FnCnfTurn: of every code it answers true, and writes nothing that was there. -/
import Derived.Test.YtgolmagpdbmahahGDcn
import Derived.Test.YtgolmagpdbmahahGFo
import Derived.Test.YtgolmagpdbmahahGSu
import Derived.Test.YtgolmagpdbmahahGUp
import Derived.Test.YtgolmagpdbmahahGReg
namespace Go.Proofs.Ytgolmagpdbmahah
set_option linter.unusedVariables false
set_option linter.unusedSimpArgs false
open Go.RowKit Go.Deep

theorem rev_at {ls : List (List Int)} {k p : Nat} (h : p + 1 + k = ls.length) : ls.reverse.getD k [] = ls.getD p [] := by
  have hk : k < ls.length := by omega
  simp only [List.getD, List.getElem?_reverse hk]
  rw [show ls.length - 1 - k = p by omega]
theorem Try.infoTT : (Try.prog.info? 42).map (fun i => (i.zero, i.size, i.bytes)) = some (some (.slice none 0 0), 1, 24) := by kernel_rfl
/-- In the midst of the turning: the box at block b, the result at b + 1, the new clauses at b + 2. -/
structure TR (w0 : World) (vars : Int) (a : Option Addr) (ls : List (List Int)) (cap k : Nat) (v : Value) (vs : List Value) (x : World) : Prop where
  low : Below w0.heap.size w0 x
  box : x.heap[w0.heap.size]? = some (cnfCells vars (.slice a ls.length cap))
  res : x.heap[w0.heap.size + 1]? = some (cnfCells 0 (.slice none 0 0))
  cur : x.heap[w0.heap.size + 2]? = some (cnfCells vars v)
  own : x.ownsRow (w0.heap.size + 3) 42 1 v k vs
  len : vs.length = k
  rows : ∀ i, i < k → ∃ a' c, vs.getD i undef = .slice a' (ls.reverse.getD i []).length c ∧ SetAt w0 a' (ls.reverse.getD i [])
/-- What the operations of a round leave. -/
def TT (b s0 : Nat) (V : Value) (A : Value) (ad : Addr) (p k : Nat) (U : Value) (vs : List Value) (i : Nat) (v : Value) (x : World) : Prop := match i with
  | 0 => v = .pointer (some ⟨b + 2, 1, none⟩)
  | 1 => v = V
  | 2 => v = .pointer (some ⟨b, 1, none⟩)
  | 3 => v = A
  | 4 => v = .int .i64 (p : Int)
  | 5 => v = .pointer (some ad)
  | 6 => v = U
  | 7 => ∃ g, v = .slice (some ⟨g, 0, none⟩) 1 1 ∧ s0 ≤ g ∧ x.heap[g]? = some (.cells #[U] 42 (0, 0))
  | 8 => ∃ a c, v = .slice a (k + 1) c ∧ x.ownsRow (b + 3) 42 1 v (k + 1) (vs ++ [U])
  | 9 => v = .pointer (some ⟨b + 2, 1, none⟩)
  | _ => True
theorem TT_keep {b s0 : Nat} {V A U : Value} {ad : Addr} {p k : Nat} {vs : List Value} {i : Nat} {v : Value} {x y : World} (h : TT b s0 V A ad p k U vs i v x) (hk : ∀ (g : Nat), s0 ≤ g → g < x.heap.size → y.heap[g]? = x.heap[g]?) (h8 : i = 8 → ∀ v xs, x.ownsRow (b + 3) 42 1 v (k + 1) xs → y.ownsRow (b + 3) 42 1 v (k + 1) xs) : TT b s0 V A ad p k U vs i v y := by
  unfold TT at h ⊢
  split at h
  case h_8 => obtain ⟨g, h1, h2, h3⟩ := h; exact ⟨g, h1, h2, (hk g h2 (Array.getElem?_eq_some_iff.1 h3).1).trans h3⟩
  case h_9 => obtain ⟨a, c, h1, h2⟩ := h; exact ⟨a, c, h1, h8 rfl _ _ h2⟩
  all_goals exact h
/-- The worlds within a round. -/
structure CT (w0 : World) (s0 : Nat) (vars : Int) (a : Option Addr) (ls : List (List Int)) (cap k : Nat) (V : Value) (vs : List Value) (L : Nat → Bool) (x : World) : Prop where
  low : Below w0.heap.size w0 x
  box : x.heap[w0.heap.size]? = some (cnfCells vars (.slice a ls.length cap))
  res : x.heap[w0.heap.size + 1]? = some (cnfCells 0 (.slice none 0 0))
  cur : x.heap[w0.heap.size + 2]? = some (cnfCells vars V)
  own : L 8 = false → x.ownsRow (w0.heap.size + 3) 42 1 V k vs
  size : s0 ≤ x.heap.size
section
variable {w0 x : World} {s0 cap k : Nat} {vars : Int} {a : Option Addr} {ls : List (List Int)} {V : Value} {vs : List Value} {L : Nat → Bool}
theorem CT.next (h : CT w0 s0 vars a ls cap k V vs L x) (i : Nat) : CT w0 s0 vars a ls cap k V vs (doneOne L i) x := ⟨h.low, h.box, h.res, h.cur, fun hl => h.own (by simp [doneOne] at hl; exact hl.2), h.size⟩
theorem CT.alloc (h : CT w0 s0 vars a ls cap k V vs L x) (o : Obj) (i : Nat) : CT w0 s0 vars a ls cap k V vs (doneOne L i) (x.alloc o) := by
  have hb := (Below.refl x.heap.size x).alloc (Nat.le_refl _) o
  have k' : ∀ {g : Nat} {O : Obj}, x.heap[g]? = some O → (x.alloc o).heap[g]? = some O := fun {g O} hg => (hb.block g (Array.getElem?_eq_some_iff.1 hg).1).trans hg
  exact ⟨h.low.trans (hb.mono h.low.size), k' h.box, k' h.res, k' h.cur, fun hl => ownsRow_on (h.own (by simp [doneOne] at hl; exact hl.2)) hb, by have := h.size; simp; omega⟩
end

set_option maxRecDepth 100000 in
set_option maxHeartbeats 8000000 in
theorem ldTurn_any (vars : Int) (a : Option Addr) (ls : List (List Int)) (cap : Nat) (w : World) (h : ClsAt w a ls) (hl26 : ls.length ≤ 26) :
    Calls Try.prog 21 #[.agg #[.int .i64 vars, .slice a ls.length cap]] w fun e w' => (∃ a' c', e = .returned (.agg #[.int .i64 vars, .slice a' ls.length c']) ∧ ClsAt w' a' ls.reverse) ∧ Below w.heap.size w w' := by
  obtain ⟨i0, hi, hz0, hz1, hz2⟩ := info_parts Try.infoTT
  have HH := hide h
  clear h
  obtain ⟨w3, hw3⟩ : ∃ w3, w3 = ((w.alloc (.cells #[.int .i64 vars, .slice a ls.length cap] 25)).alloc (.cells #[.int .i64 0, .slice none 0 0] 25)).alloc (.cells #[.int .i64 vars, .slice none 0 0] 25) := ⟨_, rfl⟩
  have HT3 : Hid (TR w vars a ls cap 0 (.slice none 0 0) [] w3) := by
    have s1 : (w.alloc (.cells #[.int .i64 vars, .slice a ls.length cap] 25)).heap.size = w.heap.size + 1 := by simp
    have s2 : ((w.alloc (.cells #[.int .i64 vars, .slice a ls.length cap] 25)).alloc (.cells #[.int .i64 0, .slice none 0 0] 25)).heap.size = w.heap.size + 2 := by simp
    refine ⟨?_, ?_, ?_, ?_, World.ownsRow_nil _ _ _ _, rfl, fun i hi => absurd hi (Nat.not_lt_zero i)⟩
    · rw [hw3]; exact (((Below.refl _ _).alloc (Nat.le_refl _) _).alloc (by omega) _).alloc (by omega) _
    · rw [hw3, blk_alloc_lt _ _ _ (by omega), blk_alloc_lt _ _ _ (by omega)]; exact blk_alloc_new _ _
    · rw [hw3, blk_alloc_lt _ _ _ (by omega), ← s1]; exact blk_alloc_new _ _
    · rw [hw3, ← s2]; exact blk_alloc_new _ _
  have z3 : w3.heap.size = w.heap.size + 3 := by rw [hw3]; simp
  have hwr : IntKind.i64.wrap ((ls.length : Int) - 1) = (ls.length : Int) - 1 := by rw [IntKind.wrap_i64]; omega
  go_enter Try.func21, Try.ntmps21
  go_upto_region 2 with fail
  rw [← hw3]
  obtain ⟨b0, b1, bf⟩ := two (unhide HT3).box
  clear hw3
  go_wp2_with fail
  clear b0 b1 bf hwr
  go_loopw [4] (fun i wr => ∃ (k : Nat) (q : Int) (v : Value) (vs : List Value), q + 1 + k = ls.length ∧ -1 ≤ q ∧ i = .int .i64 q ∧ Hid (TR w vars a ls cap k v vs wr)) (fun i _ => (intOf i + 1).toNat)
  case atStart => exact ⟨0, (ls.length : Int) - 1, _, [], by omega, by omega, rfl, HT3⟩
  case round =>
    rename World => wo
    obtain ⟨k, q, v, vs, hq, hq1, rfl, HT⟩ := hrel
    clear HT3 z3
    have hown := (unhide HT).own
    obtain ⟨va, vc, hv⟩ : ∃ va vc, v = .slice va k vc := by
      rcases hown.2 with ⟨hv, h0⟩ | ⟨g, cp, cur, hv, _⟩
      · exact ⟨none, 0, by rw [hv, h0]⟩
      · exact ⟨_, _, hv⟩
    subst hv
    have HV1 := hide (fun j hj => (World.ownsRow.lt hown j hj).1)
    have HV2 := hide (fun j hj => (World.ownsRow.lt hown j hj).2)
    clear hown
    have hcl : w.heap.size + 2 < wo.heap.size := (Array.getElem?_eq_some_iff.1 (unhide HT).cur).1
    by_cases hq0 : 0 ≤ q
    · obtain ⟨p, rfl⟩ : ∃ n : Nat, q = n := ⟨q.toNat, by omega⟩
      have hpn : p < ls.length := by omega
      have hpi : (p : Int) < (ls.length : Int) := by omega
      obtain ⟨hcl1, hc⟩ := unhide HH
      obtain ⟨ab, ao, rfl, hab, hcell⟩ : ∃ b o, a = some ⟨b, o, none⟩ ∧ b < w.heap.size ∧ ∀ i, i < ls.length → ∃ a' c, w.cell? ⟨b, o + i, none⟩ = some (.slice a' (ls.getD i []).length c) ∧ SetAt w a' (ls.getD i []) := by
        rcases hc with hc | hc
        · rw [hc] at hpn; simp at hpn
        · exact hc
      obtain ⟨ra, rc, hrc, hrs⟩ := hcell p hpn
      have hrev := rev_at (ls := ls) (k := k) (p := p) (by omega)
      rw [← hrev] at hrc hrs
      have HRS := hide hrs
      clear hcell hrs hcl1 hc hrev
      have hwp : IntKind.i64.wrap ((p : Int) - 1) = (p : Int) - 1 := by rw [IntKind.wrap_i64]; omega
      have HC0 : Hid (CT w wo.heap.size vars (some ⟨ab, ao, none⟩) ls cap k (.slice va k vc) vs (fun _ => false) wo.drew) := ⟨(unhide HT).low.drew, (unhide HT).box, (unhide HT).res, (unhide HT).cur, fun _ => ownsRow_on (unhide HT).own (Below.refl _ _).drew, Nat.le_refl _⟩
      have HRW := hide (unhide HT).rows
      have hlen := (unhide HT).len
      clear HT
      go_upto_region 5 with fail
      refine wp_region_headF 10 (by kernel_rfl) (by kernel_rfl) (by kernel_rfl) (by kernel_rfl) (by kernel_rfl) (TT w.heap.size wo.heap.size (.slice va k vc) (.slice (some ⟨ab, ao, none⟩) ls.length cap) ⟨ab, ao + p, none⟩ p k (.slice ra (ls.reverse.getD k []).length rc) vs) (CT w wo.heap.size vars (some ⟨ab, ao, none⟩) ls cap k (.slice va k vc) vs) (unhide HC0) ?_ ?_
      · intro i o him hi' ac x L hL ha hc hd
        match i with
        | 0 =>
          simp at hi'
          subst hi'
          have e3 : ac.tmps[3]? = some (.pointer (some ⟨w.heap.size + 2, 0, none⟩)) := (ha.slot 3 (slots_no (by kernel_rfl))).trans rfl
          go_simp
          exact ⟨_, rfl, rfl, hc.next 0⟩
        | 1 =>
          simp at hi'
          subst hi'
          have d0 := hd ⟨0, .data⟩ (by simp) rfl
          rw [valOf_at (d := 16) rfl] at d0
          simp only [TT] at d0
          obtain ⟨x0, x1, xf⟩ := two hc.cur
          go_simp
          exact ⟨_, rfl, rfl, hc.next 1⟩
        | 2 =>
          simp at hi'
          subst hi'
          have e1 : ac.tmps[1]? = some (.pointer (some ⟨w.heap.size, 0, none⟩)) := (ha.slot 1 (slots_no (by kernel_rfl))).trans rfl
          go_simp
          exact ⟨_, rfl, rfl, hc.next 2⟩
        | 3 =>
          simp at hi'
          subst hi'
          have d2 := hd ⟨2, .data⟩ (by simp) rfl
          rw [valOf_at (d := 18) rfl] at d2
          simp only [TT] at d2
          obtain ⟨x0, x1, xf⟩ := two hc.box
          go_simp
          exact ⟨_, rfl, rfl, hc.next 3⟩
        | 4 =>
          simp at hi'
          subst hi'
          have e4 : ac.tmps[4]? = some (.int .i64 (p : Int)) := (ha.slot 4 (slots_no (by kernel_rfl))).trans rfl
          go_simp
          exact ⟨_, rfl, rfl, hc.next 4⟩
        | 5 =>
          simp at hi'
          subst hi'
          have d3 := hd ⟨3, .data⟩ (by simp) rfl
          rw [valOf_at (d := 19) rfl] at d3
          simp only [TT] at d3
          have d4 := hd ⟨4, .data⟩ (by simp) rfl
          rw [valOf_at (d := 20) rfl] at d4
          simp only [TT] at d4
          go_simp
          exact ⟨_, rfl, rfl, hc.next 5⟩
        | 6 =>
          simp at hi'
          subst hi'
          have d5 := hd ⟨5, .data⟩ (by simp) rfl
          rw [valOf_at (d := 21) rfl] at d5
          simp only [TT] at d5
          have hcx := (hc.low.cell (p := ⟨ab, ao + p, none⟩) hab).trans hrc
          go_simp
          exact ⟨_, rfl, rfl, hc.next 6⟩
        | 7 =>
          simp at hi'
          subst hi'
          have d6 := hd ⟨6, .data⟩ (by simp) rfl
          rw [valOf_at (d := 22) rfl] at d6
          simp only [TT] at d6
          go_simp
          exact ⟨_, rfl, ⟨x.heap.size, rfl, hc.size, blk_alloc_new _ _⟩, hc.alloc _ 7, fun j v hj hl hT => TT_keep hT (fun g _ hg => blk_alloc_lt _ _ _ hg) (fun _ _ _ ho => ownsRow_on ho ((Below.refl _ _).alloc (Nat.le_refl _) _))⟩
        | 8 =>
          simp at hi'
          subst hi'
          have d1 := hd ⟨1, .data⟩ (by simp) rfl
          rw [valOf_at (d := 17) rfl] at d1
          simp only [TT] at d1
          obtain ⟨g, h7, hg, hx⟩ := hd ⟨7, .data⟩ (by simp) rfl
          rw [valOf_at (d := 23) rfl] at h7
          have hown := hc.own hL
          have hs1 : ac.eval (.tmp 17) = .slice va k vc := by simp only [Act.eval, Array.getD_eq_getD_getElem?]; exact d1
          have hs2 : ac.eval (.tmp 23) = .slice (some ⟨g, 0, none⟩) 1 1 := by simp only [Act.eval, Array.getD_eq_getD_getElem?]; exact h7
          refine wp_append_own x (.tmp 17) (.tmp 23) 23 rfl (w.heap.size + 3) 42 i0 (.slice none 0 0) 1 24 Try.underlying23 hi hz0 hz1 hz2 rfl (by decide) _ k vs hs1 hown ⟨g, 0, none⟩ 1 1 [.slice ra (ls.reverse.getD k []).length rc] hs2 rfl ?_ ?_ ?_ ?_ ?_ ?_
          · intro j u hj
            match j, hj with
            | 0, hj => simp at hj; subst hj; simp [Addr.add, World.cell?, hx]
          · intro u hu; simp at hu; subst hu; rfl
          · unfold maxLen; omega
          · omega
          · have := hc.size; omega
          intro v' y hown' hgrow _
          have hB1 := unhide HV1
          have hB2 := unhide HV2
          obtain ⟨a', c', hv'⟩ : ∃ a' c', v' = .slice a' (k + 1) c' := by
            rcases hown'.2 with ⟨_, h0⟩ | ⟨g, cp, cur, hv, _⟩
            · omega
            · exact ⟨_, _, hv⟩
          have kk : ∀ {g : Nat} {O : Obj}, g < w.heap.size + 3 → x.heap[g]? = some O → y.heap[g]? = some O := fun {g O} hg3 hg' => (hgrow.block g (Array.getElem?_eq_some_iff.1 hg').1 (fun e => by have := hB1 g e.symm; omega)).trans hg'
          have hlb : Below w.heap.size w y := ⟨hgrow.os.trans hc.low.os, hgrow.tape.trans hc.low.tape, hgrow.output.trans hc.low.output, Nat.le_trans hc.low.size hgrow.size, fun b hb => (hgrow.block b (Nat.lt_of_lt_of_le hb hc.low.size) (fun e => by have := hB1 b e.symm; omega)).trans (hc.low.block b hb)⟩
          refine ⟨v', rfl, ⟨a', c', hv', hown'⟩, ⟨hlb, kk (by omega) hc.box, kk (by omega) hc.res, kk (by omega) hc.cur, fun hf => by simp [doneOne] at hf, by have := hgrow.size; have := hc.size; omega⟩, ?_⟩
          intro j v hj hLj hT
          refine TT_keep hT (fun g' hg' hx' => hgrow.block g' hx' (fun e => by have := hB2 g' e.symm; omega)) (fun e => ?_)
          subst e
          rw [hL] at hLj
          cases hLj
        | 9 =>
          simp at hi'
          subst hi'
          have e3 : ac.tmps[3]? = some (.pointer (some ⟨w.heap.size + 2, 0, none⟩)) := (ha.slot 3 (slots_no (by kernel_rfl))).trans rfl
          go_simp
          exact ⟨_, rfl, rfl, hc.next 9⟩
        | i + 10 => omega
      · intro ac x ha ht hcL
        obtain ⟨L, hL, hc⟩ := hcL
        have h25 : ac.tmps[25]?.getD undef = .pointer (some ⟨w.heap.size + 2, 1, none⟩) := by have := ht 9 (by omega); rwa [valOf_at (d := 25) rfl] at this
        obtain ⟨a', c', h24, hown'⟩ := ht 8 (by omega)
        rw [valOf_at (d := 24) rfl] at h24 hown'
        have hl := ha.list
        simp [slotOf, List.range_succ] at hl
        rw [hl]
        clear hl ha ht
        rw [h24] at hown'
        obtain ⟨x0, x1, xf⟩ := two hc.cur
        have xf1 := xf 1
        have HT6 : Hid (TR w vars (some ⟨ab, ao, none⟩) ls cap (k + 1) (.slice a' (k + 1) c') (vs ++ [.slice ra (ls.reverse.getD k []).length rc]) (x.setCell ⟨w.heap.size + 2, 1, none⟩ (.slice a' (k + 1) c'))) := by
          refine ⟨Below.setCell hc.low (by show w.heap.size ≤ w.heap.size + 2; omega) _, (blk_setCell_other _ _ _ _ (by show w.heap.size ≠ w.heap.size + 2; omega)).trans hc.box, (blk_setCell_other _ _ _ _ (by show w.heap.size + 1 ≠ w.heap.size + 2; omega)).trans hc.res, ?_, ?_, by simp [hlen], fun i hi => ?_⟩
          · rw [blk_set hc.cur]; rfl
          · obtain ⟨h1, h2⟩ := hown'
            refine ⟨h1, h2.imp id ?_⟩
            rintro ⟨g, cp, cu, hv, hg, hcc, r⟩
            exact ⟨g, cp, cu, hv, hg, (blk_setCell_other _ _ _ _ (by show g ≠ w.heap.size + 2; omega)).trans hcc, r⟩
          · by_cases e : i < k
            · obtain ⟨a1, c1, e1, e2⟩ := unhide HRW i e
              refine ⟨a1, c1, ?_, e2⟩
              rw [← e1]
              have : i < vs.length := by omega
              simp [List.getD, List.getElem?_append, this]
            · have : i = k := by omega
              subst this
              refine ⟨ra, rc, ?_, unhide HRS⟩
              have : ¬ i < vs.length := by omega
              simp [List.getD, List.getElem?_append, hlen]
        clear hc hown' xf
        rw [h25, h24]
        go_wp2_with fail
        go_roundw
        case rel => exact ⟨k + 1, (p : Int) - 1, _, _, by omega, by omega, by go_num, HT6⟩
        case measure => simp [intOf] <;> omega
    · have hqn : q = -1 := by omega
      have hkn : k = ls.length := by omega
      subst hkn
      obtain ⟨x0, x1, xf⟩ := two (unhide HT).cur
      obtain ⟨r0, r1, rf⟩ := two (unhide HT).res
      have rf0 := rf 0
      have rf1 := rf 1
      have h1 := blk_set (unhide HT).res 0 (.int .i64 vars)
      have hy : ((wo.setCell ⟨w.heap.size + 1, 0, none⟩ (.int .i64 vars)).setCell ⟨w.heap.size + 1, 1, none⟩ (.slice va ls.length vc)).heap[w.heap.size + 1]? = some (cnfCells vars (.slice va ls.length vc)) := by rw [blk_set h1 1 _]; rfl
      obtain ⟨q0, q1, _⟩ := two hy
      have hB : Below w.heap.size w ((wo.setCell ⟨w.heap.size + 1, 0, none⟩ (.int .i64 vars)).setCell ⟨w.heap.size + 1, 1, none⟩ (.slice va ls.length vc)) := Below.setCell (Below.setCell (unhide HT).low (by show w.heap.size ≤ w.heap.size + 1; omega) _) (by show w.heap.size ≤ w.heap.size + 1; omega) _
      have hC : ClsAt ((wo.setCell ⟨w.heap.size + 1, 0, none⟩ (.int .i64 vars)).setCell ⟨w.heap.size + 1, 1, none⟩ (.slice va ls.length vc)) va ls.reverse := by
        refine ⟨by simp; omega, ?_⟩
        rcases (unhide HT).own.2 with ⟨_, h0⟩ | ⟨g, cp, cur, hv, hg, hcc, hcap, _, hsz, hx⟩
        · left; rw [List.length_eq_zero_iff.1 h0]; rfl
        · simp at hv
          obtain ⟨rfl, rfl⟩ := hv
          refine Or.inr ⟨g, 0, rfl, ?_, fun i hi => ?_⟩
          · have := (Array.getElem?_eq_some_iff.1 hcc).1
            rw [nblk_setCell, nblk_setCell]; exact this
          · have hi' : i < ls.length := by simpa using hi
            obtain ⟨a1, c1, e1, e2⟩ := (unhide HT).rows i hi'
            refine ⟨a1, c1, ?_, e2.on hB⟩
            have hlen := (unhide HT).len
            have ei : cur.toList[i]? = some (vs.getD i undef) := by
              have : (cur.toList.take (ls.length * 1))[i]? = vs[i]? := by rw [hx]
              rw [List.getElem?_take, if_pos (by omega)] at this
              rw [this]
              have : i < vs.length := by omega
              simp [List.getD, this]
            rw [World.cell?_of_block (w := wo) (a := ⟨g, 0 + i, none⟩) ((blk_setCell_other _ _ _ _ (by show g ≠ w.heap.size + 1; omega)).trans (blk_setCell_other _ _ _ _ (by show g ≠ w.heap.size + 1; omega)))]
            rw [← e1]
            simp only [World.cell?, hcc, Nat.zero_add]
            simpa using ei
      have HF := hide (And.intro hC hB)
      have hqf : ¬ (0 : Int) ≤ q := hq0
      clear HT hC hB hy h1 xf rf hqn
      go_wp2_with fail
      obtain ⟨f1, f2⟩ := unhide HF
      exact bodyPost_ret (v := .agg #[.int .i64 vars, .slice va ls.length vc]) (by simp [results, Try.results21, go_sem, q0, q1]) rfl ⟨⟨va, ⟨vc, rfl⟩, f1⟩, f2⟩

end Go.Proofs.Ytgolmagpdbmahah
