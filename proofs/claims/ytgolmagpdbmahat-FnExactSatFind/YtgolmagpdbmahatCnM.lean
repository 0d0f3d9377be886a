/- Marks on copied clauses. -/
import Derived.Test.YtgolmagpdbmahatGCn
import Derived.Test.YtgolmagpdbmahatRowsL
namespace Go.Proofs.Ytgolmagpdbmahat
set_option linter.unusedVariables false
set_option linter.unusedSimpArgs false
open Go.RowKit Go.Deep

/-- Marks were written, into blocks behind g and ahead of S alone. -/
structure Marked (g S : Nat) (w w' : World) : Prop where
  os : w'.os = w.os
  tape : w'.tape = w.tape
  output : w'.output = w.output
  size : w.heap.size ≤ w'.heap.size
  block : ∀ b, b < w.heap.size → (b ≤ g ∨ S ≤ b) → w'.heap[b]? = w.heap[b]?
theorem Marked.refl (g S : Nat) (w : World) : Marked g S w w := ⟨rfl, rfl, rfl, Nat.le_refl _, fun _ _ _ => rfl⟩
theorem Marked.trans {g S : Nat} {w x y : World} (h : Marked g S w x) (k : Marked g S x y) : Marked g S w y :=
  ⟨k.os.trans h.os, k.tape.trans h.tape, k.output.trans h.output, Nat.le_trans h.size k.size, fun b hb hc => (k.block b (Nat.lt_of_lt_of_le hb h.size) hc).trans (h.block b hb hc)⟩
/-- Rows of numbers of the clauses' lengths, in blocks of their own. -/
def MarkR (S g : Nat) (w : World) (cs : List (List Int)) : Prop := cs.length ≤ 1048576 ∧ Row w g 41 cs.length ∧ ∀ i, i < cs.length → ∃ (v : Value) (l : List Int), w.cell? ⟨g, i, none⟩ = some v ∧ l.length = (cs.getD i []).length ∧ l.length ≤ 1048576 ∧ OwnSet g w v l ∧ ∀ j, v.ownBlock = some j → j < S
theorem OwnSet.row {g : Nat} {w : World} {v : Value} {l : List Int} (h : OwnSet g w v l) : RowI (g + 1) w v l := by
  obtain ⟨q, rfl, hq, ⟨C, hb, hC⟩, hl, hc⟩ := h
  refine ⟨by simp, Or.inr ⟨q, l.length, C, rfl, hq, hb, Nat.le_refl _, by unfold maxLen; omega, by omega, ?_⟩⟩
  apply List.ext_getElem?
  intro i
  by_cases hi : i < l.length
  · rw [List.getElem?_take, if_pos (by omega)]
    have := hc i hi
    simp only [World.cell?, hb] at this
    simp [List.getD, hi] at this ⊢
    exact this
  · rw [List.getElem?_take, if_neg (by omega), List.getElem?_eq_none (by simp; omega)]
theorem OwnSet.of_row {g q n : Nat} {w : World} {l : List Int} (h : RowI (g + 1) w (.slice (some ⟨q, 0, none⟩) n n) l) (hn : l.length = n) (hm : n ≤ 1048576) : OwnSet g w (.slice (some ⟨q, 0, none⟩) n n) l := by
  subst hn
  rcases h.2 with ⟨hv, _⟩ | ⟨q', cap, cur, hv, hq, hc, hcap, _, hsz, hx⟩
  · simp at hv
  · simp at hv
    obtain ⟨rfl, rfl⟩ := hv
    refine ⟨q, rfl, hq, ⟨cur, hc, by omega⟩, hm, fun i hi => ?_⟩
    have e : cur.toList[i]? = some (.int .i64 (l.getD i 0)) := by
      have : (cur.toList.take (l.length * 1))[i]? = (l.map fun i => Value.int .i64 i)[i]? := by rw [hx]
      rw [List.getElem?_take, if_pos (by omega)] at this
      rw [this]
      simp [List.getD, hi]
    simp only [World.cell?, hc]
    simpa using e
theorem NewCls.mark {H : Nat} {w : World} {g : Nat} {cs : List (List Int)} (h : NewCls H w g cs) : MarkR w.heap.size g w cs := by
  obtain ⟨hm, _, hr, hc⟩ := h
  refine ⟨hm, hr, fun i hi => ?_⟩
  obtain ⟨v, h1, h2⟩ := hc i hi
  exact ⟨v, _, h1, rfl, by obtain ⟨_, _, _, _, hl, _⟩ := h2; exact hl, h2, fun j hj => (World.ownsRow.lt h2.row j hj).2⟩
theorem MarkR.stay {S g : Nat} {w w' : World} {cs : List (List Int)} (h : MarkR S g w cs) (hg : g < S) (hs : w.heap.size ≤ w'.heap.size) (hb : ∀ b, g ≤ b → b < S → b < w.heap.size → w'.heap[b]? = w.heap[b]?) : MarkR S g w' cs := by
  obtain ⟨hm, hr, hc⟩ := h
  refine ⟨hm, hr.of_block (hb g (Nat.le_refl _) hg hr.lt), fun i hi => ?_⟩
  obtain ⟨v, l, h1, h2, h3, h4, h6⟩ := hc i hi
  refine ⟨v, l, (World.cell?_of_block (w := w) (a := ⟨g, i, none⟩) (hb g (Nat.le_refl _) hg hr.lt)).trans h1, h2, h3, ?_, h6⟩
  obtain ⟨q, rfl, hq, hqr, hl, hcc⟩ := h4
  have e := hb q (by omega) (h6 q rfl) hqr.lt
  exact ⟨q, rfl, hq, hqr.of_block e, hl, fun i hi => (World.cell?_of_block (w := w) (a := ⟨q, i, none⟩) e).trans (hcc i hi)⟩
/-- What a mark answers: a number, and marks were written. -/
def MarkOut (g S : Nat) (w : World) (k0 k1 : Int) (e : Ending) (w' : World) : Prop := (∃ z : Int, e = .returned (.int .i64 z) ∧ k0 ≤ z ∧ z ≤ k1) ∧ Marked g S w w'

set_option maxRecDepth 10000 in
set_option maxHeartbeats 4000000 in
theorem markIntSS_new (S g : Nat) (cs : List (List Int)) (k0 : Int) (w : World) (h : MarkR S g w cs) (hg : g < S) (hk0 : 0 ≤ k0) (hk1 : k0 ≤ 1000) :
    Calls Try.prog 18 #[.slice (some ⟨g, 0, none⟩) cs.length cs.length, .int .i64 k0] w fun e w' => MarkOut g S w k0 (k0 + 1048576 * cs.length) e w' := by
  have hcl := h.1
  have HH := hide h
  clear h
  go_enter Try.func18, Try.ntmps18
  go_wp2_with fail
  go_loopw [1, 5] (fun z i wr => ∃ (k : Nat) (q : Int), k ≤ cs.length ∧ i = .int .i64 k ∧ z = .int .i64 q ∧ k0 ≤ q ∧ q ≤ k0 + 1048576 * k ∧ Hid (Marked g S w wr) ∧ Hid (MarkR S g wr cs)) (fun _ i _ => cs.length - (intOf i).toNat)
  case atStart => exact ⟨0, k0, Nat.zero_le _, rfl, rfl, Int.le_refl _, by omega, Marked.refl _ _ _, unhide HH⟩
  case round =>
    rename World => wo
    obtain ⟨k, q, hk, rfl, rfl, hq0, hq1, HM, HL⟩ := hrel
    by_cases hlt : k < cs.length
    · have j1 : (k : Int) < (cs.length : Int) := by omega
      obtain ⟨_, hrow, hc⟩ := unhide HL
      obtain ⟨v, l, c0, hll, hlm, hO, hvS⟩ := hc k hlt
      have hrl := hrow.lt
      have hI := hO.row
      have HOO := hide hO
      obtain ⟨vq, hv, _⟩ := hO
      have HC := hide (markIntS_k q (g + 1) v l wo hI hlm (by omega) (by omega))
      have HVL := hide (World.ownsRow.lt hI)
      have HVS := hide hvS
      have HN := hide hll
      rw [hv] at c0 HC HVL HVS HOO
      generalize hln : l.length = n at HC c0 hlm HN HVL HVS HOO
      have HLN := hide hln
      clear hc hI hll hvS hrow hv hln
      go_wp2_with (first
        | (go_at_call 28; refine (unhide HC).mono ?_; rintro e w2 ⟨rfl, hg2, hr2⟩; have HG2 := hide hg2; have HR2 := hide hr2; clear hg2 hr2))
      go_roundw
      case rel =>
        have hg2 := unhide HG2
        have hr2 := unhide HR2
        have hblk := unhide HVL
        have hM : Marked g S wo w2 := ⟨hg2.os, hg2.tape, hg2.output, hg2.size, fun b hb hor => hg2.block b hb (fun e => by have h1 := hblk b e.symm; have h2 := unhide HVS b e.symm; omega)⟩
        refine ⟨k + 1, q + n, by omega, by go_num, rfl, by omega, by omega, (unhide HM).trans hM, ?_⟩
        obtain ⟨hm, hrow, hc⟩ := unhide HL
        have hrl := hrow.lt
        have eg := hg2.block g hrl (fun e => by have := hblk g e.symm; omega)
        refine ⟨hm, hrow.of_block eg, fun i hi => ?_⟩
        obtain ⟨v', l', e1, e2, e3, e4, e5⟩ := hc i hi
        have e1' : w2.cell? ⟨g, i, none⟩ = some v' := (World.cell?_of_block (w := wo) (a := ⟨g, i, none⟩) eg).trans e1
        obtain ⟨q', rfl, hq', hqr, hql, hqc⟩ := e4
        by_cases hsame : q' = vq
        · subst hsame
          obtain ⟨q2, hv2, _, hqr2, _⟩ := unhide HOO
          simp at hv2
          obtain ⟨rfl, hnl⟩ := hv2
          have hnn : l'.length = n := by
            obtain ⟨C, hC, hCs⟩ := hqr
            obtain ⟨C', hC', hCs'⟩ := hqr2
            rw [hC] at hC'
            simp at hC'
            rw [← hCs, hC', hCs', unhide HLN]
          rw [hnn] at e1' e2 e5
          exact ⟨_, upsK q n, e1', by rw [upsK_length]; exact e2, by rw [upsK_length]; exact hlm, OwnSet.of_row hr2 (upsK_length _ _) hlm, e5⟩
        · have eb := hg2.block q' hqr.lt (fun e => by simp [Value.ownBlock] at e; exact hsame e)
          exact ⟨_, l', e1', e2, e3, ⟨q', rfl, hq', hqr.of_block eb, hql, fun i hi => (World.cell?_of_block (w := wo) (a := ⟨q', i, none⟩) eb).trans (hqc i hi)⟩, e5⟩
      case measure => simp [intOf]; omega
    · have j1 : ¬ (k : Int) < (cs.length : Int) := by omega
      have hkn : k = cs.length := by omega
      go_wp2_with fail
      go_ret
      exact ⟨⟨q, rfl, hq0, by omega⟩, unhide HM⟩

set_option maxHeartbeats 2000000 in
theorem markCnf_any (vars : Int) (S g : Nat) (cs : List (List Int)) (w : World) (h : MarkR S g w cs) (hg : g < S) :
    Calls Try.prog 16 #[.agg #[.int .i64 vars, .slice (some ⟨g, 0, none⟩) cs.length cs.length], .int .i64 1] w fun e w' => MarkOut g S w 1 (1 + 1048576 * cs.length) e w' := by
  have b0 := (Below.refl w.heap.size w).alloc (Nat.le_refl _) (.cells #[.int .i64 vars, .slice (some ⟨g, 0, none⟩) cs.length cs.length] 29)
  have hM : Marked g S w (w.alloc (.cells #[.int .i64 vars, .slice (some ⟨g, 0, none⟩) cs.length cs.length] 29)) := ⟨b0.os, b0.tape, b0.output, b0.size, fun b hb _ => b0.block b hb⟩
  have HC := hide (markIntSS_new S g cs 1 _ (h.stay hg b0.size (fun b _ _ hb => b0.block b hb)) hg (by omega) (by omega))
  have HM := hide hM
  clear h b0 hM
  go_enter Try.func16, Try.ntmps16
  go_wp2_with fail
  refine (unhide HC).mono ?_
  rintro e w1 ⟨⟨z, rfl, hz0, hz1⟩, hm⟩
  have HF := hide ((unhide HM).trans hm)
  clear hm
  go_wp2_with fail
  go_ret
  exact ⟨⟨z, rfl, hz0, hz1⟩, unhide HF⟩
end Go.Proofs.Ytgolmagpdbmahat
