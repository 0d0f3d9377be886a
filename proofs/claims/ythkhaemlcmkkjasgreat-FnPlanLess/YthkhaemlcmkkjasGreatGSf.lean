/- The specification's bits of a state, and rows of how far states are. The specification's l4Far: how far each state is. The specification's PlanFind. -/
import Derived.Test.YthkhaemlcmkkjasGreatGPf
import Derived.Test.YthkhaemlcmkkjasGreatGStL
import Derived.Test.YthkhaemlcmkkjasGreatSpF
import Derived.Test.YthkhaemlcmkkjasGreatGReg
import Derived.Test.YthkhaemlcmkkjasGreatGRn
import Derived.Test.YthkhaemlcmkkjasGreatStM
import Derived.Test.YthkhaemlcmkkjasGreatOkPure
import Derived.Test.YthkhaemlcmkkjasGreatGIm
import Derived.Test.YthkhaemlcmkkjasGreatGRf
import Derived.Test.YthkhaemlcmkkjasGreatTupG
namespace Go.Proofs.YthkhaemlcmkkjasGreat
set_option linter.unusedVariables false
set_option linter.unusedSimpArgs false
open Go.RowKit Go.Deep

theorem bits_or64 (a b : Nat) (ha : a < 4611686018427387904) (hb : b < 4611686018427387904) : bits .or .i64 (a : Int) (b : Int) = ((a ||| b : Nat) : Int) := by
  have hx : a ||| b < 2 ^ 62 := Nat.or_lt_two_pow (by omega) (by omega)
  show IntKind.i64.wrap ((BitVec.ofInt 64 (a : Int) ||| BitVec.ofInt 64 (b : Int)).toNat : Int) = _
  rw [BitVec.toNat_or, bv_nat a ha, bv_nat b hb, IntKind.wrap_i64]
  omega
theorem wr_pow64 (p : Nat) (hp : p < 16) : IntKind.i64.wrap (2 ^ p) = ((2 ^ p : Nat) : Int) := by
  have h := pow_small p hp
  rw [show ((2 : Int) ^ p) = ((2 ^ p : Nat) : Int) by simp]
  generalize 2 ^ p = t at h ⊢
  rw [IntKind.wrap_i64]
  omega
theorem setBits_lt8 {set : List Int} (h : ∀ z ∈ set, 0 ≤ z ∧ z < 8) : setBits set < 256 := by
  have h1 : setBits set < 2 ^ 8 := by
    apply Nat.lt_pow_two_of_testBit
    intro q hq
    unfold setBits
    rw [test_bits]
    have : q ∉ set.map Int.toNat := fun hm => by
      obtain ⟨z, hz, rfl⟩ := List.mem_map.1 hm
      have := h z hz
      omega
    simpa using this
  exact h1

set_option maxRecDepth 10000 in
set_option maxHeartbeats 2000000 in
theorem l2Bits_any (a : Option Addr) (set : List Int) (c : Nat) (w : World) (h : SetAt w a set) (hz : ∀ z ∈ set, 0 ≤ z ∧ z < 8) :
    Calls Tryz.prog 17 #[.slice a set.length c] w fun e w' => e = .returned (.int .i64 ((setBits set : Nat) : Int)) ∧ Below w.heap.size w w' := by
  obtain ⟨hm, h⟩ := h
  have HZ := hide hz
  clear hz
  go_enter Tryz.func17, Tryz.ntmps17
  go_wp2_with fail
  go_loopw [3, 4] (fun b i wr => ∃ k : Nat, k ≤ set.length ∧ i = .int .i64 k ∧ b = .int .i64 ((setBits (set.take k) : Nat) : Int) ∧ Hid (Below w.heap.size w wr)) (fun _ i _ => set.length - (intOf i).toNat)
  case atStart => exact ⟨0, Nat.zero_le _, rfl, rfl, Below.refl _ _⟩
  case round =>
    rename World => wo
    obtain ⟨k, hk, rfl, rfl, HB⟩ := hrel
    by_cases hlt : k < set.length
    · have j1 : (k : Int) < (set.length : Int) := by omega
      have j0 : (0 : Int) ≤ (k : Int) := by omega
      rcases h with h | ⟨b, o, rfl, hSb, h⟩
      · subst h; simp at hlt
      have c0 := h k hlt
      rw [← (unhide HB).cell (p := ⟨b, _, none⟩) hSb] at c0
      have hmem : set.getD k 0 ∈ set := getD_mem hlt
      have hz := unhide HZ _ hmem
      have hs := setBits_succ set k hlt
      have hb := setBits_lt8 (set := set.take k) (fun z hz => unhide HZ z (List.mem_of_mem_take hz))
      obtain ⟨z, hzz⟩ : ∃ z : Nat, set.getD k 0 = (z : Int) := ⟨(set.getD k 0).toNat, by omega⟩
      rw [hzz] at c0 hs hz
      simp only [Int.toNat_natCast] at hs
      have hp := wr_pow64 z (by omega)
      have hps := pow_small z (by omega)
      have ho := bits_or64 (setBits (set.take k)) (2 ^ z) (by omega) (by omega)
      have HS := hide hs
      have hz64 : (z : Int) < 64 := by omega
      have hz0 : (0 : Int) ≤ (z : Int) := by omega
      generalize setBits (set.take k) = B at *
      generalize 2 ^ z = t at hp ho HS
      clear h hs hmem hzz hps hb hz
      go_wp2_with fail
      go_roundw
      case rel => exact ⟨k + 1, by omega, by go_num, by rw [unhide HS], HB⟩
      case measure => simp [intOf]; omega
    · have j1 : ¬ (k : Int) < (set.length : Int) := by omega
      have hke : set.take k = set := List.take_of_length_le (by omega)
      rw [hke]
      go_wp2_with fail
      go_ret
      exact ⟨rfl, HB⟩

/-- How far each of the first N states is, as the specification keeps it. -/
def farVs (f : Nat → Nat) (N : Nat) : List Value := (List.range N).map fun s => .int .i64 (((f s : Nat) : Int) - 1)
theorem farVs_none (N : Nat) : List.replicate N (Value.int .i64 (-1)) = farVs (fun _ => 0) N := by
  apply List.ext_getElem
  · simp [farVs]
  · intro i h1 h2
    simp [farVs]
theorem farVs_at (f : Nat → Nat) {N i : Nat} (h : i < N) : (farVs f N)[i]? = some (.int .i64 (((f i : Nat) : Int) - 1)) := by simp [farVs, h]
theorem farVs_set (f : Nat → Nat) (N t num : Nat) : (farVs f N).set t (.int .i64 (((num : Nat) : Int) - 1)) = farVs (fun x => if x = t then num else f x) N := by
  apply List.ext_getElem
  · simp [farVs]
  · intro i h1 h2
    rw [List.getElem_set]
    by_cases h : t = i
    · simp [farVs, h]
    · simp [farVs, h, Ne.symm h]
/-- One cell of a row is written anew. -/
theorem row_set {w : World} {B : Nat} {e : TypeId} {g n cap i : Nat} {xs : List Value} (h : w.ownsRow B e 1 (.slice (some ⟨g, 0, none⟩) n cap) n xs) (hi : i < n) (v : Value) : (w.setCell ⟨g, i, none⟩ v).ownsRow B e 1 (.slice (some ⟨g, 0, none⟩) n cap) n (xs.set i v) := by
  obtain ⟨h1, h2⟩ := h
  rcases h2 with ⟨hv, h0⟩ | ⟨g', cap', cur, hv, hB, hc, hcap, hcm, hsz, hx⟩
  · simp at hv
  · simp at hv
    obtain ⟨rfl, rfl⟩ := hv
    refine ⟨by simpa using h1, Or.inr ⟨g, cap, cur.setIfInBounds i v, rfl, hB, blk_set hc i v, hcap, hcm, by simpa using hsz, ?_⟩⟩
    rw [← hx]
    apply List.ext_getElem?
    intro j
    rw [List.getElem?_take, List.getElem?_set, List.getElem?_take]
    simp only [Array.getElem?_toList, Array.getElem?_setIfInBounds, List.length_take, Array.length_toList]
    by_cases hj : j < n * 1
    · rw [if_pos hj]
      by_cases hij : i = j
      · subst hij
        have h3 : i < cur.size := by omega
        simp [h3]
        omega
      · simp [hij, hj]
        try omega
    · rw [if_neg hj]
      have : i ≠ j := by omega
      simp [this, hj]
      try omega
theorem far_cell {w : World} {B : Nat} {g cap N : Nat} {f : Nat → Nat} (h : w.ownsRow B 3 1 (.slice (some ⟨g, 0, none⟩) N cap) N (farVs f N)) {i : Nat} (hi : i < N) : w.cell? ⟨g, i, none⟩ = some (.int .i64 (((f i : Nat) : Int) - 1)) ∧ w.frozen? ⟨g, i, none⟩ = false ∧ g < w.heap.size ∧ B ≤ g := by
  rcases h.2 with ⟨hv, h0⟩ | ⟨g', cap', cur, hv, hB, hc, hcap, _, hsz, hx⟩
  · simp at hv
  · simp at hv
    obtain ⟨rfl, rfl⟩ := hv
    refine ⟨?_, ?_, (Array.getElem?_eq_some_iff.1 hc).1, hB⟩
    · rw [cell_of_row w g i cur _ _ hc]
      have : (cur.toList.take (N * 1))[i]? = (farVs f N)[i]? := by rw [hx]
      rw [List.getElem?_take, if_pos (by omega), farVs_at f hi] at this
      simpa using this
    · exact (CellsOf.frozen ⟨cur, hc⟩ i)
end Go.Proofs.YthkhaemlcmkkjasGreat

namespace Go.Proofs.YthkhaemlcmkkjasGreat
set_option linter.unusedVariables false
set_option linter.unusedSimpArgs false
open Go.RowKit Go.Deep

/-- A state that lies in memory, in a block other than og. -/
def HdrAt (w : World) (og : Nat) (v : Value) (set : List Int) : Prop := ∃ a c, v = .slice a set.length c ∧ (a = none → c = 0) ∧ SetAt w a set ∧ (set ≠ [] → ∀ b o, a = some ⟨b, o, none⟩ → b < og ∨ (b ≠ og ∧ ∃ C, w.heap[b]? = some (.cells C 3 (0, 0))))
theorem HdrAt.grown {w w' : World} {og : Nat} {v : Value} {set : List Int} {r : Option Nat} (h : HdrAt w og v set) (hg : w.grownBy w' r) (hr : ∀ j, r = some j → j = og ∨ (og < j ∧ ∃ C f, w.heap[j]? = some (.cells C 26 f))) : HdrAt w' og v set := by
  obtain ⟨a, c, rfl, h1, ⟨h0, h2⟩, h3⟩ := h
  by_cases hs : set = []
  · exact ⟨a, c, rfl, h1, ⟨h0, Or.inl hs⟩, fun hne => absurd hs hne⟩
  rcases h2 with h2 | ⟨b, o, ha, hb, hc⟩
  · exact absurd h2 hs
  have h4 := h3 hs b o ha
  have hne : some b ≠ r := fun e => by
    rcases hr b e.symm with hj | ⟨hj, C, f, hC⟩
    · rcases h4 with h4 | h4
      · omega
      · exact h4.1 hj
    · rcases h4 with h4 | ⟨_, C', hC'⟩
      · omega
      · rw [hC'] at hC
        simp at hC
  refine ⟨a, c, rfl, h1, ⟨h0, Or.inr ⟨b, o, ha, Nat.lt_of_lt_of_le hb hg.size, fun i hi => ?_⟩⟩, fun _ b' o' ha' => ?_⟩
  · rw [World.cell?_of_block (w := w) (a := ⟨b, o + i, none⟩) (hg.block b hb hne)]
    exact hc i hi
  · rw [ha] at ha'
    simp at ha'
    obtain ⟨rfl, rfl⟩ := ha'
    rcases h4 with h4 | ⟨h4, C, hC⟩
    · exact Or.inl h4
    · exact Or.inr ⟨h4, C, (hg.block b hb hne).trans hC⟩
theorem HdrAt.of_row {B og : Nat} {w : World} {v : Value} {set : List Int} (h : RowI B w v set) (hl : set.length ≤ 1048576) (hB : og < B) : HdrAt w og v set := by
  obtain ⟨a, c, rfl, hset⟩ := RowI.set h hl
  refine ⟨a, c, rfl, fun e => ?_, hset, fun hne b o ha => ?_⟩
  · subst e
    exact row_cap0 h rfl
  · rcases h.2 with ⟨hv, h0⟩ | ⟨g, cap, cur, hv, hg, hc, _⟩
    · exact absurd (List.length_eq_zero_iff.1 h0) hne
    · simp at hv
      rw [ha] at hv
      simp at hv
      obtain ⟨⟨rfl, rfl⟩, rfl⟩ := hv
      exact Or.inr ⟨by omega, cur, hc⟩
/-- States that lie in memory: a row of headers of its own, and each header's state. -/
structure StatesAt (B : Nat) (w : World) (og : Nat) (v : Value) (ss : List Nat) (vs : List Value) : Prop where
  len : vs.length = ss.length
  own : w.ownsRow B 26 1 v ss.length vs
  hdr : ∀ i, i < ss.length → HdrAt w og (vs.getD i undef) (setOf (ss.getD i 0))
theorem StatesAt.grown {B : Nat} {w w' : World} {og : Nat} {v : Value} {ss : List Nat} {vs : List Value} {r : Option Nat} (h : StatesAt B w og v ss vs) (hg : w.grownBy w' r) (hB : og < B) (hr : ∀ j, r = some j → j = og) : StatesAt B w' og v ss vs :=
  ⟨h.len, row_other h.own hg (fun g hgv e => by have := (World.ownsRow.lt h.own g hgv).1; have := hr g e; omega), fun i hi => (h.hdr i hi).grown hg (fun j hj => Or.inl (hr j hj))⟩
theorem StatesAt.on {B : Nat} {w w' : World} {og : Nat} {v : Value} {ss : List Nat} {vs : List Value} (h : StatesAt B w og v ss vs) (hb : Below w.heap.size w w') (hB : og < B) : StatesAt B w' og v ss vs :=
  h.grown (r := none) ⟨hb.os, hb.tape, hb.output, hb.size, fun b hb' _ => hb.block b hb'⟩ hB (fun j e => by cases e)
theorem StatesAt.cell {B : Nat} {w : World} {og : Nat} {v : Value} {ss : List Nat} {vs : List Value} (h : StatesAt B w og v ss vs) {i : Nat} (hi : i < ss.length) : ∃ g cap, v = .slice (some ⟨g, 0, none⟩) ss.length cap ∧ B ≤ g ∧ g < w.heap.size ∧ w.cell? ⟨g, i, none⟩ = some (vs.getD i undef) := by
  rcases h.own.2 with ⟨_, h0⟩ | ⟨g, cap, cur, hv, hB, hc, hcap, _, hsz, hx⟩
  · omega
  · refine ⟨g, cap, hv, hB, (Array.getElem?_eq_some_iff.1 hc).1, ?_⟩
    have hiv : i < vs.length := by rw [h.len]; exact hi
    have e : cur.toList[i]? = some (vs.getD i undef) := by
      have : (cur.toList.take (ss.length * 1))[i]? = vs[i]? := by rw [hx]
      rw [List.getElem?_take, if_pos (by omega)] at this
      rw [this]
      simp [List.getD, hiv]
    simp only [World.cell?, hc]
    simpa using e
theorem StatesAt.slice {B : Nat} {w : World} {og : Nat} {v : Value} {ss : List Nat} {vs : List Value} (h : StatesAt B w og v ss vs) : ∃ a c, v = .slice a ss.length c := by
  rcases h.own.2 with ⟨hv, h0⟩ | ⟨g, cap, cur, hv, _⟩
  · exact ⟨none, 0, by rw [hv, h0]⟩
  · exact ⟨_, _, hv⟩
theorem StatesAt.snoc {B : Nat} {w w' : World} {og : Nat} {v v' u : Value} {ss : List Nat} {vs : List Value} {t : Nat} (h : StatesAt B w og v ss vs) (hB : og < B) (hu : HdrAt w og u (setOf t)) (hg : w.grownBy w' v.ownBlock) (ho : w'.ownsRow B 26 1 v' (ss.length + 1) (vs ++ [u])) : StatesAt B w' og v' (ss ++ [t]) (vs ++ [u]) := by
  have hr : ∀ j, v.ownBlock = some j → j = og ∨ (og < j ∧ ∃ C f, w.heap[j]? = some (.cells C 26 f)) := fun j hj => by
    obtain ⟨c, hc⟩ := row_ty h.own j hj
    have := (World.ownsRow.lt h.own j hj).1
    exact Or.inr ⟨by omega, c, _, hc⟩
  refine ⟨by simp [h.len], by simpa using ho, fun i hi => ?_⟩
  simp only [List.length_append, List.length_singleton] at hi
  by_cases hlt : i < ss.length
  · have e1 : (vs ++ [u]).getD i undef = vs.getD i undef := by simp [List.getD, List.getElem?_append_left, h.len, hlt]
    have e2 : (ss ++ [t]).getD i 0 = ss.getD i 0 := by simp [List.getD, List.getElem?_append_left, hlt]
    rw [e1, e2]
    exact (h.hdr i hlt).grown hg hr
  · have e0 : i = ss.length := by omega
    have e1 : (vs ++ [u]).getD i undef = u := by simp [List.getD, e0, ← h.len]
    have e2 : (ss ++ [t]).getD i 0 = t := by simp [List.getD, e0]
    rw [e1, e2]
    exact hu.grown hg hr
theorem StatesAt.nil {B : Nat} {w : World} {og g : Nat} (hc : w.heap[g]? = some (.cells #[] 26 (0, 0))) (hB : B ≤ g) : StatesAt B w og (.slice (some ⟨g, 0, none⟩) 0 0) [] [] :=
  ⟨rfl, ⟨rfl, Or.inr ⟨g, 0, #[], rfl, hB, hc, Nat.le_refl _, Nat.zero_le _, rfl, rfl⟩⟩, fun i hi => absurd hi (Nat.not_lt_zero _)⟩
theorem succ_from {l : List PackD} {room : Int} {s : Nat} (h : GoodS l room s) : succB l room s = (fromL l room (setOf s)).map (fun st => setBits ((implDo l room (setOf s) st).getD [])) := by
  rw [succ_eq h, from_moves h.2, h.bits, List.map_map]
  apply List.map_congr_left
  intro m hm
  obtain ⟨hm1, hm2⟩ := List.mem_filter.1 hm
  show behindN s m = setBits ((implDo l room (setOf s) m.step).getD [])
  rw [do_forth h hm1, hm2, if_pos rfl, Option.getD_some, (good_forth h hm1 hm2).bits]
theorem from_some {l : List PackD} {room : Int} {s : Nat} (h : GoodS l room s) {st : StepD} (hm : st ∈ fromL l room (setOf s)) : ∃ t, implDo l room (setOf s) st = some (setOf t) ∧ GoodS l room t := by
  rw [from_moves h.2] at hm
  obtain ⟨m, hm0, rfl⟩ := List.mem_map.1 hm
  obtain ⟨hm1, hm2⟩ := List.mem_filter.1 hm0
  rw [h.bits] at hm2
  exact ⟨behindN s m, by rw [do_forth h hm1, hm2, if_pos rfl], good_forth h hm1 hm2⟩
/-- A step is tried. -/
def visitS (l : List PackD) (room : Int) (num s : Nat) (p : (Nat → Nat) × List Nat) (st : StepD) : (Nat → Nat) × List Nat := visit num p (setBits ((implDo l room (setOf s) st).getD []))
theorem fold_visitS {l : List PackD} {room : Int} {num s : Nat} (h : GoodS l room s) (p : (Nat → Nat) × List Nat) : (fromL l room (setOf s)).foldl (visitS l room num s) p = (succB l room s).foldl (visit num) p := by
  rw [succ_from h, List.foldl_map]
  rfl
theorem good_places {l : List PackD} {room : Int} {s : Nat} (h : GoodS l room s) : ∀ z ∈ setOf s, 0 ≤ z ∧ z < 8 := fun z hz => by
  have hf := okz_form h.2
  have := ((form_iff h.repo).1 hf).2 z hz
  have := h.l8
  omega
theorem good_short {l : List PackD} {room : Int} {s : Nat} (h : GoodS l room s) : (setOf s).length ≤ 8 := set_short8 (okz_form h.2)
/-- All along the statement that asks for all steps. -/
structure CFr (W : World) (ss : List StepD) (b : Bool) (us : List Value) (x : World) : Prop where
  below : Below W.heap.size W x
  row : ∀ y, us = [y] → x.ownsRow W.heap.size 50 3 y ss.length (stepVs ss)
theorem CFr.on {W : World} {ss : List StepD} {b b' : Bool} {us : List Value} {x y : World} (h : CFr W ss b us x) (hb : Below x.heap.size x y) : CFr W ss b' us y :=
  ⟨h.below.trans (hb.mono h.below.size), fun z hz => ownsRow_on (h.row z hz) hb⟩
/-- What the operations of 'set, _ := StepDo(r, row[i], steps[k])' leave. -/
def TS (P RV : Value) (i : Int) (RA H LV : Value) (k : Int) (A S : Value) (B : Nat) (ds : Option (List Int)) (n : Nat) (v : Value) (x : World) : Prop := match n with
  | 0 => v = P
  | 1 => v = RV
  | 2 => v = .int .i64 i
  | 3 => v = RA
  | 4 => v = H
  | 5 => v = LV
  | 6 => v = .int .i64 k
  | 7 => v = A
  | 8 => v = S
  | 9 => ∃ y, v = .tuple #[y, .bool ds.isSome] ∧ RowI B x y (ds.getD [])
  | 10 => ∃ y, v = .tuple #[y, .bool ds.isSome] ∧ RowI B x y (ds.getD [])
  | 11 => RowI B x v (ds.getD [])
  | 12 => v = .bool ds.isSome
  | 13 => RowI B x v (ds.getD [])
  | _ => True
theorem TS_on {P RV : Value} {i : Int} {RA H LV : Value} {k : Int} {A S : Value} {B : Nat} {ds : Option (List Int)} {n : Nat} {v : Value} {x y : World} (h : TS P RV i RA H LV k A S B ds n v x) (hb : Below x.heap.size x y) : TS P RV i RA H LV k A S B ds n v y := by
  unfold TS at h ⊢
  split at h
  · exact h
  · exact h
  · exact h
  · exact h
  · exact h
  · exact h
  · exact h
  · exact h
  · exact h
  · obtain ⟨z, e, r⟩ := h; exact ⟨z, e, ownsRow_on r hb⟩
  · obtain ⟨z, e, r⟩ := h; exact ⟨z, e, ownsRow_on r hb⟩
  · exact ownsRow_on h hb
  · exact h
  · exact ownsRow_on h hb
  · trivial
set_option maxRecDepth 100000 in
set_option maxHeartbeats 16000000 in
theorem l4Far_any (a : Option Addr) (l : List PackD) (cap : Nat) (room : Int) (sa : Option Addr) (set : List Int) (sc : Nat) (w : World) (h : PacksAt (Old w) w a l) (hca : CapsAt w a l) (hs : SetAt w sa set) (hsc : sa = none → sc = 0) (hok : okZ l room set = true) :
    Calls Tryz.prog 16 #[.agg #[.slice a l.length cap, .int .i64 room], .slice sa set.length sc] w fun e w' => (∃ g c, e = .returned (.slice (some ⟨g, 0, none⟩) (2 ^ l.length) c) ∧ w'.ownsRow w.heap.size 3 1 (.slice (some ⟨g, 0, none⟩) (2 ^ l.length) c) (2 ^ l.length) (farVs (farF (succB l room) (setBits set)) (2 ^ l.length))) ∧ Below w.heap.size w w' := by
  obtain ⟨i0, hi, hz0, hz1, hz2⟩ := info_parts Tryz.infoInt'
  obtain ⟨j0, hj, hy0, hy1, hy2⟩ := info_parts Tryz.infoInts
  obtain ⟨hgood, hset⟩ := good_of hok
  have hl8 := hgood.l8
  have hzs : ∀ z ∈ set, 0 ≤ z ∧ z < 8 := by rw [← hset]; exact good_places hgood
  have HP := hide h
  have HCA := hide hca
  have HS := hide hs
  have HSC := hide hsc
  have HBITS := hide (fun x (hx : SetAt x sa set) => l2Bits_any sa set sc x hx hzs)
  have hs0 := hgood.1
  have HSET := hide hset
  have HGA := hide hgood
  clear h hca hs hsc hok hzs hgood hset
  generalize hs0e : setBits set = s0 at *
  have HS0E := hide hs0e
  clear hs0e
  have hpw := shl_one l.length hl8
  have hpp : 0 < 2 ^ l.length := Nat.two_pow_pos _
  have hshl : IntKind.i64.wrap (2 ^ l.length) = ((2 ^ l.length : Nat) : Int) := by
    rw [show ((2 : Int) ^ l.length) = ((2 ^ l.length : Nat) : Int) by simp]
    generalize 2 ^ l.length = N0 at hpw ⊢
    rw [IntKind.wrap_i64]
    omega
  have hll : (l.length : Int) < 64 := by omega
  have HLT : Hid (∀ t, GoodS l room t → t < 2 ^ l.length) := fun t ht => ht.1
  generalize hN : 2 ^ l.length = N at *
  have HN := hide hN
  clear hN
  go_enter Tryz.func16, Tryz.ntmps16
  go_upto_region 2 with fail
  obtain ⟨w2, hw2⟩ : ∃ w2, w2 = (w.alloc (.cells #[.slice a l.length cap, .int .i64 room] 25)).alloc (.cells #[] 3) := ⟨_, rfl⟩
  rw [← hw2]
  have b2 : Below w.heap.size w w2 := by rw [hw2]; exact ((Below.refl _ _).alloc (Nat.le_refl _) _).alloc (by simp) _
  have z2 : w2.heap.size = w.heap.size + 1 + 1 := by rw [hw2]; simp
  have x0 : w2.cell? ⟨w.heap.size, 0, none⟩ = some (.slice a l.length cap) := by rw [hw2]; simp
  have x1 : w2.cell? ⟨w.heap.size, 1, none⟩ = some (.int .i64 room) := by rw [hw2]; simp
  have own0 : w2.ownsRow (w.heap.size + 1) 3 1 (.slice (some ⟨w.heap.size + 1, 0, none⟩) 0 0) 0 (List.replicate 0 (.int .i64 (-1))) := by
    refine ⟨rfl, Or.inr ⟨w.heap.size + 1, 0, #[], rfl, Nat.le_refl _, ?_, Nat.zero_le _, Nat.zero_le _, rfl, rfl⟩⟩
    rw [hw2]
    have := blk_alloc_new (w.alloc (.cells #[.slice a l.length cap, .int .i64 room] 25)) (.cells #[] 3)
    simpa using this
  have HB2 := hide b2
  have HO0 := hide own0
  clear hw2 b2 own0
  go_wp2_with fail
  go_loopw [5, 6] (fun v i wr => ∃ k : Nat, k ≤ N ∧ i = .int .i64 k ∧ Hid (wr.ownsRow (w.heap.size + 1) 3 1 v k (List.replicate k (.int .i64 (-1)))) ∧ Hid (Below (w.heap.size + 1) w2 wr)) (fun _ i _ => N - (intOf i).toNat)
  case atStart => exact ⟨0, Nat.zero_le _, rfl, unhide HO0, Below.refl _ _⟩
  case round =>
    rename World => wo
    obtain ⟨k, hk, rfl, HO, HB⟩ := hrel
    have q0 := x0
    have q1 := x1
    rw [← (unhide HB).cell (p := ⟨w.heap.size, _, none⟩) (by simp)] at q0 q1
    have zo := (unhide HB).size
    by_cases hlt : k < N
    · have j1 : (k : Int) < (N : Int) := by omega
      have hown := unhide HO
      go_wp2_with (first
        | (at_builtin; refine wpList_append_own _ rfl _ _ 26 rfl (w.heap.size + 1) 3 i0 (.int .i64 0) 1 8 Tryz.underlying26 hi hz0 hz1 hz2 rfl (by decide) _ _ _ rfl (hown.alloc _) ⟨wo.heap.size, 0, none⟩ 1 1 [.int .i64 (-1)] rfl rfl ?c1 ?c2 ?c3 ?c4 ?c5 ?_))
      case c1 =>
        intro j u hj
        match j, hj with
        | 0, hj => simp at hj; subst hj; simp [Addr.add]
      case c2 => intro u hu; simp at hu; subst hu; rfl
      case c3 => unfold maxLen; omega
      case c4 => omega
      case c5 => simp; omega
      intro v' w3 hown' hgrow _
      have hb1 := ((unhide HB).alloc (by omega) (.cells #[.int .i64 (-1)] 3)).grown hgrow (by simp; omega) (fun j hj => (World.ownsRow.lt hown j hj).1)
      have HO3 : Hid (w3.ownsRow (w.heap.size + 1) 3 1 v' (k + 1) (List.replicate (k + 1) (.int .i64 (-1)))) := by
        show World.ownsRow _ _ _ _ _ _ _
        rw [List.replicate_succ']
        exact hown'
      have HB3 := hide hb1
      clear hown hown' hgrow hb1
      go_wp2_with fail
      go_roundw
      case rel => exact ⟨k + 1, by omega, by go_num, HO3, HB3⟩
      case measure => simp [intOf]; omega
    · have hke : k = N := by omega
      subst hke
      have j1 : ¬ (k : Int) < (k : Int) := by omega
      have how := unhide HO
      rw [farVs_none] at how
      obtain ⟨og, oc, rfl⟩ : ∃ og oc, u5 = .slice (some ⟨og, 0, none⟩) k oc := by
        rcases how.2 with ⟨_, h0⟩ | ⟨g, c, cur, hv, _⟩
        · omega
        · exact ⟨g, c, hv⟩
      obtain ⟨c0, f0, hog, hogB⟩ := far_cell how hs0
      have HOW := hide how
      have hsi : (s0 : Int) < (k : Int) := by omega
      have hsi0 : (0 : Int) ≤ (s0 : Int) := by omega
      have HBW := hide ((unhide HB2).trans ((unhide HB).mono (by omega)))
      have HCB := hide (unhide HBITS wo ((unhide HS).on (unhide HBW)))
      clear how c0 f0 HO hlt
      go_wp2_with fail
      refine (unhide HCB).mono ?_
      rintro e w3 ⟨rfl, b3⟩
      have HB3 := hide ((unhide HB).trans (b3.mono (by omega)))
      have ho3 := ownsRow_on (unhide HOW) b3
      obtain ⟨c0, f0, hog3, _⟩ := far_cell ho3 hs0
      have hst := row_set ho3 hs0 (.int .i64 (((1 : Nat) : Int) - 1))
      rw [farVs_set] at hst
      have HST := hide hst
      clear b3 HCB HB HOW ho3 hst q0 q1 HO0
      go_wp2_with fail
      obtain ⟨w4, hw4⟩ : ∃ w4, w4 = w3.setCell ⟨og, s0, none⟩ (.int .i64 0) := ⟨_, rfl⟩
      have hst4 : w4.ownsRow (w.heap.size + 1) 3 1 (.slice (some ⟨og, 0, none⟩) k oc) k (farVs (rowsN (succB l room) s0 0).1 k) := by rw [hw4]; exact unhide HST
      have hb4 : Below (w.heap.size + 1) w2 w4 := by rw [hw4]; exact (unhide HB3).grown (grown_set (World.grownBy.refl w3 (some og)) _) (by have := (unhide HB3).size; omega) (fun j hj => by simp at hj; omega)
      have hog4 : og < w4.heap.size := by rw [hw4, nblk_setCell]; exact hog3
      rw [← hw4]
      have HH4 := hide (show HdrAt w4 og (.slice sa set.length sc) set from ⟨sa, sc, rfl, unhide HSC, (unhide HS).on ((unhide HB2).trans (hb4.mono (by omega))), fun hne b o hb => by
        rcases (unhide HS).2 with hnil | ⟨b', o', hb', hlt, _⟩
        · exact absurd hnil hne
        · rw [hb] at hb'
          simp at hb'
          exact Or.inl (by omega)⟩)
      have hwz : w4.heap.size = w3.heap.size := by rw [hw4, nblk_setCell]
      have HF4 := hide hst4
      have HB4 := hide hb4
      clear hw4 hst4 hb4 HST HB3 c0 f0 hog3
      have z4 := (unhide HB4).size
      have hr6 : StatesAt (og + 1) (w4.alloc (.cells #[.slice sa set.length sc] 26)) og (.slice (some ⟨w4.heap.size, 0, none⟩) 1 1) (rowsN (succB l room) s0 0).2 [.slice sa set.length sc] := by
        refine ⟨rfl, ⟨rfl, Or.inr ⟨w4.heap.size, 1, #[.slice sa set.length sc], rfl, by omega, blk_alloc_new _ _, Nat.le_refl _, by simp [maxLen], rfl, rfl⟩⟩, fun i hi => ?_⟩
        have e : i = 0 := by simp [rowsN] at hi; omega
        subst e
        show HdrAt _ og (.slice sa set.length sc) (setOf s0)
        have e2 : setOf s0 = set := unhide HSET
        rw [e2]
        exact (unhide HH4).grown (World.grownBy_alloc w4 _ none) (fun j e => by cases e)
      rw [hwz] at hr6
      have HR6 := hide hr6
      clear hwz
      have HF6 := hide (ownsRow_on (unhide HF4) ((Below.refl w4.heap.size w4).alloc (Nat.le_refl _) (.cells #[.slice sa set.length sc] 26)))
      have HB6 := hide ((unhide HB4).alloc (by omega) (.cells #[.slice sa set.length sc] 26))
      clear hr6 HH4 HF4 HB4
      go_wp2_with fail
      go_loopw [7, 8] (fun rv fv wr => ∃ (num M : Nat) (vs : List Value), fv = .int .i64 num ∧ Hid (num = M + 1) ∧ Hid ((rowsN (succB l room) s0 M).2.length ≤ 256) ∧ M ≤ 257 ∧ Hid (wr.ownsRow (w.heap.size + 1) 3 1 (.slice (some ⟨og, 0, none⟩) k oc) k (farVs (rowsN (succB l room) s0 M).1 k)) ∧ Hid (StatesAt (og + 1) wr og rv (rowsN (succB l room) s0 M).2 vs) ∧ Hid (Below (w.heap.size + 1) w2 wr)) (fun _ fv _ => 400 - (intOf fv).toNat)
      case atStart => exact ⟨1, 0, _, rfl, rfl, by show _ ≤ _; simp [rowsN], by omega, HF6, HR6, HB6⟩
      case round =>
        clear HR6 HF6 HB6
        rename World => wo
        obtain ⟨num, M, vs, rfl, HNUM, HRL, hM, HF, HR, HB⟩ := hrel
        have hn1 : 1 ≤ num ∧ num ≤ 258 := by have := unhide HNUM; omega
        have HFEW := hide (fun hne => rowsN_few (a := s0) (succ_lt l room) M hne)
        have HALL := hide (rowsN_all (P := GoodS l room) (unhide HGA) (fun s hs t ht => succ_good s hs t ht) M)
        have HDONE := hide (fun hd => far_done (a := s0) (succ_lt l room) (n := M) hd)
        have HNX : Hid (rowsN (succB l room) s0 (M + 1) = (((rowsN (succB l room) s0 M).2.flatMap (succB l room)).foldl (visit (M + 2)) ((rowsN (succB l room) s0 M).1, []))) := rfl
        obtain ⟨f, hf⟩ : ∃ f, f = (rowsN (succB l room) s0 M).1 := ⟨_, rfl⟩
        obtain ⟨row, hrow⟩ : ∃ row, row = (rowsN (succB l room) s0 M).2 := ⟨_, rfl⟩
        rw [← hf, ← hrow] at HNX
        rw [← hf] at HF HFEW HDONE
        rw [← hrow] at HR HFEW HALL HDONE HRL
        clear hf hrow
        have zo := (unhide HB).size
        by_cases hem : row = []
        · have hlt0 : ¬ (0 : Int) < (row.length : Int) := by rw [hem]; simp
          have hff := unhide HDONE hem
          obtain ⟨ra, rc, rfl⟩ := (unhide HR).slice
          have HF2 := hide (show wo.ownsRow (w.heap.size + 1) 3 1 (.slice (some ⟨og, 0, none⟩) k oc) k (farVs (farF (succB l room) s0) k) by rw [← hff]; exact unhide HF)
          have HB7 := hide ((unhide HB2).trans ((unhide HB).mono (by omega)))
          clear hff HDONE HNX HFEW HALL HF HR hem HB
          go_wp2_with fail
          go_ret
          exact ⟨⟨og, oc, rfl, row_down (unhide HF2) (by omega)⟩, unhide HB7⟩
        · have hposn : 0 < row.length := by
            have : row.length ≠ 0 := fun e => hem (List.length_eq_zero_iff.1 e)
            omega
          have hpos : (0 : Int) < (row.length : Int) := by omega
          have hNf := unhide HFEW hem
          have hMl : M ≤ 256 := by omega
          obtain ⟨ra, rc, rfl⟩ := (unhide HR).slice
          have hrl : row.length ≤ 256 := unhide HRL
          have hogo : og < wo.heap.size := (far_cell (unhide HF) hs0).2.2.1
          clear hem HFEW HDONE hNf
          have HN1 := hide (show StatesAt wo.heap.size (wo.alloc (.cells #[] 26)) og (.slice (some ⟨wo.heap.size, 0, none⟩) 0 0) [] [] from StatesAt.nil (blk_alloc_new _ _) (Nat.le_refl _))
          go_wp2_with fail
          go_loopw [9, 10] (fun xv iv ws => ∃ (i : Nat) (us : List Value), i ≤ row.length ∧ iv = .int .i64 i ∧ Hid (ws.ownsRow (w.heap.size + 1) 3 1 (.slice (some ⟨og, 0, none⟩) k oc) k (farVs (((row.take i).flatMap (succB l room)).foldl (visit (num + 1)) (f, [])).1 k)) ∧ Hid (PInv (((row.take i).flatMap (succB l room)).foldl (visit (num + 1)) (f, [])) 0) ∧ Hid (StatesAt wo.heap.size ws og xv (((row.take i).flatMap (succB l room)).foldl (visit (num + 1)) (f, [])).2 us) ∧ Hid (wo.grownBy ws (some og))) (fun _ i _ => row.length - (intOf i).toNat)
          case atStart => exact ⟨0, [], Nat.zero_le _, rfl, World.ownsRow.alloc (unhide HF) _, PInv.start (by have := unmet_le 256 f; omega), HN1, World.grownBy_alloc wo _ (some og)⟩
          case round =>
            clear HN1
            rename World => ws
            obtain ⟨i, us1, hi, rfl, HF1, HI1, HO1, HG1⟩ := hrel
            by_cases hlt : i < row.length
            · have j1 : (i : Int) < (row.length : Int) := by omega
              have ji0 : (0 : Int) ≤ (i : Int) := by omega
              obtain ⟨rg, rgc, hrv, hrg1, hrg2, rc0⟩ := (unhide HR).cell hlt
              simp at hrv
              obtain ⟨rfl, rfl⟩ := hrv
              have HRG := hide rc0
              have HGS := HG1
              have zs := (unhide HG1).size
              have hh0 := (unhide HR).hdr i hlt
              have hh := ((unhide HR).hdr i hlt).grown (unhide HG1) (fun j hj => Or.inl (by simpa using hj.symm))
              have hgs := unhide HALL (row.getD i 0) (getD_mem (d := 0) hlt)
              have hfl := fold_flat (succB l room) (num + 1) (f, []) row hlt
              obtain ⟨s, hs⟩ : ∃ s, s = row.getD i 0 := ⟨_, rfl⟩
              rw [← hs] at hh hgs hfl hh0
              clear hs
              obtain ⟨hda, hdc, hhv, hhc, hset2, _⟩ := hh
              rw [hhv] at rc0 HRG hh0
              rw [← World.cell?_of_block (w := wo) (a := ⟨rg, i, none⟩) ((unhide HG1).block rg hrg2 (by simp; omega))] at rc0
              have hbs := (unhide HB).grown (unhide HG1) (by omega) (fun j hj => by simp at hj; omega)
              have hltw : w.heap.size < ws.heap.size := by have := hbs.size; omega
              have hrgs : rg < ws.heap.size := by omega
              have q0 := x0
              have q1 := x1
              rw [← hbs.cell (p := ⟨w.heap.size, _, none⟩) (by simp)] at q0 q1
              have hbw := (unhide HB2).trans (hbs.mono (by omega))
              obtain ⟨p, hp⟩ : ∃ p, p = ((row.take i).flatMap (succB l room)).foldl (visit (num + 1)) (f, []) := ⟨_, rfl⟩
              rw [← hp] at HF1 HI1 HO1 hfl
              clear hp
              have hsome := fun st hm => from_some (st := st) hgs hm
              have hfold := fold_visitS (num := num + 1) hgs p
              have hfew := from_few l room (setOf s)
              have hshort := good_short hgs
              obtain ⟨L, hL⟩ : ∃ L, L = fromL l room (setOf s) := ⟨_, rfl⟩
              have hsf := fun x (hx : Below ws.heap.size ws x) => specStepFrom_any a l cap room hda (setOf s) hdc x ((unhide HP).on (hbw.trans (hx.mono hbw.size))) ((unhide HCA).on (hbw.trans (hx.mono hbw.size))) (hset2.on hx) hhc (by omega)
              rw [← hL] at hsf hsome hfold hfew
              have HFS := hide (show L.foldl (visitS l room (num + 1) s) p = ((row.take (i + 1)).flatMap (succB l room)).foldl (visit (num + 1)) (f, []) by rw [hfold, hfl])
              have hdo := fun st x (hx : Below (w.heap.size + 1) w2 x) (hset3 : SetAt x hda (setOf s)) => specStepDo_full a l cap room hda (setOf s) hdc st x ((unhide HP).on ((unhide HB2).trans (hx.mono (by omega)))) ((unhide HCA).on ((unhide HB2).trans (hx.mono (by omega)))) hset3 hhc
              simp only [do_same] at hdo
              have HDOA := hide hdo
              have HSOME := hide hsome
              have HSF := hide hsf
              have HHD := hide hh0
              have hsteps := stepsL_few l room
              have hLl : L.length ≤ 100 := by omega
              clear hdo hsome hsf hh0 hset2 hhv hfl hfold hfew hL hbw hgs
              have HSE : Hid (setOf s = setOf s) := rfl
              generalize hSg : setOf s = S at *
              replace HSE : Hid (setOf s = S) := hSg
              clear hSg
              go_upto_region 15 with fail
              refine wp_region_mix (k := 100) 6 [5] [.agg #[.slice a l.length cap, .int .i64 room], .slice (some ⟨rg, 0, none⟩) row.length rc, .int .i64 (i : Int), .pointer (some ⟨rg, i, none⟩), .slice hda S.length hdc, undef] (CFr ws L) (by kernel_rfl) (by kernel_rfl) (by kernel_rfl) (by kernel_rfl) (by kernel_rfl) (by kernel_rfl) ⟨(Below.refl _ _).drew, (fun _ h => by cases h)⟩ ?_ ?_ ?_
              · intro full hfull ii oo hi hns ho x fl us hC hb
                simp [putAll, slotOf, Act.put] at hfull
                subst hfull
                have bx := hC.below
                rw [← bx.cell (p := ⟨w.heap.size, _, none⟩) (by simp; omega)] at q0 q1
                rw [← bx.cell (p := ⟨rg, _, none⟩) (by simp; omega)] at rc0
                have hC0 := hC.on (b' := fl) (Below.refl _ _)
                match ii with
                | 0 => simp at ho; subst ho; simp [gwp, Region.wanted, yielded]; go_simp; first | done | exact hC0 | exact ⟨rfl, hC0⟩ | (simp; exact hC0)
                | 1 => simp at ho; subst ho; simp [gwp, Region.wanted, yielded]; go_simp; first | done | exact hC0 | exact ⟨rfl, hC0⟩ | (simp; exact hC0)
                | 2 => simp at ho; subst ho; simp [gwp, Region.wanted, yielded]; go_simp; first | done | exact hC0 | exact ⟨rfl, hC0⟩ | (simp; exact hC0)
                | 3 => simp at ho; subst ho; simp [gwp, Region.wanted, yielded]; go_simp; first | done | exact hC0 | exact ⟨rfl, hC0⟩ | (simp; exact hC0)
                | 4 => simp at ho; subst ho; simp [gwp, Region.wanted, yielded]; go_simp; first | done | exact hC0 | exact ⟨rfl, hC0⟩ | (simp; exact hC0)
                | 5 => simp at hns
                | ii + 6 => omega
              · intro full hfull us j hj oo ho x fl hC
                simp [putAll, slotOf, Act.put] at hfull
                subst hfull
                match us with
                | [] =>
                  simp at hj
                  subst hj
                  simp at ho
                  subst ho
                  simp [gwp, Region.wanted, yielded, putP]
                  go_simp
                  refine (unhide HSF x hC.below).mono ?_
                  rintro e y ⟨⟨z, rfl, hr⟩, hb2⟩
                  go_simp
                  have hC2 := hC.on (b' := fl) hb2
                  refine ⟨hC2.below, fun u hu => ?_⟩
                  cases hu
                  exact row_down hr hC.below.size
                | _ :: _ => simp at hj
              intro full hfull us wx hus hC
              simp [putAll, slotOf, Act.put] at hfull
              subst hfull
              match us, hus with
              | [y], _ =>
              have bx := hC.below
              have hrow := hC.row y rfl
              clear hC
              simp [putP, slotOf, Act.put]
              obtain ⟨pa, lc, rfl, _, _, _⟩ := StepsAt.of_row hrow (by omega)
              have HSR := hide hrow
              have HGx := hide (grown_below (unhide HG1) bx)
              have HFx := hide (ownsRow_on (unhide HF1) bx)
              have HOx := hide ((unhide HO1).on bx hogo)
              clear hrow bx HSF HF1 HO1 HG1 q0 q1 rc0 hbs
              go_wp2_with fail
              go_loopw [9, 12] (fun xv kv wt => ∃ (k2 : Nat) (us2 : List Value), k2 ≤ L.length ∧ kv = .int .i64 k2 ∧ Hid (wt.ownsRow (w.heap.size + 1) 3 1 (.slice (some ⟨og, 0, none⟩) k oc) k (farVs ((L.take k2).foldl (visitS l room (num + 1) s) p).1 k)) ∧ Hid (PInv ((L.take k2).foldl (visitS l room (num + 1) s) p) 0) ∧ Hid (StatesAt wo.heap.size wt og xv ((L.take k2).foldl (visitS l room (num + 1) s) p).2 us2) ∧ Hid (wt.ownsRow ws.heap.size 50 3 (.slice pa L.length lc) L.length (stepVs L)) ∧ Hid (wo.grownBy wt (some og))) (fun _ kv _ => L.length - (intOf kv).toNat)
              case atStart => exact ⟨0, us1, Nat.zero_le _, rfl, HFx, HI1, HOx, HSR, HGx⟩
              case round =>
                clear HFx HI1 HOx HSR HGx
                rename World => wt
                obtain ⟨k2, us2, hk2, rfl, HF2, HI2, HO2, HSR, HG2⟩ := hrel
                have hbt := (unhide HB).grown (unhide HG2) (by omega) (fun j hj => by simp at hj; omega)
                by_cases hlt2 : k2 < L.length
                · have jk1 : (k2 : Int) < (L.length : Int) := by omega
                  have jk0 : (0 : Int) ≤ (k2 : Int) := by omega
                  obtain ⟨a1, c1', e1, _, _, hS1⟩ := StepsAt.of_row (unhide HSR) (by omega)
                  simp at e1
                  obtain ⟨rfl, rfl⟩ := e1
                  rcases hS1.2 with hnil | ⟨pb, po, rfl, hpbt, hrk⟩
                  · rw [hnil] at hlt2; simp at hlt2
                  obtain ⟨c0, c1, c2⟩ := hrk k2 hlt2
                  have htk := fold_take (visitS l room (num + 1) s) dStep p L hlt2
                  have hmem : L.getD k2 dStep ∈ L := getD_mem (d := dStep) hlt2
                  obtain ⟨st, hst⟩ : ∃ st, st = L.getD k2 dStep := ⟨_, rfl⟩
                  rw [← hst] at c0 c1 c2 htk hmem
                  clear hst hrk hS1
                  obtain ⟨t, himp, hgt⟩ := unhide HSOME st hmem
                  obtain ⟨q, hq⟩ : ∃ q, q = (L.take k2).foldl (visitS l room (num + 1) s) p := ⟨_, rfl⟩
                  rw [← hq] at HF2 HI2 HO2 htk
                  clear hq
                  replace htk : (L.take (k2 + 1)).foldl (visitS l room (num + 1) s) p = visit (num + 1) q t := by
                    rw [htk]
                    unfold visitS
                    rw [unhide HSE, himp, Option.getD_some, hgt.bits]
                  have rc0 := unhide HRG
                  rw [← World.cell?_of_block (w := wo) (a := ⟨rg, i, none⟩) ((unhide HG2).block rg hrg2 (by simp; omega))] at rc0
                  have hrgt : rg < wt.heap.size := by have := (unhide HG2).size; omega
                  have q0 := x0
                  have q1 := x1
                  rw [← hbt.cell (p := ⟨w.heap.size, _, none⟩) (by simp)] at q0 q1
                  have hltk : w.heap.size < wt.heap.size := by have := hbt.size; omega
                  obtain ⟨a2, c2', e2, _, hset4, _⟩ := (unhide HHD).grown (unhide HG2) (fun j hj => Or.inl (by simpa using hj.symm))
                  simp at e2
                  obtain ⟨rfl, rfl⟩ := e2
                  have HDO := hide (fun x (hx : Below wt.heap.size wt x) => unhide HDOA st x (hbt.trans (hx.mono (by have := hbt.size; omega))) (hset4.on hx))
                  have hplt := good_places hgt
                  have htN := unhide HLT t hgt
                  have htl := good_short hgt
                  have HBT := hide hgt.bits
                  have HHT := hide htk
                  generalize hTg : setOf t = T at himp hplt HBT htl
                  have HTG := hide hTg
                  clear hTg
                  rw [himp] at HDO
                  obtain ⟨ds, hds⟩ : ∃ ds, ds = some T := ⟨_, rfl⟩
                  rw [← hds] at HDO
                  have HDS := hide hds
                  clear hds himp hmem htk hgt hset4 hbt
                  clear HSOME
                  have HAUX := hide (And.intro hogo (And.intro htl (And.intro hplt (And.intro htN (And.intro hn1 (And.intro hk2 (And.intro hLl (And.intro hi (And.intro hlt2 (And.intro hlt (And.intro hpw hogB)))))))))))
                  have HINF := hide (And.intro hj (And.intro hy0 (And.intro hy1 hy2)))
                  clear hogo htl hplt htN hn1 hk2 hLl hi hlt2 hlt hj hy0 hy1 hy2
                  try clear x0
                  try clear x1
                  try clear z2
                  try clear hs0
                  try clear hpp
                  try clear hshl
                  try clear hll
                  try clear hsi
                  try clear hsi0
                  try clear hM
                  try clear hMl
                  try clear hrl
                  try clear hsteps
                  try clear hshort
                  try clear hl8
                  try clear hpw
                  try clear zs
                  try clear hrgs
                  try clear hrg1
                  try clear hrg2
                  try clear hltw
                  try clear zo
                  try clear z4
                  try clear hog
                  try clear hogB
                  try clear hog4
                  try clear hpos
                  try clear hposn
                  try clear hz0
                  try clear hz1
                  try clear hz2
                  try clear hhc
                  go_upto_region 19 with fail
                  refine wp_region_headE 14 (by kernel_rfl) (by kernel_rfl) (by kernel_rfl) (by kernel_rfl) (by kernel_rfl) (TS (.agg #[.slice a l.length cap, .int .i64 room]) (.slice (some ⟨rg, 0, none⟩) row.length rc) (i : Int) (.pointer (some ⟨rg, i, none⟩)) (.slice hda S.length hdc) (.slice (some ⟨pb, po, none⟩) L.length lc) (k2 : Int) (.pointer (some ⟨pb, po + k2 * 3, none⟩)) (.agg #[.int .i64 st.kind, .int .i64 st.inn, .int .i64 st.out]) wt.heap.size ds) (fun _ x => Hid (Below wt.heap.size wt x)) (fun x y => Below x.heap.size x y) (fun i v x y h hb => TS_on h hb) (Below.refl _ _).drew ?_ ?_
                  · intro ii oo him hi ac x n hn ha HC hd
                    have hC := unhide HC
                    match ii with
                    | 0 =>
                      simp at hi
                      subst hi
                      have e2 : ac.tmps[2]? = some (.pointer (some ⟨w.heap.size, 0, none⟩)) := (ha.slot 2 (slots_no (by kernel_rfl))).trans rfl
                      rw [← hC.cell (p := ⟨w.heap.size, _, none⟩) hltk] at q0 q1
                      go_simp
                      exact ⟨_, rfl, rfl, (by first | exact HC | exact True.intro), Below.refl _ _⟩
                    | 1 =>
                      simp at hi
                      subst hi
                      have e7 : ac.tmps[7]? = some (.slice (some ⟨rg, 0, none⟩) row.length rc) := (ha.slot 7 (slots_no (by kernel_rfl))).trans rfl
                      go_simp
                      exact ⟨_, rfl, rfl, (by first | exact HC | exact True.intro), Below.refl _ _⟩
                    | 2 =>
                      simp at hi
                      subst hi
                      have e10 : ac.tmps[10]? = some (.int .i64 (i : Int)) := (ha.slot 10 (slots_no (by kernel_rfl))).trans rfl
                      go_simp
                      exact ⟨_, rfl, rfl, (by first | exact HC | exact True.intro), Below.refl _ _⟩
                    | 3 =>
                      simp at hi
                      subst hi
                      have d1 := hd ⟨1, .data⟩ (by simp) rfl
                      rw [valOf_at (d := 59) rfl] at d1
                      have d1' : ac.tmps[59]?.getD undef = .slice (some ⟨rg, 0, none⟩) row.length rc := d1
                      have d2 := hd ⟨2, .data⟩ (by simp) rfl
                      rw [valOf_at (d := 60) rfl] at d2
                      have d2' : ac.tmps[60]?.getD undef = .int .i64 (i : Int) := d2
                      go_simp
                      exact ⟨_, rfl, rfl, (by first | exact HC | exact True.intro), Below.refl _ _⟩
                    | 4 =>
                      simp at hi
                      subst hi
                      have d3 := hd ⟨3, .data⟩ (by simp) rfl
                      rw [valOf_at (d := 61) rfl] at d3
                      have d3' : ac.tmps[61]?.getD undef = .pointer (some ⟨rg, i, none⟩) := d3
                      rw [← hC.cell (p := ⟨rg, _, none⟩) hrgt] at rc0
                      go_simp
                      exact ⟨_, rfl, rfl, (by first | exact HC | exact True.intro), Below.refl _ _⟩
                    | 5 =>
                      simp at hi
                      subst hi
                      have e11 : ac.tmps[11]? = some (.slice (some ⟨pb, po, none⟩) L.length lc) := (ha.slot 11 (slots_no (by kernel_rfl))).trans rfl
                      go_simp
                      exact ⟨_, rfl, rfl, (by first | exact HC | exact True.intro), Below.refl _ _⟩
                    | 6 =>
                      simp at hi
                      subst hi
                      have e12 : ac.tmps[12]? = some (.int .i64 (k2 : Int)) := (ha.slot 12 (slots_no (by kernel_rfl))).trans rfl
                      go_simp
                      exact ⟨_, rfl, rfl, (by first | exact HC | exact True.intro), Below.refl _ _⟩
                    | 7 =>
                      simp at hi
                      subst hi
                      have d5 := hd ⟨5, .data⟩ (by simp) rfl
                      rw [valOf_at (d := 63) rfl] at d5
                      have d5' : ac.tmps[63]?.getD undef = .slice (some ⟨pb, po, none⟩) L.length lc := d5
                      have d6 := hd ⟨6, .data⟩ (by simp) rfl
                      rw [valOf_at (d := 64) rfl] at d6
                      have d6' : ac.tmps[64]?.getD undef = .int .i64 (k2 : Int) := d6
                      go_simp
                      exact ⟨_, rfl, rfl, (by first | exact HC | exact True.intro), Below.refl _ _⟩
                    | 8 =>
                      simp at hi
                      subst hi
                      have d7 := hd ⟨7, .data⟩ (by simp) rfl
                      rw [valOf_at (d := 65) rfl] at d7
                      have d7' : ac.tmps[65]?.getD undef = .pointer (some ⟨pb, po + k2 * 3, none⟩) := d7
                      rw [← hC.cell (p := ⟨pb, _, none⟩) hpbt] at c0 c1 c2
                      go_simp
                      exact ⟨_, rfl, rfl, (by first | exact HC | exact True.intro), Below.refl _ _⟩
                    | 9 =>
                      simp at hi
                      subst hi
                      have d0 := hd ⟨0, .data⟩ (by simp) rfl
                      rw [valOf_at (d := 58) rfl] at d0
                      have d0' : ac.tmps[58]?.getD undef = .agg #[.slice a l.length cap, .int .i64 room] := d0
                      have d4 := hd ⟨4, .data⟩ (by simp) rfl
                      rw [valOf_at (d := 62) rfl] at d4
                      have d4' : ac.tmps[62]?.getD undef = .slice hda S.length hdc := d4
                      have d8 := hd ⟨8, .data⟩ (by simp) rfl
                      rw [valOf_at (d := 66) rfl] at d8
                      have d8' : ac.tmps[66]?.getD undef = .agg #[.int .i64 st.kind, .int .i64 st.inn, .int .i64 st.out] := d8
                      go_simp
                      refine (unhide HDO x hC).mono ?_
                      rintro e y ⟨⟨v3, rfl, hr3⟩, b3⟩
                      exact ⟨_, rfl, ⟨v3, rfl, row_down hr3 hC.size⟩, hC.trans (b3.mono hC.size), b3⟩
                    | 10 =>
                      simp at hi
                      subst hi
                      obtain ⟨u6, h6, r6⟩ := hd ⟨9, .data⟩ (by simp) rfl
                      rw [valOf_at (d := 67) rfl] at h6
                      have HR6 := hide r6
                      clear r6
                      go_simp
                      exact ⟨_, rfl, ⟨u6, rfl, unhide HR6⟩, (by first | exact HC | exact True.intro), Below.refl _ _⟩
                    | 11 =>
                      simp at hi
                      subst hi
                      obtain ⟨u7, h7, r7⟩ := hd ⟨10, .data⟩ (by simp) rfl
                      rw [valOf_at (d := 57) rfl] at h7
                      have HR7 := hide r7
                      clear r7
                      go_simp
                      exact ⟨_, rfl, unhide HR7, (by first | exact HC | exact True.intro), Below.refl _ _⟩
                    | 12 =>
                      simp at hi
                      subst hi
                      obtain ⟨u7, h7, r7⟩ := hd ⟨10, .data⟩ (by simp) rfl
                      rw [valOf_at (d := 57) rfl] at h7
                      clear r7
                      go_simp
                      exact ⟨_, rfl, rfl, (by first | exact HC | exact True.intro), Below.refl _ _⟩
                    | 13 =>
                      simp at hi
                      subst hi
                      have r8 := hd ⟨11, .data⟩ (by simp) rfl
                      rw [valOf_at (d := 68) rfl] at r8
                      have HR8 := hide r8
                      clear r8
                      go_simp
                      exact ⟨_, rfl, unhide HR8, (by first | exact HC | exact True.intro), Below.refl _ _⟩
                    | ii + 14 => omega
                  · intro ac w7 ha hT b7
                    replace b7 := unhide b7
                    have t69 : ac.tmps[69]?.getD undef = .bool ds.isSome := by have := hT 12 (by omega); rwa [valOf_at (d := 69) rfl] at this
                    have r13 : RowI wt.heap.size w7 (ac.tmps[13]?.getD undef) (ds.getD []) := by have := hT 13 (by omega); rwa [valOf_at (d := 13) rfl] at this
                    have hl := ha.list
                    simp [slotOf, List.range_succ] at hl
                    rw [hl]
                    clear hl ha hT
                    rw [t69]
                    clear t69
                    generalize ac.tmps[13]?.getD undef = u13 at r13
                    obtain ⟨hogo, htl, hplt, htN, hn1, hk2, hLl, hi, hlt2, hlt, hpw, hogB⟩ := unhide HAUX
                    clear HAUX
                    rw [unhide HDS] at r13 ⊢
                    obtain ⟨ua, uc, rfl, hset7⟩ := RowI.set r13 (by simp only [Option.getD_some]; omega)
                    simp only [Option.getD_some, Option.isSome_some] at hset7 r13 ⊢
                    have HH7 := hide (HdrAt.of_row (og := og) r13 (by omega) (by have := (unhide HG2).size; omega))
                    have HG7 := hide (grown_below (unhide HG2) b7)
                    have HF7 := hide (ownsRow_on (unhide HF2) b7)
                    have HO7 := hide ((unhide HO2).on b7 hogo)
                    have HSR7 := hide (ownsRow_on (unhide HSR) b7)
                    have hl7 := l2Bits_any ua T uc w7 hset7 hplt
                    rw [unhide HBT] at hl7
                    have HL7 := hide hl7
                    clear b7 r13 hset7 hl7 HDO HG2 HF2 HO2 HSR q0 q1 rc0 c0 c1 c2
                    go_wp2_with fail
                    refine (unhide HL7).mono ?_
                    rintro e w8 ⟨rfl, b8⟩
                    have HH8 := hide ((unhide HH7).grown (r := none) ⟨b8.os, b8.tape, b8.output, b8.size, fun b hb' _ => b8.block b hb'⟩ (fun j e => by cases e))
                    have HG8 := hide (grown_below (unhide HG7) b8)
                    have HF8 := hide (ownsRow_on (unhide HF7) b8)
                    have HO8 := hide ((unhide HO7).on b8 hogo)
                    have HSR8 := hide (ownsRow_on (unhide HSR7) b8)
                    obtain ⟨d0, g0, hog8, _⟩ := far_cell (unhide HF8) htN
                    have hti : (t : Int) < (k : Int) := by omega
                    have hti0 : (0 : Int) ≤ (t : Int) := by omega
                    clear b8 HL7 HH7 HG7 HF7 HO7 HSR7
                    by_cases hq0 : q.1 t = 0
                    · have hneg : (((q.1 t : Nat) : Int) - 1) < 0 := by omega
                      have HE := hide (show (L.take (k2 + 1)).foldl (visitS l room (num + 1) s) p = (fun x => if x = t then num + 1 else q.1 x, q.2 ++ [t]) by
                        rw [unhide HHT]
                        unfold visit
                        rw [if_pos hq0])
                      have hi8 := (unhide HI2).visit (num := num + 1) (by omega) hq0 (by omega)
                      have HI8 : Hid (PInv (fun x => if x = t then num + 1 else q.1 x, q.2 ++ [t]) 0) := ⟨by have := hi8.map; omega, hi8.row⟩
                      clear hi8
                      have hn2l : q.2.length ≤ 256 := by have := (unhide HI2).row; omega
                      obtain ⟨a3, c3, e3, _, hset8, _⟩ := unhide HH8
                      simp at e3
                      obtain ⟨rfl, rfl⟩ := e3
                      have hl8' := l2Bits_any ua T uc w8 hset8 hplt
                      rw [unhide HBT] at hl8'
                      have HL8 := hide hl8'
                      obtain ⟨qv, hqv⟩ : ∃ qv, qv = (((q.1 t : Nat) : Int) - 1) := ⟨_, rfl⟩
                      rw [← hqv] at hneg d0
                      clear hl8' hset8 hqv hq0
                      go_wp2_with fail
                      refine (unhide HL8).mono ?_
                      rintro e w9 ⟨rfl, b9⟩
                      have hH9 := (unhide HH8).grown (r := none) ⟨b9.os, b9.tape, b9.output, b9.size, fun b hb' _ => b9.block b hb'⟩ (fun j e => by cases e)
                      have hG9 := grown_below (unhide HG8) b9
                      have hF9 := ownsRow_on (unhide HF8) b9
                      have hO9 := (unhide HO8).on b9 hogo
                      have hSR9 := ownsRow_on (unhide HSR8) b9
                      obtain ⟨d9, g9, hog9, _⟩ := far_cell hF9 htN
                      have hz9 := hG9.size
                      have hg10 := grown_set (o := t) (World.grownBy.refl w9 (some og)) (.int .i64 (num : Int))
                      have hset9 := row_set hF9 htN (.int .i64 (((num + 1 : Nat) : Int) - 1))
                      rw [farVs_set, show (((num + 1 : Nat) : Int) - 1) = (num : Int) by omega] at hset9
                      have hO10 := hO9.grown hg10 hogo (fun j hj => by simp at hj; exact hj.symm)
                      have hown10 := hO10.own
                      have hSR10 := row_other hSR9 hg10 (fun g hg e => by have := (World.ownsRow.lt hSR9 g hg).1; have := (unhide HGS).size; simp at e; omega)
                      have hG10 := hG9.trans hg10
                      have hH10 := hH9.grown hg10 (fun j hj => Or.inl (by simp at hj; exact hj.symm))
                      have HF10 := hide hset9
                      have HO10 := hide hO10
                      have HSR10 := hide hSR10
                      have HG10 := hide hG10
                      have HH10 := hide hH10
                      obtain ⟨hj, hy0, hy1, hy2⟩ := unhide HINF
                      clear b9 hH9 hG9 hF9 hO9 hSR9 hset9 hO10 hSR10 hG10 hH10 hg10 HL8 HH8 HG8 HF8 HO8 HSR8 d0 g0 hneg
                      go_wp2_with (first
                        | (at_builtin; refine wpList_append_own _ rfl _ _ 72 rfl wo.heap.size 26 j0 (.slice none 0 0) 1 24 Tryz.underlying72 hj hy0 hy1 hy2 rfl (by decide) _ _ _ rfl (hown10.alloc _) ⟨w9.heap.size, 0, none⟩ 1 1 [.slice ua T.length uc] rfl rfl ?cc1 ?cc2 ?cc3 ?cc4 ?cc5 ?_))
                      case cc1 =>
                        intro j u hj
                        match j, hj with
                        | 0, hj =>
                          simp at hj
                          subst hj
                          have hnew := blk_alloc_new (w9.setCell ⟨og, t, none⟩ (.int .i64 (num : Int))) (.cells #[.slice ua T.length uc] 26)
                          rw [nblk_setCell] at hnew
                          have hcell := cell_of_row _ w9.heap.size 0 _ _ _ hnew
                          exact hcell
                      case cc2 => intro u hu; simp at hu; subst hu; rfl
                      case cc3 => unfold maxLen; omega
                      case cc4 => omega
                      case cc5 => simp; omega
                      intro v' w11 hown' hgrow _
                      have hO11 := (unhide HO10).grown (World.grownBy_alloc _ (.cells #[.slice ua T.length uc] 26) none) hogo (fun j e => by cases e)
                      have hH11 := (unhide HH10).grown (World.grownBy_alloc _ (.cells #[.slice ua T.length uc] 26) none) (fun j e => by cases e)
                      have HO12 := hide (hO11.snoc hogo (show HdrAt _ og _ (setOf t) by rw [unhide HTG]; exact hH11) hgrow hown')
                      have HF12 := hide (row_types ((unhide HF10).alloc _) (hown10.alloc _) (by decide) hgrow)
                      have HSR12 := hide (row_types ((unhide HSR10).alloc _) (hown10.alloc _) (by decide) hgrow)
                      have HG12 := hide (grown_app (grown_app (unhide HG10) (World.grownBy_alloc _ (.cells #[.slice ua T.length uc] 26) none) (fun j e => by cases e)) hgrow (fun j hj => Or.inr (World.ownsRow.lt hown10 j hj).1))
                      clear hO11 hH11 hgrow hown' hown10 HO10 HF10 HSR10 HG10 HH10 d9 g9
                      go_wp2_with fail
                      go_roundw
                      case rel => exact ⟨k2 + 1, _, by omega, by go_num, by rw [unhide HE]; exact HF12, by rw [unhide HE]; exact HI8, by rw [unhide HE]; exact HO12, HSR12, HG12⟩
                      case measure => simp [intOf]; omega
                    · have hneg : ¬ (((q.1 t : Nat) : Int) - 1) < 0 := by omega
                      have HE := hide (show (L.take (k2 + 1)).foldl (visitS l room (num + 1) s) p = q by
                        rw [unhide HHT]
                        unfold visit
                        rw [if_neg hq0])
                      obtain ⟨qv, hqv⟩ : ∃ qv, qv = (((q.1 t : Nat) : Int) - 1) := ⟨_, rfl⟩
                      rw [← hqv] at hneg d0
                      clear hqv hq0
                      go_wp2_with fail
                      go_roundw
                      case rel => exact ⟨k2 + 1, us2, by omega, by go_num, by rw [unhide HE]; exact HF8, by rw [unhide HE]; exact HI2, by rw [unhide HE]; exact HO8, HSR8, HG8⟩
                      case measure => simp [intOf]; omega
                · have jk1 : ¬ (k2 : Int) < (L.length : Int) := by omega
                  have hke : L.take k2 = L := List.take_of_length_le (by omega)
                  rw [hke, unhide HFS] at HF2 HI2 HO2
                  clear hke hbt
                  go_wp2_with fail
                  go_roundw
                  case rel => exact ⟨i + 1, us2, by omega, by go_num, HF2, HI2, HO2, HG2⟩
                  case measure => simp [intOf]; omega
            · have j1 : ¬ (i : Int) < (row.length : Int) := by omega
              have hke : row.take i = row := List.take_of_length_le (by omega)
              have hrn : (((row.flatMap (succB l room)).foldl (visit (num + 1)) (f, []))) = rowsN (succB l room) s0 (M + 1) := by rw [unhide HNX, unhide HNUM]
              rw [hke, hrn] at HF1 HI1 HO1
              have HB1 := hide ((unhide HB).grown (unhide HG1) (by omega) (fun j hj => by simp at hj; omega))
              have HO2 := hide (show StatesAt (og + 1) ws og _ (rowsN (succB l room) s0 (M + 1)).2 us1 from ⟨(unhide HO1).len, row_down (unhide HO1).own (by omega), (unhide HO1).hdr⟩)
              clear hke HO1 hrn
              go_wp2_with fail
              go_roundw
              case rel => exact ⟨num + 1, M + 1, us1, by go_num, by show _ = _; have := unhide HNUM; omega, by show _ ≤ _; have := (unhide HI1).row; omega, by have := unhide HNUM; omega, HF1, HO2, HB1⟩
              case measure => simp [intOf]; omega
end Go.Proofs.YthkhaemlcmkkjasGreat

namespace Go.Proofs.YthkhaemlcmkkjasGreat
set_option linter.unusedVariables false
set_option linter.unusedSimpArgs false
open Go.RowKit Go.Deep

theorem steps_cell {B : Nat} {x : World} {a : Option Addr} {L : List StepD} {c : Nat} (h : x.ownsRow B 50 3 (.slice a L.length c) L.length (stepVs L)) (hl : L.length ≤ 1048576) {k : Nat} (hk : k < L.length) : ∃ b o, a = some ⟨b, o, none⟩ ∧ x.cell? ⟨b, o + k * 3, none⟩ = some (.int .i64 (L.getD k dStep).kind) ∧ x.cell? ⟨b, o + k * 3 + 1, none⟩ = some (.int .i64 (L.getD k dStep).inn) ∧ x.cell? ⟨b, o + k * 3 + 2, none⟩ = some (.int .i64 (L.getD k dStep).out) := by
  obtain ⟨a9, c9, e9, _, _, hS9⟩ := StepsAt.of_row h hl
  simp at e9
  obtain ⟨rfl, rfl⟩ := e9
  rcases hS9.2 with hnil | ⟨b9, o9, e9, hb9, hr9⟩
  · rw [hnil] at hk; simp at hk
  obtain ⟨g0, g1, g2⟩ := hr9 k hk
  exact ⟨b9, o9, e9, g0, g1, g2⟩
theorem HdrAt.grownT {w w' : World} {og : Nat} {v : Value} {set : List Int} {r : Option Nat} (h : HdrAt w og v set) (hg : w.grownBy w' r) (hr : ∀ j, r = some j → og ≤ j ∧ ∃ C T f, T ≠ 3 ∧ w.heap[j]? = some (.cells C T f)) : HdrAt w' og v set := by
  obtain ⟨a, c, rfl, h1, ⟨h0, h2⟩, h3⟩ := h
  by_cases hs : set = []
  · exact ⟨a, c, rfl, h1, ⟨h0, Or.inl hs⟩, fun hne => absurd hs hne⟩
  rcases h2 with h2 | ⟨b, o, ha, hb, hc⟩
  · exact absurd h2 hs
  have h4 := h3 hs b o ha
  have hne : some b ≠ r := fun e => by
    obtain ⟨hj, C, T, f, hT, hC⟩ := hr b e.symm
    rcases h4 with h4 | ⟨_, C', hC'⟩
    · omega
    · rw [hC'] at hC
      simp at hC
      exact hT hC.2.1.symm
  refine ⟨a, c, rfl, h1, ⟨h0, Or.inr ⟨b, o, ha, Nat.lt_of_lt_of_le hb hg.size, fun i hi => ?_⟩⟩, fun _ b' o' ha' => ?_⟩
  · rw [World.cell?_of_block (w := w) (a := ⟨b, o + i, none⟩) (hg.block b hb hne)]
    exact hc i hi
  · rw [ha] at ha'
    simp at ha'
    obtain ⟨rfl, rfl⟩ := ha'
    rcases h4 with h4 | ⟨h4, C, hC⟩
    · exact Or.inl h4
    · exact Or.inr ⟨h4, C, (hg.block b hb hne).trans hC⟩

set_option maxRecDepth 100000 in
set_option maxHeartbeats 16000000 in
theorem specPlanFind_any (a : Option Addr) (l : List PackD) (cap : Nat) (room : Int) (sa : Option Addr) (set : List Int) (sc : Nat) (ta : Option Addr) (dst : List Int) (tc : Nat) (w : World) (h : PacksAt (Old w) w a l) (hca : CapsAt w a l) (hs : SetAt w sa set) (hsc : sa = none → sc = 0) (ht : SetAt w ta dst) :
    Calls Tryz.prog 5 #[.agg #[.slice a l.length cap, .int .i64 room], .slice sa set.length sc, .slice ta dst.length tc] w fun e w' => FindOut w.heap.size w' (findZ l room set dst) e ∧ Below w.heap.size w w' := by
  obtain ⟨i0, hi, hz0, hz1, hz2⟩ := info_parts Tryz.infoStep
  have HP := hide h
  have HCA := hide hca
  have HS := hide hs
  have HT := hide ht
  have HSC := hide hsc
  clear h hca hs ht hsc
  go_enter Tryz.func5, Tryz.ntmps5
  go_upto_region 2 with fail
  obtain ⟨w1, hw1⟩ : ∃ w1, w1 = (w.alloc (.cells #[.slice a l.length cap, .int .i64 room] 25)).alloc (.cells #[] 50) := ⟨_, rfl⟩
  rw [← hw1]
  have b1 : Below w.heap.size w w1 := by rw [hw1]; exact ((Below.refl _ _).alloc (Nat.le_refl _) _).alloc (by simp) _
  have x0 : w1.cell? ⟨w.heap.size, 0, none⟩ = some (.slice a l.length cap) := by rw [hw1]; simp
  have x1 : w1.cell? ⟨w.heap.size, 1, none⟩ = some (.int .i64 room) := by rw [hw1]; simp
  have own0 : w1.ownsRow w.heap.size 50 3 (.slice (some ⟨w.heap.size + 1, 0, none⟩) 0 0) 0 [] := by
    refine ⟨rfl, Or.inr ⟨w.heap.size + 1, 0, #[], rfl, by omega, ?_, Nat.zero_le _, Nat.zero_le _, rfl, rfl⟩⟩
    rw [hw1]
    have := blk_alloc_new (w.alloc (.cells #[.slice a l.length cap, .int .i64 room] 25)) (.cells #[] 50)
    simpa using this
  have z1 : w.heap.size < w1.heap.size := by rw [hw1]; simp; omega
  have HB1 := hide b1
  have HO1 := hide own0
  have HCO := hide (specStateOk_any a l cap room sa set sc w1 ((unhide HP).on b1) ((unhide HS).on b1))
  clear hw1 b1 own0
  cases hok : okZ l room set with
  | false =>
    have HE := hide (show findZ l room set dst = none by unfold findZ; rw [hok, Bool.false_and, if_neg (by decide)])
    rw [hok] at HCO
    clear hok
    go_wp2_with fail
    refine (unhide HCO).mono ?_
    rintro e w2 ⟨rfl, b2⟩
    have HB2 := hide ((unhide HB1).trans (b2.mono (unhide HB1).size))
    have HO2 := hide (ownsRow_on (unhide HO1) b2)
    clear b2 HB1 HO1 HCO
    go_wp2_with fail
    exact bodyPost_ret (v := .tuple #[.slice (some ⟨w.heap.size + 1, 0, none⟩) 0 0, .bool false]) (by simp [results, Tryz.results5, go_sem]) rfl ⟨⟨_, by rw [unhide HE]; rfl, by rw [unhide HE]; exact unhide HO2⟩, unhide HB2⟩
  | true =>
    have HCP := hide (fun x (hx : Below w1.heap.size w1 x) => specStateOk_any a l cap room ta dst tc x ((unhide HP).on ((unhide HB1).trans (hx.mono (unhide HB1).size))) ((unhide HT).on ((unhide HB1).trans (hx.mono (unhide HB1).size))))
    rw [hok] at HCO
    cases hok' : okZ l room dst with
    | false =>
      have HE := hide (show findZ l room set dst = none by unfold findZ; rw [hok, hok', Bool.and_false, if_neg (by decide)])
      rw [hok'] at HCP
      clear hok hok'
      go_wp2_with fail
      refine (unhide HCO).mono ?_
      rintro e w2 ⟨rfl, b2⟩
      have HCP2 := hide (unhide HCP w2 b2)
      have HB2 := hide ((unhide HB1).trans (b2.mono (unhide HB1).size))
      have HO2 := hide (ownsRow_on (unhide HO1) b2)
      rw [← b2.cell (p := ⟨w.heap.size, _, none⟩) z1] at x0 x1
      clear b2 HB1 HO1 HCO HCP
      go_wp2_with fail
      refine (unhide HCP2).mono ?_
      rintro e w3 ⟨rfl, b3⟩
      have HB3 := hide ((unhide HB2).trans (b3.mono (unhide HB2).size))
      have HO3 := hide (ownsRow_on (unhide HO2) b3)
      clear b3 HB2 HO2 HCP2
      go_wp2_with fail
      exact bodyPost_ret (v := .tuple #[.slice (some ⟨w.heap.size + 1, 0, none⟩) 0 0, .bool false]) (by simp [results, Tryz.results5, go_sem]) rfl ⟨⟨_, by rw [unhide HE]; rfl, by rw [unhide HE]; exact unhide HO3⟩, unhide HB3⟩
    | true =>
      rw [hok'] at HCP
      obtain ⟨hg1, hse1⟩ := good_of hok
      obtain ⟨hg2, hse2⟩ := good_of hok'
      have HEZ := hide (show findZ l room set dst = if distB l room (setBits set) (setBits dst) = 0 then none else some (planTo l room (setBits dst) (distB l room (setBits set) (setBits dst) - 1) (setBits set)) by unfold findZ; rw [hok, hok', Bool.and_self, if_pos rfl])
      have HFAR := hide (fun na S nc x (h1 : PacksAt (Old x) x a l) (h2 : CapsAt x a l) (h3 : SetAt x na S) (h4 : na = none → nc = 0) (h5 : okZ l room S = true) => l4Far_any a l cap room na S nc x h1 h2 h3 h4 h5)
      have HOKS := hide hok
      have hzd : ∀ z ∈ dst, 0 ≤ z ∧ z < 8 := by rw [← hse2]; exact good_places hg2
      have HL2 := hide (fun x (hx : SetAt x ta dst) => l2Bits_any ta dst tc x hx hzd)
      have hZN := hg2.1
      have HG1 := hide hg1
      have HSE1 := hide hse1
      clear hok hok' hg2 hse1 hse2 hzd hg1
      generalize hAg : setBits set = A at *
      generalize hZg : setBits dst = Z at *
      have HAG := hide hAg
      clear hAg hZg
      have hpw : 2 ^ l.length ≤ 256 := shl_one l.length (unhide HG1).l8
      generalize hNg : 2 ^ l.length = N at *
      clear hNg
      have hdle : distB l room A Z ≤ 301 := farF_le _ _ _
      go_wp2_with fail
      refine (unhide HCO).mono ?_
      rintro e w2 ⟨rfl, b2⟩
      have HCP2 := hide (unhide HCP w2 b2)
      have HB2 := hide ((unhide HB1).trans (b2.mono (unhide HB1).size))
      have HO2 := hide (ownsRow_on (unhide HO1) b2)
      have z2 := Nat.lt_of_lt_of_le z1 b2.size
      rw [← b2.cell (p := ⟨w.heap.size, _, none⟩) z1] at x0 x1
      clear b2 HB1 HO1 HCO HCP z1
      go_wp2_with fail
      refine (unhide HCP2).mono ?_
      rintro e w3 ⟨rfl, b3⟩
      have HB3 := hide ((unhide HB2).trans (b3.mono (unhide HB2).size))
      have HO3 := hide (ownsRow_on (unhide HO2) b3)
      have z3 := Nat.lt_of_lt_of_le z2 b3.size
      rw [← b3.cell (p := ⟨w.heap.size, _, none⟩) z2] at x0 x1
      clear b3 HB2 HO2 HCP2 z2
      go_upto_region 5 with fail
      obtain ⟨w4, hw4⟩ : ∃ w4, w4 = w3.alloc (.cells #[] 50) := ⟨_, rfl⟩
      rw [← hw4]
      have b4 : Below w3.heap.size w3 w4 := by rw [hw4]; exact (Below.refl _ _).alloc (Nat.le_refl _) _
      have own4 : w4.ownsRow w3.heap.size 50 3 (.slice (some ⟨w3.heap.size, 0, none⟩) 0 0) 0 [] := by
        refine ⟨rfl, Or.inr ⟨w3.heap.size, 0, #[], rfl, Nat.le_refl _, ?_, Nat.zero_le _, Nat.zero_le _, rfl, rfl⟩⟩
        rw [hw4]
        exact blk_alloc_new w3 _
      have HB4 := hide ((unhide HB3).trans (b4.mono (unhide HB3).size))
      have HO4 := hide (ownsRow_on (unhide HO3) b4)
      have HW4 := hide own4
      have z4 := Nat.lt_of_lt_of_le z3 b4.size
      rw [← b4.cell (p := ⟨w.heap.size, _, none⟩) z3] at x0 x1
      have z34 : w3.heap.size < w4.heap.size := by rw [hw4]; simp
      clear b4 own4 hw4 HO3
      have hfar := unhide HFAR sa set sc w4 ((unhide HP).on (unhide HB4)) ((unhide HCA).on (unhide HB4)) ((unhide HS).on (unhide HB4)) (unhide HSC) (unhide HOKS)
      rw [unhide HAG] at hfar
      have HF4 := hide hfar
      clear hfar
      go_wp2_with fail
      refine (unhide HF4).mono ?_
      rintro e w5 ⟨⟨fg, fc, rfl, hfr⟩, b5⟩
      have HB5 := hide ((unhide HB4).trans (b5.mono (unhide HB4).size))
      have HO5 := hide (ownsRow_on (unhide HO4) b5)
      have HW5 := hide (ownsRow_on (unhide HW4) b5)
      have HFR := hide hfr
      have z5 := Nat.lt_of_lt_of_le z4 b5.size
      have z35 := Nat.lt_of_lt_of_le z34 b5.size
      rw [← b5.cell (p := ⟨w.heap.size, _, none⟩) z4] at x0 x1
      have HL5 := hide (unhide HL2 w5 ((unhide HT).on (unhide HB5)))
      clear b5 hfr HB4 HO4 HW4 HF4 z4 z34
      go_wp2_with fail
      refine (unhide HL5).mono ?_
      rintro e w6 ⟨rfl, b6⟩
      have HB6 := hide ((unhide HB5).trans (b6.mono (unhide HB5).size))
      have HO6 := hide (ownsRow_on (unhide HO5) b6)
      have HW6 := hide (ownsRow_on (unhide HW5) b6)
      have z6 := Nat.lt_of_lt_of_le z5 b6.size
      have z36 := Nat.lt_of_lt_of_le z35 b6.size
      rw [← b6.cell (p := ⟨w.heap.size, _, none⟩) z5] at x0 x1
      obtain ⟨d0, _, _, _⟩ := far_cell (ownsRow_on (unhide HFR) b6) hZN
      have hd : farF (succB l room) A Z = distB l room A Z := rfl
      rw [hd] at d0
      clear hd b6 HB5 HO5 HW5 HFR HL5 z5 z35
      have hzi : (Z : Int) < (N : Int) := by omega
      have hzi0 : (0 : Int) ≤ (Z : Int) := by omega
      by_cases hd0 : distB l room A Z = 0
      · have HE := hide (show findZ l room set dst = none by rw [unhide HEZ, if_pos hd0])
        rw [hd0] at d0
        clear hd0 HEZ hdle
        go_wp2_with fail
        go_loopw [9, 10, 11] (fun v9 v10 v11 wr => v11 = .int .i64 (-1) ∧ Hid (Below w6.heap.size w6 wr)) (fun _ _ _ _ => 0)
        case atStart => exact ⟨rfl, Below.refl _ _⟩
        case round =>
          rename World => wo
          obtain ⟨rfl, HB⟩ := hrel
          have HO7 := hide (ownsRow_on (unhide HO6) (unhide HB))
          have HB7 := hide ((unhide HB6).trans ((unhide HB).mono (unhide HB6).size))
          go_wp2_with fail
          exact bodyPost_ret (v := .tuple #[.slice (some ⟨w.heap.size + 1, 0, none⟩) 0 0, .bool false]) (by simp [results, Tryz.results5, go_sem]) rfl ⟨⟨_, by rw [unhide HE]; rfl, by rw [unhide HE]; exact unhide HO7⟩, unhide HB7⟩
      · obtain ⟨R, hR⟩ : ∃ R, distB l room A Z = R + 1 := ⟨distB l room A Z - 1, by omega⟩
        have HE := hide (show findZ l room set dst = some (planTo l room Z R A) by rw [unhide HEZ, if_neg hd0, hR]; rfl)
        rw [hR, show (((R + 1 : Nat) : Int) - 1) = (R : Int) by omega] at d0
        have hR3 : R ≤ 300 := by omega
        clear hd0 HEZ hdle hR
        go_wp2_with fail
        have HH6 := hide (show HdrAt w6 w3.heap.size (.slice sa (setOf A).length sc) (setOf A) by
          rw [unhide HSE1]
          refine ⟨sa, sc, rfl, unhide HSC, (unhide HS).on (unhide HB6), fun hne b o hb => ?_⟩
          rcases (unhide HS).2 with hnil | ⟨b', o', hb', hlt, _⟩
          · exact absurd hnil hne
          · rw [hb] at hb'
            simp at hb'
            exact Or.inl (by omega))
        have hsl := congrArg List.length (unhide HSE1)
        rw [← hsl]
        clear hsl d0
        go_loopw [9, 10, 11] (fun v9 v10 v11 wr => ∃ (n s : Nat) (done : List StepD) (na : Option Addr) (nc : Nat), v11 = .int .i64 (n : Int) ∧ v10 = .slice na (setOf s).length nc ∧ Hid (HdrAt wr w3.heap.size (.slice na (setOf s).length nc) (setOf s)) ∧ Hid (GoodS l room s) ∧ Hid (done ++ planTo l room Z n s = planTo l room Z R A) ∧ Hid (done.length + n ≤ 300) ∧ Hid (wr.ownsRow w3.heap.size 50 3 v9 done.length (stepVs done)) ∧ Hid (Below w3.heap.size w6 wr)) (fun _ _ v11 _ => (intOf v11).toNat)
        case atStart => exact ⟨R, A, [], sa, sc, rfl, rfl, HH6, HG1, rfl, by show _ ≤ _; simp; omega, HW6, Below.refl _ _⟩
        case round =>
          clear HH6 HW6
          rename World => wo
          obtain ⟨n, s, done, na, nc, rfl, rfl, HH, HG, HPL, HLE, HO, HB⟩ := hrel
          have zo := (unhide HB).size
          have hbw := (unhide HB6).trans ((unhide HB).mono (by omega))
          have HBW := hide hbw
          have q0 := x0
          have q1 := x1
          rw [← (unhide HB).cell (p := ⟨w.heap.size, _, none⟩) z3] at q0 q1
          cases n with
          | zero =>
            have HE2 := hide (show findZ l room set dst = some done by rw [unhide HE, ← unhide HPL]; simp [planTo])
            obtain ⟨oa, oc, ho⟩ : ∃ oa oc, u9 = .slice oa done.length oc := by
              rcases (unhide HO).2 with ⟨hv, h0⟩ | ⟨g, cap, cur, hv, _⟩
              · exact ⟨none, 0, by rw [hv, h0]⟩
              · exact ⟨_, _, hv⟩
            subst ho
            go_wp2_with fail
            exact bodyPost_ret (v := .tuple #[.slice oa done.length oc, .bool true]) (by simp [results, Tryz.results5, go_sem]) rfl ⟨⟨_, by rw [unhide HE2]; rfl, by rw [unhide HE2]; exact row_down (unhide HO) (by omega)⟩, unhide HBW⟩
          | succ n =>
            obtain ⟨na', nc', hna, hnc, hset, _⟩ := unhide HH
            simp at hna
            obtain ⟨rfl, rfl⟩ := hna
            have hgs := unhide HG
            have hshort := good_short hgs
            have hdl : done.length + n ≤ 300 := by have := unhide HLE; omega
            have hsf := specStepFrom_any a l cap room na (setOf s) nc wo ((unhide HP).on hbw) ((unhide HCA).on hbw) hset hnc (by omega)
            have hsome := fun st hm => from_some (st := st) hgs hm
            have hfit := fun st => @planTo_fit l room Z n s st hgs
            have hunf := @planTo_unfit l room Z n s hgs
            have hfew := from_few l room (setOf s)
            have hsteps := stepsL_few l room
            obtain ⟨L, hL⟩ : ∃ L, L = fromL l room (setOf s) := ⟨_, rfl⟩
            rw [← hL] at hsf hsome hfit hunf hfew
            have hdo := fun st x (hx : Below wo.heap.size wo x) (hset3 : SetAt x na (setOf s)) => specStepDo_full a l cap room na (setOf s) nc st x ((unhide HP).on (hbw.trans (hx.mono hbw.size))) ((unhide HCA).on (hbw.trans (hx.mono hbw.size))) hset3 hnc
            simp only [do_same] at hdo
            have HSF := hide hsf
            have HSOME := hide hsome
            have HFIT := hide hfit
            have HUNF := hide hunf
            have HDOA := hide hdo
            have hLl : L.length ≤ 100 := by omega
            obtain ⟨r1, hr1⟩ : ∃ r1, r1 = ((n + 1 : Nat) : Int) := ⟨_, rfl⟩
            have hb0 : (r1 != 0) = true := by rw [hr1, bne_iff_ne]; omega
            have hb1 : ¬ r1 < 0 := by omega
            have hsub : IntKind.i64.wrap (r1 - 1) = (n : Int) := by rw [IntKind.wrap_i64]; omega
            rw [← hr1]
            have HR1 := hide hr1
            clear hsf hsome hfit hunf hfew hL hdo hset hgs hbw hr1 hsteps
            have HSS : Hid (setOf s = setOf s) := rfl
            generalize hSg : setOf s = S at *
            replace HSS : Hid (setOf s = S) := hSg
            clear hSg
            go_wp2_with fail
            refine (unhide HSF).mono ?_
            rintro e wx ⟨⟨y, rfl, hrow⟩, bx⟩
            obtain ⟨pa, lc, rfl, _, _, _⟩ := StepsAt.of_row hrow (by omega)
            have HSR := hide hrow
            have HHx := hide ((unhide HH).grownT (r := none) ⟨bx.os, bx.tape, bx.output, bx.size, fun b hb' _ => bx.block b hb'⟩ (fun j e => by cases e))
            have HOx := hide (ownsRow_on (unhide HO) bx)
            have HBx := hide bx
            have HBO := HB
            clear hrow bx HSF HH HO HB q0 q1
            go_wp2_with fail
            go_loopw [9, 10, 13] (fun v9 v10 v13 wt => ∃ k : Nat, k ≤ L.length ∧ v13 = .int .i64 (k : Int) ∧ v10 = .slice na S.length nc ∧ Hid ((L.take k).find? (fitS l room Z n s) = none) ∧ Hid (HdrAt wt w3.heap.size (.slice na S.length nc) S) ∧ Hid (wt.ownsRow w3.heap.size 50 3 v9 done.length (stepVs done)) ∧ Hid (wt.ownsRow wo.heap.size 50 3 (.slice pa L.length lc) L.length (stepVs L)) ∧ Hid (Below wo.heap.size wo wt)) (fun _ _ v13 _ => L.length - (intOf v13).toNat)
            case atStart => exact ⟨0, Nat.zero_le _, rfl, rfl, rfl, HHx, HOx, HSR, HBx⟩
            case round =>
              clear HHx HOx HSR HBx
              rename World => wt
              obtain ⟨k, hk, rfl, rfl, HN, HH, HO, HSR, HB⟩ := hrel
              have hzt := (unhide HB).size
              by_cases hlt : k < L.length
              · have j1 : (k : Int) < (L.length : Int) := by omega
                have jk0 : (0 : Int) ≤ (k : Int) := by omega
                obtain ⟨a1, c1', e1, _, _, hS1⟩ := StepsAt.of_row (unhide HSR) (by omega)
                simp at e1
                obtain ⟨rfl, rfl⟩ := e1
                rcases hS1.2 with hnil | ⟨pb, po, rfl, hpbt, hrk⟩
                · rw [hnil] at hlt; simp at hlt
                obtain ⟨c0, c1, c2⟩ := hrk k hlt
                have htk := find_step (fitS l room Z n s) dStep L hlt (unhide HN)
                have hmem : L.getD k dStep ∈ L := getD_mem (d := dStep) hlt
                obtain ⟨st, hst⟩ : ∃ st, st = L.getD k dStep := ⟨_, rfl⟩
                rw [← hst] at c0 c1 c2 htk hmem
                have HCELL := hide (fun (x : World) hx => (steps_cell (x := x) (a := some ⟨pb, po, none⟩) (c := lc) (B := wo.heap.size) hx (by omega) hlt))
                rw [← hst] at HCELL
                clear hst hrk hS1
                obtain ⟨t, himp, hgt⟩ := unhide HSOME st hmem
                have hbt := (unhide HBO).trans ((unhide HB).mono (by omega))
                have q0 := x0
                have q1 := x1
                rw [← hbt.cell (p := ⟨w.heap.size, _, none⟩) z3] at q0 q1
                have hltk : w.heap.size < wt.heap.size := by have := hbt.size; omega
                have hbW := (unhide HB6).trans (hbt.mono (by omega))
                obtain ⟨a2, c2', e2, _, hset4, _⟩ := unhide HH
                simp at e2
                obtain ⟨rfl, rfl⟩ := e2
                have HDO := hide (fun x (hx : Below wt.heap.size wt x) => unhide HDOA st x ((unhide HB).trans (hx.mono (unhide HB).size)) (hset4.on hx))
                have hokt := hgt.2
                have hbits := hgt.bits
                have hshT := good_short hgt
                have hft : fitS l room Z n s st = decide (distB l room t Z = n + 1) := by
                  unfold fitS
                  rw [unhide HSS, himp, Option.getD_some, hbits]
                have HFT := hide hft
                have HTK := hide htk
                have HGT := hide hgt
                have HIMP := hide himp
                generalize hTg : setOf t = T at himp hokt hbits hshT HIMP
                have HTG := hide hTg
                rw [himp] at HDO
                obtain ⟨ds, hds⟩ : ∃ ds, ds = some T := ⟨_, rfl⟩
                rw [← hds] at HDO
                have HDS := hide hds
                have HFAR7 := hide (fun ua uc x (hx : Below wt.heap.size wt x) (h3 : SetAt x ua T) (h4 : ua = none → uc = 0) => unhide HFAR ua T uc x ((unhide HP).on (hbW.trans (hx.mono hbW.size))) ((unhide HCA).on (hbW.trans (hx.mono hbW.size))) h3 h4 hokt)
                rw [hbits] at HFAR7
                have HL7 := hide (fun x (hx : Below wt.heap.size wt x) => unhide HL2 x ((unhide HT).on (hbW.trans (hx.mono hbW.size))))
                have HBT := hide hbt
                have HAUX := hide (And.intro hshT (And.intro hk (And.intro hlt (And.intro hdl (And.intro hLl (And.intro hzt (And.intro zo (And.intro z3 (And.intro z36 hpw)))))))))
                have HINF := hide (And.intro hi (And.intro hz0 (And.intro hz1 hz2)))
                clear hds himp hmem htk hgt hset4 hbt hokt hbits hft hTg hbW hshT hlt hi hz0 hz1 hz2 hshort
                go_upto_region 15 with fail
                refine wp_region_headE 11 (by kernel_rfl) (by kernel_rfl) (by kernel_rfl) (by kernel_rfl) (by kernel_rfl) (TG (.agg #[.slice a l.length cap, .int .i64 room]) (.slice na S.length nc) (.slice (some ⟨pb, po, none⟩) L.length lc) (.pointer (some ⟨pb, po + k * 3, none⟩)) (.agg #[.int .i64 st.kind, .int .i64 st.inn, .int .i64 st.out]) (k : Int) wt.heap.size ds) (fun _ x => Hid (Below wt.heap.size wt x)) (fun x y => Below x.heap.size x y) (fun i v x y h hb => TG_on h hb) (Below.refl _ _).drew ?_ ?_
                · intro i oo him hi ac x n hn ha HC hd
                  have hC := unhide HC
                  match i with
                  | 0 =>
                    simp at hi
                    subst hi
                    have e3 : ac.tmps[3]? = some (.pointer (some ⟨w.heap.size, 0, none⟩)) := (ha.slot 3 (slots_no (by kernel_rfl))).trans rfl
                    rw [← hC.cell (p := ⟨w.heap.size, _, none⟩) hltk] at q0 q1
                    go_simp
                    exact ⟨_, rfl, rfl, (by first | exact HC | exact True.intro), Below.refl _ _⟩
                  | 1 =>
                    simp at hi
                    subst hi
                    have e10 : ac.tmps[10]? = some (.slice na S.length nc) := (ha.slot 10 (slots_no (by kernel_rfl))).trans rfl
                    go_simp
                    exact ⟨_, rfl, rfl, (by first | exact HC | exact True.intro), Below.refl _ _⟩
                  | 2 =>
                    simp at hi
                    subst hi
                    have e12 : ac.tmps[12]? = some (.slice (some ⟨pb, po, none⟩) L.length lc) := (ha.slot 12 (slots_no (by kernel_rfl))).trans rfl
                    go_simp
                    exact ⟨_, rfl, rfl, (by first | exact HC | exact True.intro), Below.refl _ _⟩
                  | 3 =>
                    simp at hi
                    subst hi
                    have e13 : ac.tmps[13]? = some (.int .i64 (k : Int)) := (ha.slot 13 (slots_no (by kernel_rfl))).trans rfl
                    go_simp
                    exact ⟨_, rfl, rfl, (by first | exact HC | exact True.intro), Below.refl _ _⟩
                  | 4 =>
                    simp at hi
                    subst hi
                    have d2 := hd ⟨2, .data⟩ (by simp) rfl
                    rw [valOf_at (d := 56) rfl] at d2
                    have d2' : ac.tmps[56]?.getD undef = .slice (some ⟨pb, po, none⟩) L.length lc := d2
                    have d3 := hd ⟨3, .data⟩ (by simp) rfl
                    rw [valOf_at (d := 57) rfl] at d3
                    have d3' : ac.tmps[57]?.getD undef = .int .i64 (k : Int) := d3
                    go_simp
                    exact ⟨_, rfl, rfl, (by first | exact HC | exact True.intro), Below.refl _ _⟩
                  | 5 =>
                    simp at hi
                    subst hi
                    have d4 := hd ⟨4, .data⟩ (by simp) rfl
                    rw [valOf_at (d := 58) rfl] at d4
                    have d4' : ac.tmps[58]?.getD undef = .pointer (some ⟨pb, po + k * 3, none⟩) := d4
                    rw [← hC.cell (p := ⟨pb, _, none⟩) hpbt] at c0 c1 c2
                    go_simp
                    exact ⟨_, rfl, rfl, (by first | exact HC | exact True.intro), Below.refl _ _⟩
                  | 6 =>
                    simp at hi
                    subst hi
                    have d0 := hd ⟨0, .data⟩ (by simp) rfl
                    rw [valOf_at (d := 54) rfl] at d0
                    have d0' : ac.tmps[54]?.getD undef = .agg #[.slice a l.length cap, .int .i64 room] := d0
                    have d1 := hd ⟨1, .data⟩ (by simp) rfl
                    rw [valOf_at (d := 55) rfl] at d1
                    have d1' : ac.tmps[55]?.getD undef = .slice na S.length nc := d1
                    have d5 := hd ⟨5, .data⟩ (by simp) rfl
                    rw [valOf_at (d := 59) rfl] at d5
                    have d5' : ac.tmps[59]?.getD undef = .agg #[.int .i64 st.kind, .int .i64 st.inn, .int .i64 st.out] := d5
                    go_simp
                    refine (unhide HDO x hC).mono ?_
                    rintro e y ⟨⟨v3, rfl, hr3⟩, b3⟩
                    exact ⟨_, rfl, ⟨v3, rfl, row_down hr3 hC.size⟩, hC.trans (b3.mono hC.size), b3⟩
                  | 7 =>
                    simp at hi
                    subst hi
                    obtain ⟨u6, h6, r6⟩ := hd ⟨6, .data⟩ (by simp) rfl
                    rw [valOf_at (d := 60) rfl] at h6
                    have HR6 := hide r6
                    clear r6
                    go_simp
                    exact ⟨_, rfl, ⟨u6, rfl, unhide HR6⟩, (by first | exact HC | exact True.intro), Below.refl _ _⟩
                  | 8 =>
                    simp at hi
                    subst hi
                    obtain ⟨u7, h7, r7⟩ := hd ⟨7, .data⟩ (by simp) rfl
                    rw [valOf_at (d := 53) rfl] at h7
                    have HR7 := hide r7
                    clear r7
                    go_simp
                    exact ⟨_, rfl, unhide HR7, (by first | exact HC | exact True.intro), Below.refl _ _⟩
                  | 9 =>
                    simp at hi
                    subst hi
                    obtain ⟨u7, h7, r7⟩ := hd ⟨7, .data⟩ (by simp) rfl
                    rw [valOf_at (d := 53) rfl] at h7
                    clear r7
                    go_simp
                    exact ⟨_, rfl, rfl, (by first | exact HC | exact True.intro), Below.refl _ _⟩
                  | 10 =>
                    simp at hi
                    subst hi
                    have r8 := hd ⟨8, .data⟩ (by simp) rfl
                    rw [valOf_at (d := 61) rfl] at r8
                    have HR8 := hide r8
                    clear r8
                    go_simp
                    exact ⟨_, rfl, unhide HR8, (by first | exact HC | exact True.intro), Below.refl _ _⟩
                  | i + 11 => omega
                · intro ac w7 ha hT b7
                  replace b7 := unhide b7
                  have t28 : ac.tmps[62]?.getD undef = .bool ds.isSome := by have := hT 9 (by omega); rwa [valOf_at (d := 62) rfl] at this
                  have r27 : RowI wt.heap.size w7 (ac.tmps[14]?.getD undef) (ds.getD []) := by have := hT 10 (by omega); rwa [valOf_at (d := 14) rfl] at this
                  have hl := ha.list
                  simp [slotOf, List.range_succ] at hl
                  rw [hl]
                  clear hl ha hT
                  rw [t28]
                  clear t28
                  generalize ac.tmps[14]?.getD undef = u27 at r27
                  obtain ⟨hshT, hk, hlt, hdl, hLl, hzt, zo, z3, z36, hpw⟩ := unhide HAUX
                  clear HAUX
                  rw [unhide HDS] at r27 ⊢
                  simp only [Option.getD_some, Option.isSome_some] at r27 ⊢
                  obtain ⟨ua, uc, rfl, hset7⟩ := RowI.set r27 (by omega)
                  have hcap7 : ua = none → uc = 0 := row_cap0 r27
                  have HR7 := hide r27
                  have HF7 := hide (unhide HFAR7 ua uc w7 b7 hset7 hcap7)
                  have HB7 := hide b7
                  have HO7 := hide (ownsRow_on (unhide HO) b7)
                  have HSR7 := hide (ownsRow_on (unhide HSR) b7)
                  have HH7 := hide ((unhide HH).grownT (r := none) ⟨b7.os, b7.tape, b7.output, b7.size, fun b hb' _ => b7.block b hb'⟩ (fun j e => by cases e))
                  rw [← b7.cell (p := ⟨w.heap.size, _, none⟩) hltk] at q0 q1
                  have hlt7 := Nat.lt_of_lt_of_le hltk b7.size
                  clear b7 r27 hset7 hcap7 HDO HFAR7 HO HSR HH c0 c1 c2 hltk
                  go_wp2_with fail
                  refine (unhide HF7).mono ?_
                  rintro e w8 ⟨⟨fg8, fc8, rfl, hfr8⟩, b8⟩
                  have b78 := (unhide HB7).trans (b8.mono (unhide HB7).size)
                  have HFR8 := hide hfr8
                  have HL8 := hide (unhide HL7 w8 b78)
                  have HB8 := hide b78
                  have HR8 := hide (ownsRow_on (unhide HR7) b8)
                  have HO8 := hide (ownsRow_on (unhide HO7) b8)
                  have HSR8 := hide (ownsRow_on (unhide HSR7) b8)
                  have HH8 := hide ((unhide HH7).grownT (r := none) ⟨b8.os, b8.tape, b8.output, b8.size, fun b hb' _ => b8.block b hb'⟩ (fun j e => by cases e))
                  clear b8 b78 hfr8 HF7 HL7 HB7 HR7 HO7 HSR7 HH7 q0 q1
                  go_wp2_with fail
                  refine (unhide HL8).mono ?_
                  rintro e w9 ⟨rfl, b9⟩
                  have b79 := (unhide HB8).trans (b9.mono (unhide HB8).size)
                  obtain ⟨d9, _, _, _⟩ := far_cell (ownsRow_on (unhide HFR8) b9) hZN
                  rw [show farF (succB l room) t Z = distB l room t Z from rfl] at d9
                  have HB9 := hide b79
                  have HR9 := hide (ownsRow_on (unhide HR8) b9)
                  have HO9 := hide (ownsRow_on (unhide HO8) b9)
                  have HSR9 := hide (ownsRow_on (unhide HSR8) b9)
                  have HH9 := hide ((unhide HH8).grownT (r := none) ⟨b9.os, b9.tape, b9.output, b9.size, fun b hb' _ => b9.block b hb'⟩ (fun j e => by cases e))
                  have hdn : (((distB l room t Z : Nat) : Int) - 1 == (n : Int)) = decide (distB l room t Z = n + 1) := by
                    rw [Bool.eq_iff_iff, beq_iff_eq, decide_eq_true_eq]
                    omega
                  have HFT9 := hide ((unhide HFT).trans rfl)
                  clear b9 b79 HFR8 HL8 HB8 HR8 HO8 HSR8 HH8 HFT
                  obtain ⟨dv, hdv⟩ : ∃ dv, dv = (((distB l room t Z : Nat) : Int) - 1) := ⟨_, rfl⟩
                  rw [← hdv] at d9 hdn
                  obtain ⟨ed, hed⟩ : ∃ ed, ed = decide (distB l room t Z = n + 1) := ⟨_, rfl⟩
                  rw [← hed] at hdn HFT9
                  have hZi : (Z : Int) < (N : Int) := by omega
                  clear hdv hed
                  cases ed with
                  | false =>
                    have HN2 := hide (show (L.take (k + 1)).find? (fitS l room Z n s) = none by rw [unhide HTK, unhide HFT9]; rfl)
                    clear HTK HFT9 HCELL
                    go_wp2_with fail
                    go_roundw
                    case rel => exact ⟨k + 1, by omega, by go_num, rfl, HN2, HH9, HO9, HSR9, hide ((unhide HB).trans ((unhide HB9).mono (by omega)))⟩
                    case measure => simp [intOf]; omega
                  | true =>
                    obtain ⟨pb', po', e', c0, c1, c2⟩ := unhide HCELL w9 (unhide HSR9)
                    simp at e'
                    obtain ⟨rfl, rfl⟩ := e'
                    have hfd : L.find? (fitS l room Z n s) = some st := find_more _ _ (show (L.take (k + 1)).find? (fitS l room Z n s) = some st by rw [unhide HTK, unhide HFT9]; rfl)
                    obtain ⟨t', hgt', himp', hpl'⟩ := unhide HFIT st hfd
                    have ht' : t' = t := by
                      rw [unhide HIMP] at himp'
                      have e1 : T = setOf t' := by simpa using himp'
                      have := congrArg setBits e1
                      rw [hgt'.bits, ← unhide HTG, (unhide HGT).bits] at this
                      exact this.symm
                    rw [ht'] at hpl'
                    have HE3 := hide (show (done ++ [st]) ++ planTo l room Z n t = planTo l room Z R A by rw [← unhide HPL, hpl']; simp)
                    have hown := unhide HO9
                    have hdl2 : done.length ≤ 300 := by omega
                    obtain ⟨hi, hz0, hz1, hz2⟩ := unhide HINF
                    have HG2 := HGT
                    have HBa := (unhide HBT).trans ((unhide HB9).mono (by have := (unhide HBT).size; omega))
                    have HB10 := hide HBa
                    have hz9 := HBa.size
                    have HT9 := hide (HdrAt.of_row (og := w3.heap.size) (unhide HR9) (by omega) (by have := (unhide HBT).size; omega))
                    clear HTK HFT9 hfd hgt' himp' hpl' ht' HIMP HBa HFIT
                    go_wp2_with (first
                      | (at_builtin; refine wpList_append_own _ rfl _ _ 29 rfl w3.heap.size 50 i0 (.agg #[.int .i64 0, .int .i64 0, .int .i64 0]) 3 24 Tryz.underlying29 hi hz0 hz1 hz2 rfl (by decide) _ _ _ rfl (hown.alloc _) ⟨w9.heap.size, 0, none⟩ 1 1 (stepVs [st]) rfl rfl ?cc1 ?cc2 ?cc3 ?cc4 ?cc5 ?_))
                    case cc1 =>
                      intro j u hj
                      match j, hj with
                      | 0, hj => simp [stepVs] at hj; subst hj; simp [Addr.add]
                      | 1, hj => simp [stepVs] at hj; subst hj; simp [Addr.add]
                      | 2, hj => simp [stepVs] at hj; subst hj; simp [Addr.add]
                    case cc2 => intro u hu; simp [stepVs] at hu; rcases hu with rfl | rfl | rfl <;> rfl
                    case cc3 => unfold maxLen; omega
                    case cc4 => omega
                    case cc5 => simp; omega
                    intro v' w11 hown' hgrow _
                    have hbn := ((unhide HB10).alloc (by omega) (.cells #[.int .i64 st.kind, .int .i64 st.inn, .int .i64 st.out] 50)).grown hgrow (by simp; omega) (fun j hj => (World.ownsRow.lt hown j hj).1)
                    have HO11 : Hid (w11.ownsRow w3.heap.size 50 3 v' (done ++ [st]).length (stepVs (done ++ [st]))) := by
                      show World.ownsRow _ _ _ _ _ _ _
                      have es : stepVs (done ++ [st]) = stepVs done ++ stepVs [st] := by simp [stepVs]
                      rw [es]
                      simpa using hown'
                    have HB11 := hide hbn
                    have hta := (unhide HT9).grownT (World.grownBy_alloc w9 (.cells #[.int .i64 st.kind, .int .i64 st.inn, .int .i64 st.out] 50) none) (fun j e => by cases e)
                    have HT11 := hide (hta.grownT hgrow (fun j hj => by
                      obtain ⟨c, hc⟩ := row_ty (hown.alloc (.cells #[.int .i64 st.kind, .int .i64 st.inn, .int .i64 st.out] 50)) j hj
                      exact ⟨(World.ownsRow.lt hown j hj).1, c, _, _, by decide, hc⟩))
                    clear hown hown' hgrow hbn hta HB10 HT9 c0 c1 c2
                    go_wp2_with fail
                    go_roundw
                    case rel => exact ⟨n, t, done ++ [st], ua, uc, rfl, by rw [unhide HTG], by rw [unhide HTG]; exact HT11, HG2, HE3, by show _ ≤ _; have := unhide HLE; simp; omega, HO11, HB11⟩
                    case measure => have := unhide HR1; simp [intOf]; omega
              · have j1 : ¬ (k : Int) < (L.length : Int) := by omega
                have hke : L.take k = L := List.take_of_length_le (by omega)
                have hn := unhide HN
                rw [hke] at hn
                have HE3 := hide (show done ++ planTo l room Z n s = planTo l room Z R A by rw [← unhide HPL, unhide HUNF hn])
                clear hke hn HN
                go_wp2_with fail
                go_roundw
                case rel => exact ⟨n, s, done, na, nc, rfl, by rw [unhide HSS], by rw [unhide HSS]; exact HH, HG, HE3, hdl, HO, hide ((unhide HBO).trans ((unhide HB).mono (by omega)))⟩
                case measure => have := unhide HR1; simp [intOf]; omega
end Go.Proofs.YthkhaemlcmkkjasGreat
