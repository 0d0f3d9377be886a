/- The specification's search in memory. The specification's search: find. -/
import Derived.Test.YthkhaemlcmkkjarGSu
import Derived.Test.YthkhaemlcmkkjarGFu
import Derived.Test.YthkhaemlcmkkjarGDcn
import Derived.Maps.AppendAt
import Derived.Test.YthkhaemlcmkkjarGFs
namespace Go.Proofs.Ythkhaemlcmkkjar
set_option linter.unusedVariables false
set_option linter.unusedSimpArgs false
open Go.RowKit Go.Deep Go.Sort

theorem heap_set {w : World} {g i : Nat} {C : Array Value} {T : TypeId} {f : Nat × Nat} {v : Value} (h : w.heap[g]? = some (.cells C T f)) : (w.setCell ⟨g, i, none⟩ v).heap[g]? = some (.cells (C.setIfInBounds i v) T f) := by
  unfold World.setCell
  simp [Array.getElem?_modify, h]
theorem own_keptS {w w' : World} {B sz n : Nat} {e : TypeId} {v : Value} {xs : List Value} (h : w.ownsRow B e sz v n xs) (hb : ∀ g, v.ownBlock = some g → w'.heap[g]? = w.heap[g]?) : w'.ownsRow B e sz v n xs := by
  refine ⟨h.1, h.2.imp id ?_⟩
  rintro ⟨g, cap, cur, hv, hB, hc, r⟩
  exact ⟨g, cap, cur, hv, hB, (hb g (by rw [hv]; rfl)).trans hc, r⟩
theorem own_typeS {w : World} {B sz n : Nat} {e : TypeId} {v : Value} {xs : List Value} (h : w.ownsRow B e sz v n xs) {g : Nat} (hg : v.ownBlock = some g) : ∃ cur, w.heap[g]? = some (.cells cur e (0, 0)) := by
  rcases h.2 with ⟨hv, _⟩ | ⟨g', cap, cur, hv, hB, hc, r⟩
  · rw [hv] at hg; cases hg
  · rw [hv] at hg
    simp only [Value.ownBlock, Option.some.injEq] at hg
    exact ⟨cur, by rw [← hg]; exact hc⟩
theorem lst_keptS {B : Nat} {w w' : World} {v : Value} {l : List (List Int)} {vs : List Value} (h : LstI B w v l vs) (h1 : ∀ g, v.ownBlock = some g → w'.heap[g]? = w.heap[g]?) (h2 : ∀ i g, i < l.length → (vs.getD i undef).ownBlock = some g → w'.heap[g]? = w.heap[g]?) : LstI B w' v l vs :=
  ⟨h.len, own_keptS h.own h1, fun i hi => own_keptS (h.row i hi) (h2 i · hi), h.apart⟩
/-- A search of the specification's in memory. -/
structure FdAt (w0 w : World) (G vars : Nat) (cv : Value) (most made : Nat) (P : List (List Int)) (pv : Value) (vs : List Value) : Prop where
  bel : Below w0.heap.size w0 w
  low : w0.heap.size ≤ G
  box : w.heap[G]? = some (.cells #[.int .i64 (vars : Int), cv, .int .i64 (most : Int), .int .i64 (made : Int), pv, .slice none 0 0] 83 (0, 0))
  prf : LstI w0.heap.size w pv P vs
/-- What was there stays, but for the search itself and the block of its refutation. -/
structure FdK (G : Nat) (pv : Value) (w w' : World) : Prop where
  size : w.heap.size ≤ w'.heap.size
  blk : ∀ b, b < w.heap.size → b ≠ G → pv.ownBlock ≠ some b → w'.heap[b]? = w.heap[b]?
theorem FdK.trans {G : Nat} {pv pv' : Value} {w w' w'' : World} (h : FdK G pv w w') (k : FdK G pv' w' w'') (hp : ∀ j, pv'.ownBlock = some j → pv.ownBlock = some j ∨ w.heap.size ≤ j) : FdK G pv w w'' :=
  ⟨Nat.le_trans h.size k.size, fun b hb h1 h2 => (k.blk b (Nat.lt_of_lt_of_le hb h.size) h1 (fun e => by rcases hp b e with h3 | h3; exact h2 h3; omega)).trans (h.blk b hb h1 h2)⟩
theorem FdK.of {G : Nat} {pv : Value} {w w' : World} (h : Below w.heap.size w w') : FdK G pv w w' := ⟨h.size, fun b hb _ _ => h.block b hb⟩
section
variable {w0 w w' : World} {G vars : Nat} {cv : Value} {most made : Nat} {P : List (List Int)} {pv : Value} {vs : List Value}
theorem FdAt.on (h : FdAt w0 w G vars cv most made P pv vs) (hb : Below w.heap.size w w') : FdAt w0 w' G vars cv most made P pv vs :=
  ⟨h.bel.trans (hb.mono h.bel.size), h.low, (hb.block G (Array.getElem?_eq_some_iff.1 h.box).1).trans h.box, h.prf.on hb⟩
theorem FdAt.lt (h : FdAt w0 w G vars cv most made P pv vs) : G < w.heap.size := (Array.getElem?_eq_some_iff.1 h.box).1
theorem FdAt.cell (h : FdAt w0 w G vars cv most made P pv vs) (i : Nat) : w.cell? ⟨G, i, none⟩ = #[Value.int .i64 (vars : Int), cv, .int .i64 (most : Int), .int .i64 (made : Int), pv, .slice none 0 0][i]? := cell_of_row w G i _ _ _ h.box
theorem FdAt.fz (h : FdAt w0 w G vars cv most made P pv vs) (i : Nat) : w.frozen? ⟨G, i, none⟩ = false := by unfold World.frozen?; rw [h.box]; simp
theorem FdAt.ne (h : FdAt w0 w G vars cv most made P pv vs) : pv.ownBlock ≠ some G ∧ ∀ i, i < P.length → (vs.getD i undef).ownBlock ≠ some G := by
  refine ⟨fun e => ?_, fun i hi e => ?_⟩
  · obtain ⟨c, h1⟩ := own_typeS h.prf.own e
    rw [h.box] at h1
    simp at h1
  · obtain ⟨c, h1⟩ := own_typeS (h.prf.row i hi) e
    rw [h.box] at h1
    simp at h1
/-- One choice more was made. -/
theorem FdAt.more (h : FdAt w0 w G vars cv most made P pv vs) (k : Nat) : FdAt w0 (w.setCell ⟨G, 3, none⟩ (.int .i64 (k : Int))) G vars cv most k P pv vs ∧ FdK G pv w (w.setCell ⟨G, 3, none⟩ (.int .i64 (k : Int))) := by
  have hk : ∀ b, b ≠ G → (w.setCell ⟨G, 3, none⟩ (.int .i64 (k : Int))).heap[b]? = w.heap[b]? := fun b hb => blk_setCell_other _ _ _ _ hb
  obtain ⟨n1, n2⟩ := h.ne
  refine ⟨⟨Below.setCell h.bel h.low _, h.low, by rw [heap_set h.box]; rfl, lst_keptS h.prf (fun g hg => hk g (fun e => n1 (by rw [hg, e]))) (fun i g hi hg => hk g (fun e => n2 i hi (by rw [hg, e])))⟩, ⟨by rw [nblk_setCell]; exact Nat.le_refl _, fun b _ hb _ => hk b hb⟩⟩
/-- One clause more of the refutation. -/
theorem FdAt.prove (h : FdAt w0 w G vars cv most made P pv vs) {y1 y : World} (hb : Below w.heap.size w y1) {u : Value} {c : List Int} (hu : RowI w.heap.size y1 u c) (hg : y1.grownBy y pv.ownBlock) {pv' : Value} (hown : y.ownsRow w0.heap.size 26 1 pv' (P.length + 1) (vs ++ [u])) (hfr : pv'.ownBlock = pv.ownBlock ∨ pv'.ownBlock = some y1.heap.size) :
    FdAt w0 (y.setCell ⟨G, 4, none⟩ pv') G vars cv most made (P ++ [c]) pv' (vs ++ [u]) ∧ FdK G pv w (y.setCell ⟨G, 4, none⟩ pv') ∧ ∀ j, pv'.ownBlock = some j → pv.ownBlock = some j ∨ w.heap.size ≤ j := by
  have h1 := h.on hb
  obtain ⟨n1, n2⟩ := h1.ne
  have hsn := LstI.snoc h1.prf hu h.bel.size (fun i j hi hj => (World.ownsRow.lt (h.prf.row i hi) j hj).2) hown hg
  have hlt := h1.lt
  have hbox : y.heap[G]? = _ := (hg.block G hlt (fun e => n1 e.symm)).trans h1.box
  have hk : ∀ b, b ≠ G → (y.setCell ⟨G, 4, none⟩ pv').heap[b]? = y.heap[b]? := fun b hb => blk_setCell_other _ _ _ _ hb
  have hpv : ∀ g, pv'.ownBlock = some g → g ≠ G := fun g e e2 => by
    obtain ⟨c2, h3⟩ := own_typeS hown e
    rw [e2, hbox] at h3
    simp at h3
  have hrows : ∀ i g, i < (P ++ [c]).length → ((vs ++ [u]).getD i undef).ownBlock = some g → g ≠ G := fun i g hi e e2 => by
    obtain ⟨c2, h3⟩ := own_typeS (hsn.row i hi) e
    rw [e2, hbox] at h3
    simp at h3
  have hsz := hg.size
  have hbs := hb.size
  refine ⟨⟨?_, h.low, by rw [heap_set hbox]; rfl, lst_keptS hsn (fun g hg' => hk g (hpv g hg')) (fun i g hi hg' => hk g (hrows i g hi hg'))⟩, ⟨by rw [nblk_setCell]; omega, fun b hlb h2 h3 => ?_⟩, fun j hj => ?_⟩
  · refine Below.setCell ⟨hg.os.trans h1.bel.os, hg.tape.trans h1.bel.tape, hg.output.trans h1.bel.output, Nat.le_trans h1.bel.size hsz, fun b hb' => ?_⟩ h.low _
    rw [hg.block b (Nat.lt_of_lt_of_le hb' h1.bel.size) (fun e => ?_)]
    · exact h1.bel.block b hb'
    · have := (World.ownsRow.lt h1.prf.own b e.symm).1
      omega
  · rw [hk b h2, hg.block b (by omega) (fun e => h3 e.symm), hb.block b hlb]
  · rcases hfr with e | e
    · exact .inl (by rw [← e]; exact hj)
    · right
      rw [e] at hj
      simp only [Option.some.injEq] at hj
      omega
end
/-- What find leaves. -/
def FdP (w0 : World) (G vars : Nat) (cv : Value) (most : Nat) (P : List (List Int)) (pv : Value) (w : World) (R : FindR) (e : Ending) (w' : World) : Prop :=
  e = .returned (.int .i64 R.code) ∧ ((R.code = 2 ∧ ∃ pv' vs', FdAt w0 w' G vars cv most R.made (P ++ R.proof) pv' vs' ∧ FdK G pv w w' ∧ ∀ j, pv'.ownBlock = some j → pv.ownBlock = some j ∨ w.heap.size ≤ j) ∨
    (R.code ≠ 2 ∧ Below w0.heap.size w0 w' ∧ w.heap.size ≤ w'.heap.size ∧ ∃ x0 x1 x2 x3 x4 mv, w'.heap[G]? = some (.cells #[x0, x1, x2, x3, x4, mv] 83 (0, 0)) ∧ w'.ownsRow w0.heap.size 4 1 mv R.model.length (bV R.model)))
end Go.Proofs.Ythkhaemlcmkkjar

namespace Go.Proofs.Ythkhaemlcmkkjar
set_option linter.unusedVariables false
set_option linter.unusedSimpArgs false
open Go.RowKit Go.Deep Go.Sort

/-- How long refutations are, and how many choices were made. -/
theorem find_len {cs : List (List Int)} {vars most : Nat} : ∀ (k : Nat) (ch : List Int) (n : Nat), n ≤ most → (findZ cs vars most k ch n).code = 2 → n ≤ (findZ cs vars most k ch n).made ∧ (findZ cs vars most k ch n).made ≤ most ∧ 1 ≤ (findZ cs vars most k ch n).proof.length ∧ (findZ cs vars most k ch n).proof.length + 2 * n ≤ 2 * (findZ cs vars most k ch n).made + 1
  | 0, ch, n, hn, h => by unfold findZ at h; cases h
  | k + 1, ch, n, hn, h => by
    cases hc : confB cs ch with
    | true => rw [find_conf hc]; simp; omega
    | false =>
      by_cases h1 : vars < openV (upK cs ch) vars
      · rw [find_yes hc h1] at h; cases h
      · by_cases h2 : most ≤ n
        · rw [find_long hc h1 h2] at h; cases h
        · rw [find_step hc rfl h1 h2 rfl] at h ⊢
          split at h
          · rename_i ha
            have i1 := find_len k _ _ (by omega) ha
            rw [if_pos ha]
            split at h
            · rename_i hb
              have i2 := find_len k _ _ i1.2.1 hb
              rw [if_pos hb]
              simp only [List.length_append, List.length_singleton]
              omega
            · rename_i hb; exact absurd h hb
          · rename_i ha; exact absurd h ha
theorem good_both {vars : Nat} {ch : List Int} (h : GoodC vars ch) {x : Int} (h1 : x ∈ ch) (h2 : -x ∈ ch) : False := by
  have hx := (h.2 x h1).1
  have key : ∀ l : List Int, (l.map Int.natAbs).Nodup → x ∈ l → -x ∈ l → False := fun l => by
    induction l with
    | nil => intro _ h; cases h
    | cons y l ih =>
      intro hd ha hb
      rw [List.map_cons, List.nodup_cons] at hd
      rcases List.mem_cons.1 ha with rfl | ha
      · rcases List.mem_cons.1 hb with hb | hb
        · omega
        · exact hd.1 (List.mem_map.2 ⟨-x, hb, by omega⟩)
      · rcases List.mem_cons.1 hb with hb | hb
        · exact hd.1 (List.mem_map.2 ⟨x, ha, by omega⟩)
        · exact ih hd.2 ha hb
  exact key ch h.1 h1 h2
/-- One choice more, of a variable of which nothing is known. -/
theorem good_snoc {vars : Nat} {ch : List Int} {K : Nat → Int} (h : GoodC vars ch) (hs : ∀ x, x ∈ ch → valK K x = 1) {v : Nat} (hv0 : v ≠ 0) (hv : v ≤ vars) (hk : K v = 0) {x : Int} (hx : x = (v : Int) ∨ x = -(v : Int)) : GoodC vars (ch ++ [x]) := by
  have hxa : x.natAbs = v := by rcases hx with rfl | rfl <;> omega
  refine ⟨?_, fun y hy => ?_⟩
  · rw [List.map_append, List.nodup_append]
    refine ⟨h.1, by simp, fun a ha b hb e => ?_⟩
    simp at hb
    obtain ⟨y, hy, rfl⟩ := List.mem_map.1 ha
    have h1 := hs y hy
    unfold valK at h1
    rw [e, hb, hxa, hk] at h1
    split at h1 <;> omega
  · rcases List.mem_append.1 hy with hy | hy
    · exact h.2 y hy
    · rw [List.mem_singleton] at hy
      rcases hx with rfl | rfl <;> rw [hy] <;> omega
theorem own_some {w : World} {B sz n : Nat} {e : TypeId} {v : Value} {xs : List Value} (h : w.ownsRow B e sz v n xs) (hn : 0 < n) : ∃ g c, v = .slice (some ⟨g, 0, none⟩) n c ∧ B ≤ g ∧ g < w.heap.size := by
  rcases h.2 with ⟨_, h0⟩ | ⟨g, cap, cur, hv, hB, hb, _⟩
  · omega
  · exact ⟨g, cap, hv, hB, (Array.getElem?_eq_some_iff.1 hb).1⟩
/-- The class of worlds while a model grows. -/
structure CM (w : World) (B G g i : Nat) (mv : Value) (z : Int) (n : Nat) (xs : List Value) (bb : Bool) (b : Bool) (us : List Value) (x : World) : Prop where
  cell : x.cell? ⟨G, 5, none⟩ = some mv
  fz : x.frozen? ⟨G, 5, none⟩ = false
  kc : x.cell? ⟨g, i, none⟩ = some (.int .i64 z)
  zero : us = [] → Below w.heap.size w x
  one : ∀ u, us = [u] → Below w.heap.size w x ∧ ∃ p, u = .slice (some ⟨p, 0, none⟩) 1 1 ∧ x.heap[p]? = some (.cells #[.bool bb] 4 (0, 0))
  two : ∀ u q, us = [u, q] → ∃ x1, Below w.heap.size w x1 ∧ x1.grownBy x mv.ownBlock ∧ x.ownsRow B 4 1 q (n + 1) (xs ++ [.bool bb]) ∧ (q.ownBlock = mv.ownBlock ∨ q.ownBlock = some x1.heap.size)
theorem CM.flag {w : World} {B G g i : Nat} {mv : Value} {z : Int} {n : Nat} {xs : List Value} {bb : Bool} {b b' : Bool} {us : List Value} {x : World} (h : CM w B G g i mv z n xs bb b us x) : CM w B G g i mv z n xs bb b' us x := ⟨h.cell, h.fz, h.kc, h.zero, h.one, h.two⟩
/-- A model under way. -/
def FmS (w0 : World) (G g vars : Nat) (cv : Value) (most made : Nat) (pv : Value) (K : Nat → Int) (w : World) (k : Nat) (wr : World) : Prop :=
  ∃ mv, wr.heap[G]? = some (.cells #[.int .i64 (vars : Int), cv, .int .i64 (most : Int), .int .i64 (made : Int), pv, mv] 83 (0, 0)) ∧ wr.ownsRow w0.heap.size 4 1 mv k (bV ((modelK K vars).take k)) ∧ KnS wr g (vars + 1) K ∧ Below w0.heap.size w0 wr ∧ w.heap.size ≤ wr.heap.size ∧ ∀ j, mv.ownBlock = some j → w.heap.size ≤ j
theorem model_take (K : Nat → Int) (n : Nat) {k : Nat} (hk : k < n) : (modelK K n).take (k + 1) = (modelK K n).take k ++ [decide (0 < K (k + 1))] := by
  have h := modelK_at K n hk
  have hl : k < (modelK K n).length := by rw [modelK_len]; exact hk
  rw [List.take_succ_eq_append_getElem hl]
  rw [List.getElem?_eq_getElem hl] at h
  simp only [Option.some.injEq] at h
  rw [h]
/-- The two ways of a choice. -/
def LpS (w0 : World) (G vars : Nat) (cv : Value) (most : Nat) (pv : Value) (P : List (List Int)) (made : Nat) (w : World) (kk : Nat) (A B : FindR) (wr : World) : Prop :=
  ∃ mk Pk pvk vsk, FdAt w0 wr G vars cv most mk Pk pvk vsk ∧ FdK G pv w wr ∧ (∀ j, pvk.ownBlock = some j → pv.ownBlock = some j ∨ w.heap.size ≤ j) ∧
    (kk = 0 → mk = made + 1 ∧ Pk = P) ∧ (kk = 1 → A.code = 2 ∧ mk = A.made ∧ Pk = P ++ A.proof) ∧ (kk = 2 → A.code = 2 ∧ B.code = 2 ∧ mk = B.made ∧ Pk = P ++ A.proof ++ B.proof)

set_option maxRecDepth 100000 in
set_option maxHeartbeats 16000000 in
theorem find_any (vars : Nat) (cs : List (List Int)) (hok : cnfB (vars : Int) cs = true) (most : Nat) (hm3 : most ≤ 3000) (w0 : World) (a : Option Addr) (cap : Nat) (hA : ClsAt w0 a cs) (G : Nat) : ∀ (k : Nat) (ch : List Int) (hk : k + ch.length = 401) (hG : GoodC vars ch) (w : World) (made : Nat) (hmade : made ≤ most) (P : List (List Int)) (pv : Value) (vs : List Value) (hP : P.length + wtS ch ≤ 2 * made) (h : FdAt w0 w G vars (.slice a cs.length cap) most made P pv vs) (cg cc : Nat) (hch : w.ownsRow w0.heap.size 3 1 (.slice (some ⟨cg, 0, none⟩) ch.length cc) ch.length (iV ch)),
    Calls Try.prog 38 #[.pointer (some ⟨G, 0, none⟩), .slice (some ⟨cg, 0, none⟩) ch.length cc] w fun e w' => FdP w0 G vars (.slice a cs.length cap) most P pv w (findZ cs vars most k ch made) e w' := by
  have hv4 : vars ≤ 400 := by have := cnf_vars hok; omega
  have hnz := cnf_nz hok
  have hlits := cnf_lits hok
  have hcl : cs.length ≤ 6000 := by
    simp only [cnfB, Bool.and_eq_true, decide_eq_true_eq] at hok
    exact hok.2.1
  intro k
  induction k with
  | zero =>
    intro ch hk hG
    have := hG.len
    omega
  | succ k ih =>
    intro ch hk hG w made hmade P pv vs hP h cg cc hch
    obtain ⟨i0, hi, hz0, hz1, hz2⟩ := info_parts Try.infoI
    obtain ⟨i1, hj, hy0, hy1, hy2⟩ := info_parts Try.infoIs
    have hcl4 := hG.len
    have x0 := h.cell 0
    have x1 := h.cell 1
    have x2 := h.cell 2
    have x3 := h.cell 3
    simp only [List.getElem?_toArray, List.getElem?_cons_zero, List.getElem?_cons_succ] at x0 x1 x2 x3
    have hGl := h.lt
    have hlow := h.low
    have hcs : SetAt w (some ⟨cg, 0, none⟩) ch := ⟨by omega, .inr ⟨cg, 0, rfl, (World.ownsRow.lt hch cg rfl).2, fun i hi => by
      rw [Nat.zero_add, hch.cellAt i (by omega)]
      simp [iV, List.getD, hi]⟩⟩
    have HKN := hide (l11Known_any vars hv4 (some ⟨cg, 0, none⟩) ch cc (by omega) (fun x hx => hG.2 x hx) w hcs)
    obtain ⟨g, hg⟩ : ∃ g, g = w.heap.size := ⟨_, rfl⟩
    have HH := hide h
    have HCH := hide hch
    have HG := hide hG
    have HP := hide hP
    have HIH := hide ih
    have HA := hide hA
    have HNZ := hide hnz
    have HLI := hide hlits
    have hPl : P.length ≤ 6000 := by omega
    have hcgl := (World.ownsRow.lt hch cg rfl).2
    have hbase := h.bel.size
    clear h hG hP ih hcs
    go_enter Try.func38, Try.ntmps38
    go_wp2_with fail
    refine (unhide HKN).mono ?_
    rintro e w1 ⟨ok, K1, rfl, hk1, b1, hl1⟩
    obtain rfl : ok = true := by
      cases ok with
      | true => rfl
      | false =>
        obtain ⟨x, hx1, hx2⟩ := hl1.both rfl
        exact (good_both (unhide HG) hx1 hx2).elim
    have HB01 := hide ((unhide HH).bel.trans (b1.mono hbase))
    rw [← hg] at hk1 ⊢
    rw [← b1.cell (p := ⟨G, _, none⟩) hGl] at x0 x1 x2 x3
    have HB1 := hide b1
    have HCL := hide (l11Close_any vars hv4 cs ch (unhide HLI) (by omega) w0 w1 (unhide HB01) a cap (unhide HA) g (vars + 1) (by omega) K1 hk1 (hl1.inv cs))
    have hg1 := hk1.lt (by omega)
    have HINV := hide (hl1.inv cs)
    have HGE := hide hg
    have hgw : w.heap.size ≤ g := by omega
    clear hk1 b1 hl1 HKN hg
    go_wp2_with fail
    refine (unhide HCL).mono ?_
    rintro e w2 ⟨K, hk2, hi2, hg2, hor⟩
    have b2 : Below w.heap.size w w2 := (unhide HB1).trans (grownS_below hg2 hgw (unhide HB1).size)
    have hF2 := (unhide HH).on b2
    have x0 : w2.cell? ⟨G, 0, none⟩ = some (.int .i64 (vars : Int)) := by have := hF2.cell 0; simpa using this
    have x2 : w2.cell? ⟨G, 2, none⟩ = some (.int .i64 (most : Int)) := by have := hF2.cell 2; simpa using this
    have x3 : w2.cell? ⟨G, 3, none⟩ = some (.int .i64 (made : Int)) := by have := hF2.cell 3; simpa using this
    have hch2 := ownsRow_on (unhide HCH) b2
    have hgl2 := hk2.lt (by omega)
    have HF2 := hide hF2
    have HB2 := hide b2
    have HCH2 := hide hch2
    have hz2' := b2.size
    clear hg2 hF2 b2 hch2 HCL HB1 HINV HB01 hg1 x1
    rcases hor with ⟨rfl, hfull⟩ | ⟨rfl, hcf⟩
    · have hncf : confB cs ch = false := confB_false (hfull.fine (unhide HNZ) (fun x hx => ((unhide HG).2 x hx).1))
      have hup : ∀ v, v ≠ 0 → K v = upK cs ch v := fun v hv => full_is (unhide HNZ) hi2.tri hi2.sound hfull v hv
      have hop : openV K vars = openV (upK cs ch) vars := openF_same vars 1 (by omega) hup
      have hmod : modelK K vars = modelK (upK cs ch) vars := by
        unfold modelK
        refine List.map_congr_left fun i _ => ?_
        rw [hup (i + 1) (by omega)]
      have HNC := hide hncf
      have HOP := hide hop
      have HMO := hide hmod
      have HALL := hide hfull.1
      have HTR := hide (fun v => hi2.tri v)
      have HK2 := hide hk2
      clear hncf hup hop hmod hi2 hfull hk2
      go_wp2_with fail
      go_loopw [9] (fun kv wr => ∃ q : Nat, q ≤ vars ∧ kv = .int .i64 ((q + 1 : Nat) : Int) ∧ Hid (openV K vars = openF K (vars - q) (q + 1)) ∧ wr = w2) (fun kv _ => vars + 1 - (intOf kv).toNat)
      case atStart => exact ⟨0, Nat.zero_le _, rfl, rfl, rfl⟩
      case round =>
        rename World => wo
        obtain ⟨q, hql, rfl, HO, hww⟩ := hrel
        subst hww
        by_cases hlt : q < vars
        · have j1 : ((q + 1 : Nat) : Int) ≤ (vars : Int) := by omega
          have hc := (unhide HK2).cell (q + 1) (by omega)
          have hof : openF K (vars - q) (q + 1) = if K (q + 1) = 0 then q + 1 else openF K (vars - (q + 1)) (q + 1 + 1) := by
            rw [show vars - q = (vars - (q + 1)) + 1 by omega, openF]
          obtain ⟨v, hv⟩ : ∃ v, v = q + 1 := ⟨_, rfl⟩
          rw [← hv] at hc hof j1 HO ⊢
          have v0 : (0 : Int) ≤ (v : Int) := by omega
          have v1 : (v : Int) < ((vars + 1 : Nat) : Int) := by omega
          have v1' : (v : Int) < (vars : Int) + 1 := by omega
          have vn : v < vars + 1 := by omega
          obtain ⟨z, hz⟩ : ∃ z, z = K v := ⟨_, rfl⟩
          rw [← hz] at hc hof
          have HZ := hide hz
          have HQ := hide hv
          by_cases h0 : z = 0
          · subst h0
            rw [if_pos rfl] at hof
            have HV := hide ((unhide HO).trans hof)
            have hz0' : ((0 : Int) != 0) = false := rfl
            have hvp : 0 < v := by omega
            clear hof hv hz HO
            by_cases hlong : most ≤ made
            · have hge : (most : Int) ≤ (made : Int) := by omega
              have HFIN : Hid (FdP w0 G vars (.slice a cs.length cap) most P pv w (findZ cs vars most (k + 1) ch made) (.returned (.int .i64 3)) (wo.drewN 0)) := by
                show FdP _ _ _ _ _ _ _ _ _ _ _
                rw [find_long (unhide HNC) (by rw [← unhide HOP, unhide HV]; omega) hlong]
                exact ⟨rfl, .inr ⟨(by intro h; cases h), (unhide HF2).bel, hz2', _, _, _, _, _, _, (unhide HF2).box, World.ownsRow_nil _ _ _ _⟩⟩
              have HFI : Hid (∀ n, FdP w0 G vars (.slice a cs.length cap) most P pv w (findZ cs vars most (k + 1) ch made) (.returned (.int .i64 3)) (wo.drewN n)) := fun n => by
                rw [find_long (unhide HNC) (by rw [← unhide HOP, unhide HV]; omega) hlong]
                have bq := ((Drawn.refl wo).more n).below wo.heap.size
                exact ⟨rfl, .inr ⟨(by intro h; cases h), ((unhide HF2).on bq).bel, Nat.le_trans hz2' bq.size, _, _, _, _, _, _, ((unhide HF2).on bq).box, World.ownsRow_nil _ _ _ _⟩⟩
              clear HFIN
              go_wp2_with fail
              go_quiet (fail)
              go_wp2_with fail
              go_ret
              exact unhide HFI nq
            · have hge : ¬ (most : Int) ≤ (made : Int) := by omega
              have hadd : IntKind.i64.wrap ((made : Int) + 1) = ((made + 1 : Nat) : Int) := by rw [IntKind.wrap_i64]; omega
              have hvneg : IntKind.i64.wrap (-(v : Int)) = -(v : Int) := by rw [IntKind.wrap_i64]; omega
              obtain ⟨A, hAe⟩ : ∃ A, A = findZ cs vars most k (ch ++ [-(v : Int)]) (made + 1) := ⟨_, rfl⟩
              obtain ⟨Bq, hBe⟩ : ∃ Bq, Bq = findZ cs vars most k (ch ++ [(v : Int)]) A.made := ⟨_, rfl⟩
              have HST := hide (find_step (k := k) (most := most) (unhide HNC) ((unhide HV).symm.trans (unhide HOP)) (by omega) hlong hAe)
              rw [← hBe] at HST
              have HAE := hide hAe
              have HBE := hide hBe
              go_wp2_with fail
              go_quiet (fail)
              obtain ⟨w3, hw3⟩ : ∃ w3, w3 = wo.drewN nq := ⟨_, rfl⟩
              have b3 : Below wo.heap.size wo w3 := by rw [hw3]; exact ((Drawn.refl wo).more nq).below _
              rw [← hw3]
              have hF3 := (unhide HF2).on b3
              have c3 : w3.cell? ⟨G, 3, none⟩ = some (.int .i64 (made : Int)) := by have := hF3.cell 3; simpa using this
              have f3 := hF3.fz 3
              obtain ⟨hF4, hK4⟩ := hF3.more (made + 1)
              have HL0 : Hid (LpS w0 G vars (.slice a cs.length cap) most pv P made w 0 A Bq (w3.setCell ⟨G, 3, none⟩ (.int .i64 ((made + 1 : Nat) : Int)))) := ⟨made + 1, P, pv, vs, hF4, ((FdK.of (unhide HB2)).trans (FdK.of b3 (G := G) (pv := pv)) (fun j hj => .inl hj)).trans hK4 (fun j hj => .inl hj), fun j hj => .inl hj, fun _ => ⟨rfl, rfl⟩, (fun h => by cases h), (fun h => by cases h)⟩
              clear hw3 b3 hF3 hF4 hK4 hAe hBe
              go_wp2_with fail
              go_loopw [11] (fun kv wr => ∃ kk : Nat, kk ≤ 2 ∧ kv = .int .i64 (kk : Int) ∧ Hid (LpS w0 G vars (.slice a cs.length cap) most pv P made w kk A Bq wr)) (fun kv _ => 2 - (intOf kv).toNat)
              case atStart => exact ⟨0, by omega, rfl, HL0⟩
              case round =>
                rename World => wp
                obtain ⟨kk, hkk, rfl, HL⟩ := hrel
                obtain ⟨mk, Pk, pvk, vsk, hFk, hKk, hpk, h0k, h1k, h2k⟩ := unhide HL
                have hk3 : kk = 0 ∨ kk = 1 ∨ kk = 2 := by omega
                rcases hk3 with rfl | rfl | rfl
                · obtain ⟨e1, e2⟩ := h0k rfl
                  have hmk : mk ≤ most := by omega
                  have hPk : Pk.length + (wtS ch + 2) ≤ 2 * mk := by rw [e1, e2]; have := unhide HP; omega
                  have hRk : A = findZ cs vars most k (ch ++ [-(v : Int)]) mk := by rw [e1]; exact unhide HAE
                  have HPE := hide e2
                  have HME := hide e1
                  clear h0k h1k h2k e1 e2 HL
                  have hxk : GoodC vars (ch ++ [-(v : Int)]) := good_snoc (unhide HG) (unhide HALL) (by omega) (by omega) (unhide HZ).symm (.inr rfl)
                  have hbk := hFk.bel.size
                  have bA : Below wp.heap.size wp (wp.alloc (.cells #[] 3)) := (Below.refl _ _).alloc (Nat.le_refl _) _
                  have hownA : (wp.alloc (.cells #[] 3)).ownsRow wp.heap.size 3 1 (.slice (some ⟨wp.heap.size, 0, none⟩) 0 0) 0 [] := by
                    have := World.ownsRow_made (base := wp.heap.size) (e := 3) (size := 1) wp #[] 0 (Nat.le_refl _) (Nat.zero_le _) rfl
                    simpa using this
                  have hcgne : cg ≠ G ∧ pv.ownBlock ≠ some cg := by
                    obtain ⟨c1q1, e1⟩ := own_typeS (unhide HCH) (g := cg) rfl
                    refine ⟨fun e => ?_, fun e => ?_⟩
                    · rw [e, (unhide HH).box] at e1
                      simp at e1
                    · obtain ⟨c2q1, e2⟩ := own_typeS (unhide HH).prf.own e
                      rw [e2] at e1
                      simp at e1
                  have hchp : wp.ownsRow w0.heap.size 3 1 (.slice (some ⟨cg, 0, none⟩) ch.length cc) ch.length (iV ch) := own_keptS (unhide HCH) (fun j hj => by
                    simp only [Value.ownBlock, Option.some.injEq] at hj
                    subst hj
                    exact hKk.blk cg hcgl hcgne.1 hcgne.2)
                  have hchA := ownsRow_on hchp bA
                  have hnewsA : ∀ j u, (iV ch)[j]? = some u → (wp.alloc (.cells #[] 3)).cell? ((⟨cg, 0, none⟩ : Addr).add j) = some u := fun j u hj => by
                    have hjl : j < ch.length := by
                      have := (List.getElem?_eq_some_iff.1 hj).1
                      rw [iV_len] at this
                      exact this
                    rw [show (⟨cg, 0, none⟩ : Addr).add j = ⟨cg, j, none⟩ by unfold Addr.add; split <;> simp_all, hchA.cellAt j (by omega)]
                    exact hj
                  have hnlA : (iV ch).length = ch.length * 1 := by rw [iV_len, Nat.mul_one]
                  have hoA : ∀ u ∈ iV ch, u.oneCell' = true := fun u hu => by
                    unfold iV at hu
                    obtain ⟨y, _, rfl⟩ := List.mem_map.1 hu
                    rfl
                  have zA := bA.size
                  have HFK := hide hFk
                  have HKK := hide hKk
                  have HBA := hide bA
                  have HOA := hide hownA
                  have HNA := hide hnewsA
                  have HNL := hide hnlA
                  have HOO := hide hoA
                  clear hFk hKk bA hchp hchA hownA hnewsA hnlA hoA
                  go_upto_region 28 with fail
                  go_wp2_with (first
                    | (at_builtin; refine wpList_append_own_at _ rfl _ _ 26 rfl wp.heap.size 3 i0 (.int .i64 0) 1 8 Try.underlying26 hi hz0 hz1 hz2 rfl (by decide) (.slice (some ⟨wp.heap.size, 0, none⟩) 0 0) 0 [] rfl (unhide HOA) ⟨cg, 0, none⟩ ch.length cc (iV ch) rfl (unhide HNL) (unhide HNA) (unhide HOO) ?d1q2 ?d2q2 ?d3q2 ?_))
                  case d1q2 => unfold maxLen; omega
                  case d2q2 => omega
                  case d3q2 => omega
                  intro v1' wB hownB hgB _ hfB
                  replace hownB : wB.ownsRow wp.heap.size 3 1 v1' ch.length (iV ch) := by first | exact hownB | simpa using hownB
                  have bB : Below wp.heap.size wp wB := by
                    refine ⟨hgB.os.trans (unhide HBA).os, hgB.tape.trans (unhide HBA).tape, hgB.output.trans (unhide HBA).output, Nat.le_trans zA hgB.size, fun b hb => ?_⟩
                    rw [hgB.block b (by omega) (fun e => by simp only [Value.ownBlock, Option.some.injEq] at e; omega)]
                    exact (unhide HBA).block b hb
                  obtain ⟨ba', bc', hbv⟩ := own_shape hownB
                  subst hbv
                  have zB := bB.size
                  have HBB := hide bB
                  clear hgB hfB bB
                  go_wp2_with (first
                    | (at_builtin; refine wpList_append_two rfl _ _ 26 rfl wp.heap.size 3 i0 (.int .i64 0) 1 8 Try.underlying26 hi hz0 hz1 hz2 rfl (by decide) _ _ _ rfl (hownB.alloc _) ⟨wB.heap.size, 0, none⟩ 1 [.int .i64 (-(v : Int))] rfl rfl ?c1q3 ?c2q3 ?c3q3 ?c4q3 ?c5q3 ?_))
                  case c1q3 =>
                    intro j u hj
                    match j, hj with
                    | 0, hj => simp at hj; subst hj; simp [Addr.add]
                  case c2q3 => intro u hu; simp at hu; subst hu; rfl
                  case c3q3 => unfold maxLen; omega
                  case c4q3 => omega
                  case c5q3 => simp; omega
                  intro v2' wC hownC hgC hfC
                  have bC : Below wp.heap.size wp wC := by
                    have h1 := (unhide HBB).trans (((Below.refl wB.heap.size wB).alloc (Nat.le_refl _) (.cells #[.int .i64 (-(v : Int))] 3)).mono zB)
                    refine ⟨hgC.os.trans h1.os, hgC.tape.trans h1.tape, hgC.output.trans h1.output, Nat.le_trans h1.size hgC.size, fun b hb => ?_⟩
                    rw [hgC.block b (Nat.lt_of_lt_of_le hb h1.size) (fun e => ?_)]
                    · exact h1.block b hb
                    · have := (World.ownsRow.lt hownB b e.symm).1
                      omega
                  obtain ⟨cg2, cc2, hcv2, hcg2, hcl2⟩ := own_some hownC (by omega)
                  subst hcv2
                  have hownC2 : wC.ownsRow w0.heap.size 3 1 (.slice (some ⟨cg2, 0, none⟩) (ch ++ [-(v : Int)]).length cc2) (ch ++ [-(v : Int)]).length (iV (ch ++ [-(v : Int)])) := by
                    rw [iV_snoc, List.length_append, List.length_singleton]
                    exact own_mono hownC hbk
                  have hFC := (unhide HFK).on bC
                  have zC := bC.size
                  have hwtk : wtS (ch ++ [-(v : Int)]) = wtS ch + 2 := by
                    unfold wtS
                    rw [List.map_append, List.sum_append]
                    simp [wt1] <;> omega
                  have HRC := hide (unhide HIH (ch ++ [-(v : Int)]) (by simp; omega) hxk wC mk hmk Pk pvk vsk (by rw [hwtk]; exact hPk) hFC cg2 cc2 hownC2)
                  rw [List.length_append, List.length_singleton, ← hRk] at HRC
                  clear hRk
                  have HKC := hide ((unhide HKK).trans (FdK.of bC (G := G) (pv := pvk)) hpk)
                  have HPK := hide hpk
                  clear hownB hgC hfC bC hownC hownC2 hFC hxk hwtk
                  go_wp2_with fail
                  refine (unhide HRC).mono ?_
                  rintro e wD ⟨rfl, hor⟩
                  rcases hor with ⟨hc2, pv', vs', hFD, hKD, hpD⟩ | ⟨hc2, hbD, hzD, hrest⟩
                  · have hne2 : (A.code != 2) = false := by rw [hc2]; rfl
                    have HLN : Hid (LpS w0 G vars (.slice a cs.length cap) most pv P made w 1 A Bq wD) := ⟨A.made, P ++ A.proof, pv', vs', by rw [← unhide HPE]; exact hFD, (unhide HKC).trans hKD (fun j hj => (unhide HPK) j hj), fun j hj => by
                      rcases hpD j hj with h | h
                      · exact unhide HPK j h
                      · right
                        have := (unhide HKC).size
                        omega, (fun h => by cases h), fun _ => ⟨hc2, rfl, rfl⟩, (fun h => by cases h)⟩
                    clear hFD hKD hpD HRC
                    go_wp2_with fail
                    go_roundw
                    case rel => exact ⟨1, by omega, by simp, HLN⟩
                    case measure => simp [intOf]
                  · have hne2 : (A.code != 2) = true := by rw [bne_iff_ne]; exact hc2
                    have HFIN : Hid (FdP w0 G vars (.slice a cs.length cap) most P pv w (findZ cs vars most (k + 1) ch made) (.returned (.int .i64 A.code)) wD) := by
                      show FdP _ _ _ _ _ _ _ _ _ _ _
                      rw [unhide HST, if_neg hc2]
                      have := (unhide HKC).size
                      exact ⟨rfl, .inr ⟨hc2, hbD, by omega, hrest⟩⟩
                    clear hbD hzD hrest HRC
                    go_wp2_with fail
                    go_ret
                    exact unhide HFIN
                · obtain ⟨e0, e1, e2⟩ := h1k rfl
                  have hlen := find_len (cs := cs) (vars := vars) (most := most) k (ch ++ [-(v : Int)]) (made + 1) (by omega) (by rw [← unhide HAE]; exact e0)
                  rw [← unhide HAE] at hlen
                  have hmk : mk ≤ most := by rw [e1]; exact hlen.2.1
                  have hPk : Pk.length + (wtS ch + 1) ≤ 2 * mk := by rw [e1, e2, List.length_append]; have := unhide HP; omega
                  have hRk : Bq = findZ cs vars most k (ch ++ [(v : Int)]) mk := by rw [e1]; exact unhide HBE
                  have HPE := hide e2
                  have HA2 := hide e0
                  clear h0k h1k h2k e1 e2 e0 HL hlen
                  have hxk : GoodC vars (ch ++ [(v : Int)]) := good_snoc (unhide HG) (unhide HALL) (by omega) (by omega) (unhide HZ).symm (.inl rfl)
                  have hbk := hFk.bel.size
                  have bA : Below wp.heap.size wp (wp.alloc (.cells #[] 3)) := (Below.refl _ _).alloc (Nat.le_refl _) _
                  have hownA : (wp.alloc (.cells #[] 3)).ownsRow wp.heap.size 3 1 (.slice (some ⟨wp.heap.size, 0, none⟩) 0 0) 0 [] := by
                    have := World.ownsRow_made (base := wp.heap.size) (e := 3) (size := 1) wp #[] 0 (Nat.le_refl _) (Nat.zero_le _) rfl
                    simpa using this
                  have hcgne : cg ≠ G ∧ pv.ownBlock ≠ some cg := by
                    obtain ⟨c1r1, e1⟩ := own_typeS (unhide HCH) (g := cg) rfl
                    refine ⟨fun e => ?_, fun e => ?_⟩
                    · rw [e, (unhide HH).box] at e1
                      simp at e1
                    · obtain ⟨c2r1, e2⟩ := own_typeS (unhide HH).prf.own e
                      rw [e2] at e1
                      simp at e1
                  have hchp : wp.ownsRow w0.heap.size 3 1 (.slice (some ⟨cg, 0, none⟩) ch.length cc) ch.length (iV ch) := own_keptS (unhide HCH) (fun j hj => by
                    simp only [Value.ownBlock, Option.some.injEq] at hj
                    subst hj
                    exact hKk.blk cg hcgl hcgne.1 hcgne.2)
                  have hchA := ownsRow_on hchp bA
                  have hnewsA : ∀ j u, (iV ch)[j]? = some u → (wp.alloc (.cells #[] 3)).cell? ((⟨cg, 0, none⟩ : Addr).add j) = some u := fun j u hj => by
                    have hjl : j < ch.length := by
                      have := (List.getElem?_eq_some_iff.1 hj).1
                      rw [iV_len] at this
                      exact this
                    rw [show (⟨cg, 0, none⟩ : Addr).add j = ⟨cg, j, none⟩ by unfold Addr.add; split <;> simp_all, hchA.cellAt j (by omega)]
                    exact hj
                  have hnlA : (iV ch).length = ch.length * 1 := by rw [iV_len, Nat.mul_one]
                  have hoA : ∀ u ∈ iV ch, u.oneCell' = true := fun u hu => by
                    unfold iV at hu
                    obtain ⟨y, _, rfl⟩ := List.mem_map.1 hu
                    rfl
                  have zA := bA.size
                  have HFK := hide hFk
                  have HKK := hide hKk
                  have HBA := hide bA
                  have HOA := hide hownA
                  have HNA := hide hnewsA
                  have HNL := hide hnlA
                  have HOO := hide hoA
                  clear hFk hKk bA hchp hchA hownA hnewsA hnlA hoA
                  go_upto_region 28 with fail
                  go_wp2_with (first
                    | (at_builtin; refine wpList_append_own_at _ rfl _ _ 26 rfl wp.heap.size 3 i0 (.int .i64 0) 1 8 Try.underlying26 hi hz0 hz1 hz2 rfl (by decide) (.slice (some ⟨wp.heap.size, 0, none⟩) 0 0) 0 [] rfl (unhide HOA) ⟨cg, 0, none⟩ ch.length cc (iV ch) rfl (unhide HNL) (unhide HNA) (unhide HOO) ?d1r2 ?d2r2 ?d3r2 ?_))
                  case d1r2 => unfold maxLen; omega
                  case d2r2 => omega
                  case d3r2 => omega
                  intro v1' wB hownB hgB _ hfB
                  replace hownB : wB.ownsRow wp.heap.size 3 1 v1' ch.length (iV ch) := by first | exact hownB | simpa using hownB
                  have bB : Below wp.heap.size wp wB := by
                    refine ⟨hgB.os.trans (unhide HBA).os, hgB.tape.trans (unhide HBA).tape, hgB.output.trans (unhide HBA).output, Nat.le_trans zA hgB.size, fun b hb => ?_⟩
                    rw [hgB.block b (by omega) (fun e => by simp only [Value.ownBlock, Option.some.injEq] at e; omega)]
                    exact (unhide HBA).block b hb
                  obtain ⟨ba', bc', hbv⟩ := own_shape hownB
                  subst hbv
                  have zB := bB.size
                  have HBB := hide bB
                  clear hgB hfB bB
                  go_wp2_with (first
                    | (at_builtin; refine wpList_append_two rfl _ _ 26 rfl wp.heap.size 3 i0 (.int .i64 0) 1 8 Try.underlying26 hi hz0 hz1 hz2 rfl (by decide) _ _ _ rfl (hownB.alloc _) ⟨wB.heap.size, 0, none⟩ 1 [.int .i64 ((v : Int))] rfl rfl ?c1r3 ?c2r3 ?c3r3 ?c4r3 ?c5r3 ?_))
                  case c1r3 =>
                    intro j u hj
                    match j, hj with
                    | 0, hj => simp at hj; subst hj; simp [Addr.add]
                  case c2r3 => intro u hu; simp at hu; subst hu; rfl
                  case c3r3 => unfold maxLen; omega
                  case c4r3 => omega
                  case c5r3 => simp; omega
                  intro v2' wC hownC hgC hfC
                  have bC : Below wp.heap.size wp wC := by
                    have h1 := (unhide HBB).trans (((Below.refl wB.heap.size wB).alloc (Nat.le_refl _) (.cells #[.int .i64 ((v : Int))] 3)).mono zB)
                    refine ⟨hgC.os.trans h1.os, hgC.tape.trans h1.tape, hgC.output.trans h1.output, Nat.le_trans h1.size hgC.size, fun b hb => ?_⟩
                    rw [hgC.block b (Nat.lt_of_lt_of_le hb h1.size) (fun e => ?_)]
                    · exact h1.block b hb
                    · have := (World.ownsRow.lt hownB b e.symm).1
                      omega
                  obtain ⟨cg2, cc2, hcv2, hcg2, hcl2⟩ := own_some hownC (by omega)
                  subst hcv2
                  have hownC2 : wC.ownsRow w0.heap.size 3 1 (.slice (some ⟨cg2, 0, none⟩) (ch ++ [(v : Int)]).length cc2) (ch ++ [(v : Int)]).length (iV (ch ++ [(v : Int)])) := by
                    rw [iV_snoc, List.length_append, List.length_singleton]
                    exact own_mono hownC hbk
                  have hFC := (unhide HFK).on bC
                  have zC := bC.size
                  have hwtk : wtS (ch ++ [(v : Int)]) = wtS ch + 1 := by
                    unfold wtS
                    rw [List.map_append, List.sum_append]
                    simp [wt1] <;> omega
                  have HRC := hide (unhide HIH (ch ++ [(v : Int)]) (by simp; omega) hxk wC mk hmk Pk pvk vsk (by rw [hwtk]; exact hPk) hFC cg2 cc2 hownC2)
                  rw [List.length_append, List.length_singleton, ← hRk] at HRC
                  clear hRk
                  have HKC := hide ((unhide HKK).trans (FdK.of bC (G := G) (pv := pvk)) hpk)
                  have HPK := hide hpk
                  clear hownB hgC hfC bC hownC hownC2 hFC hxk hwtk
                  go_wp2_with fail
                  refine (unhide HRC).mono ?_
                  rintro e wD ⟨rfl, hor⟩
                  rcases hor with ⟨hc2, pv', vs', hFD, hKD, hpD⟩ | ⟨hc2, hbD, hzD, hrest⟩
                  · have hne2 : (Bq.code != 2) = false := by rw [hc2]; rfl
                    have HLN : Hid (LpS w0 G vars (.slice a cs.length cap) most pv P made w 2 A Bq wD) := ⟨Bq.made, P ++ A.proof ++ Bq.proof, pv', vs', by rw [← unhide HPE]; exact hFD, (unhide HKC).trans hKD (fun j hj => (unhide HPK) j hj), fun j hj => by
                      rcases hpD j hj with h | h
                      · exact unhide HPK j h
                      · right
                        have := (unhide HKC).size
                        omega, (fun h => by cases h), (fun h => by cases h), fun _ => ⟨unhide HA2, hc2, rfl, rfl⟩⟩
                    clear hFD hKD hpD HRC
                    go_wp2_with fail
                    go_roundw
                    case rel => exact ⟨2, by omega, by simp, HLN⟩
                    case measure => simp [intOf]
                  · have hne2 : (Bq.code != 2) = true := by rw [bne_iff_ne]; exact hc2
                    have HFIN : Hid (FdP w0 G vars (.slice a cs.length cap) most P pv w (findZ cs vars most (k + 1) ch made) (.returned (.int .i64 Bq.code)) wD) := by
                      show FdP _ _ _ _ _ _ _ _ _ _ _
                      rw [unhide HST, if_pos (unhide HA2), if_neg hc2]
                      have := (unhide HKC).size
                      exact ⟨rfl, .inr ⟨hc2, hbD, by omega, hrest⟩⟩
                    clear hbD hzD hrest HRC
                    go_wp2_with fail
                    go_ret
                    exact unhide HFIN
                · obtain ⟨e0, e0', e1, e2⟩ := h2k rfl
                  have hlenA := find_len (cs := cs) (vars := vars) (most := most) k (ch ++ [-(v : Int)]) (made + 1) (by omega) (by rw [← unhide HAE]; exact e0)
                  rw [← unhide HAE] at hlenA
                  have hlenB := find_len (cs := cs) (vars := vars) (most := most) k (ch ++ [(v : Int)]) A.made hlenA.2.1 (by rw [← unhide HBE]; exact e0')
                  rw [← unhide HBE] at hlenB
                  have HE := hide (show findZ cs vars most (k + 1) ch made = ⟨2, [], mk, A.proof ++ Bq.proof ++ [noL ch]⟩ by rw [unhide HST, if_pos e0, if_pos e0', e1])
                  have HPE := hide e2
                  have hPkl : Pk.length ≤ 6000 := by rw [e2, List.length_append, List.length_append]; have := unhide HP; omega
                  have hcgne : cg ≠ G ∧ pv.ownBlock ≠ some cg := by
                    obtain ⟨c1, e1⟩ := own_typeS (unhide HCH) (g := cg) rfl
                    refine ⟨fun e => ?_, fun e => ?_⟩
                    · rw [e, (unhide HH).box] at e1
                      simp at e1
                    · obtain ⟨c2, e2⟩ := own_typeS (unhide HH).prf.own e
                      rw [e2] at e1
                      simp at e1
                  have HCHP := hide (show wp.ownsRow w0.heap.size 3 1 (.slice (some ⟨cg, 0, none⟩) ch.length cc) ch.length (iV ch) from own_keptS (unhide HCH) (fun j hj => by
                    simp only [Value.ownBlock, Option.some.injEq] at hj
                    subst hj
                    exact hKk.blk cg hcgl hcgne.1 hcgne.2))
                  have HFP := hide hFk
                  have HKP := hide hKk
                  have HPP := hide hpk
                  clear hFk hKk hpk h0k h1k h2k e0 e0' e1 e2 hlenA hlenB hcgne HL
                  rw [show ((2 : Nat) : Int) = 2 from rfl]
                  go_wp2_with fail
                  go_upto_region 32 with fail
                  obtain ⟨wn, hwn⟩ : ∃ wn, wn = wp.alloc (.cells #[] 3) := ⟨_, rfl⟩
                  have bn : Below wp.heap.size wp wn := by rw [hwn]; exact (Below.refl _ _).alloc (Nat.le_refl _) _
                  have hownn : wn.ownsRow wp.heap.size 3 1 (.slice (some ⟨wp.heap.size, 0, none⟩) 0 0) 0 (iV ((noL ch).take 0)) := by
                    rw [hwn, List.take_zero]
                    have := World.ownsRow_made (base := wp.heap.size) (e := 3) (size := 1) wp #[] 0 (Nat.le_refl _) (Nat.zero_le _) rfl
                    simpa [iV] using this
                  rw [← hwn]
                  have HON := hide hownn
                  have HBN := hide bn
                  clear hwn hownn bn
                  go_wp2_with fail
                  go_loopw [14, 15] (fun cv kv wr => ∃ q : Nat, q ≤ ch.length ∧ kv = .int .i64 q ∧ Hid (wr.ownsRow wp.heap.size 3 1 cv q (iV ((noL ch).take q))) ∧ Hid (Below wp.heap.size wp wr)) (fun _ kv _ => ch.length - (intOf kv).toNat)
                  case atStart => exact ⟨0, Nat.zero_le _, rfl, HON, HBN⟩
                  case round =>
                    rename World => wq
                    obtain ⟨q, hql, rfl, HO, HB⟩ := hrel
                    by_cases hlt : q < ch.length
                    · have j1 : (q : Int) < (ch.length : Int) := by omega
                      have j0 : (0 : Int) ≤ (q : Int) := by omega
                      have cgl2 := (World.ownsRow.lt (unhide HCHP) cg rfl).2
                      have c0 : wq.cell? ⟨cg, q, none⟩ = some (.int .i64 (ch.getD q 0)) := by
                        rw [(unhide HB).cell (p := ⟨cg, q, none⟩) cgl2, (unhide HCHP).cellAt q (by omega)]
                        simp [iV, List.getD, hlt]
                      have hnt := no_take ch hlt
                      have hyr := (unhide HG).2 _ (getD_mem (d := (0 : Int)) hlt)
                      generalize ch.getD q 0 = y at c0 hnt hyr
                      have hneg : IntKind.i64.wrap (-y) = -y := by rw [IntKind.wrap_i64]; omega
                      have hO1 := unhide HO
                      obtain ⟨oa, oc, hov⟩ := own_shape hO1
                      subst hov
                      have HNT := hide hnt
                      have HZB := hide (unhide HB).size
                      clear hnt
                      go_wp2_with (first
                        | (at_builtin; refine wpList_append_two rfl _ _ 26 rfl wp.heap.size 3 i0 (.int .i64 0) 1 8 Try.underlying26 hi hz0 hz1 hz2 rfl (by decide) _ _ _ rfl (hO1.alloc _) ⟨wq.heap.size, 0, none⟩ 1 [.int .i64 (-y)] rfl rfl ?c1s2 ?c2s2 ?c3s2 ?c4s2 ?c5s2 ?_))
                      case c1s2 =>
                        intro j u hj
                        match j, hj with
                        | 0, hj => simp at hj; subst hj; simp [Addr.add]
                      case c2s2 => intro u hu; simp at hu; subst hu; rfl
                      case c3s2 => unfold maxLen; omega
                      case c4s2 => omega
                      case c5s2 => have := unhide HZB; simp; omega
                      intro v' w5 hown' hgrow hfr
                      have HO5 : Hid (w5.ownsRow wp.heap.size 3 1 v' (q + 1) (iV ((noL ch).take (q + 1)))) := by
                        show World.ownsRow _ _ _ _ _ _ _
                        rw [unhide HNT, iV_snoc]
                        exact hown'
                      have HB5 : Hid (Below wp.heap.size wp w5) := by
                        have h1 := (unhide HB).trans (((Below.refl wq.heap.size wq).alloc (Nat.le_refl _) (.cells #[.int .i64 (-y)] 3)).mono (unhide HB).size)
                        refine ⟨hgrow.os.trans h1.os, hgrow.tape.trans h1.tape, hgrow.output.trans h1.output, Nat.le_trans h1.size hgrow.size, fun b hb => ?_⟩
                        rw [hgrow.block b (Nat.lt_of_lt_of_le hb h1.size) (fun e => ?_)]
                        · exact h1.block b hb
                        · have := (World.ownsRow.lt hO1 b e.symm).1
                          omega
                      clear hown' hgrow hfr hO1 c0
                      go_wp2_with fail
                      go_roundw
                      case rel => exact ⟨q + 1, by omega, by go_num, HO5, HB5⟩
                      case measure => simp [intOf]; omega
                    · have j1 : ¬ (q : Int) < (ch.length : Int) := by omega
                      have hqn : q = ch.length := by omega
                      subst hqn
                      have hrow : RowI wp.heap.size wq (.slice none 0 0) [] := World.ownsRow_nil _ _ _ _
                      have hO1 := unhide HO
                      rw [List.take_of_length_le (by simp [noL])] at hO1
                      obtain ⟨oa, oc, hov⟩ := own_shape hO1
                      subst hov
                      have hnl : ch.length = (noL ch).length := by simp [noL]
                      have hO2 : RowI wp.heap.size wq (.slice oa ch.length oc) (noL ch) := by
                        show World.ownsRow _ _ _ _ _ _ _
                        rw [← hnl]
                        exact hO1
                      have HRW := hide hO2
                      have hFp := (unhide HFP).on (unhide HB)
                      have p4 := hFp.cell 4
                      simp only [List.getElem?_toArray, List.getElem?_cons_zero, List.getElem?_cons_succ] at p4
                      have f4 := hFp.fz 4
                      have hown4 := hFp.prf.own
                      obtain ⟨ra, rc, hrv⟩ := own_shape hown4
                      subst hrv
                      have hGp := hFp.lt
                      have hne4 := hFp.ne.1
                      have hbz := (unhide HB).size
                      have hw0 := (unhide HFP).bel.size
                      clear hrow hO1 hO2 hFp HO hnl
                      go_wp2_with (first
                        | (at_builtin; refine wpList_append_two rfl _ _ 39 rfl w0.heap.size 26 i1 (.slice none 0 0) 1 24 Try.underlying39 hj hy0 hy1 hy2 rfl (by decide) _ _ _ rfl (hown4.alloc _) ⟨wq.heap.size, 0, none⟩ 1 [.slice oa ch.length oc] rfl rfl ?c1s3 ?c2s3 ?c3s3 ?c4s3 ?c5s3 ?_))
                      try case c1s3 =>
                        intro j u hj
                        match j, hj with
                        | 0, hj => simp at hj; subst hj; simp [Addr.add]
                      case c2s3 => first | (intro u hu; simp at hu; subst hu; rfl) | rfl | simp
                      case c3s3 => first | (unfold maxLen; omega) | (unfold maxLen; simp; omega)
                      case c4s3 => first | omega | (simp; omega)
                      case c5s3 => first | (simp; omega) | omega
                      intro v' w5 hown' hgrow hfr
                      have ba := (Below.refl wq.heap.size wq).alloc (Nat.le_refl _) (.cells #[.slice oa ch.length oc] 26)
                      have hy1' : Below wp.heap.size wp (wq.alloc (.cells #[.slice oa ch.length oc] 26)) := (unhide HB).trans (ba.mono hbz)
                      obtain ⟨q1, q2, q3⟩ := (unhide HFP).prove hy1' (ownsRow_on (unhide HRW) ba) hgrow (by first | exact hown' | simpa using hown') (by first | exact hfr | simpa using hfr)
                      have t4 : w5.cell? ⟨G, 4, none⟩ = some (.slice ra (Pk).length rc) := (World.cell?_of_block (w := wq.alloc (.cells #[.slice oa ch.length oc] 26)) (a := ⟨G, 4, none⟩) (hgrow.block G (by simp; omega) (fun e => hne4 e.symm))).trans ((ba.cell (p := ⟨G, 4, none⟩) hGp).trans p4)
                      have g4 : w5.frozen? ⟨G, 4, none⟩ = false := (World.frozen?_of_block (w := wq.alloc (.cells #[.slice oa ch.length oc] 26)) (a := ⟨G, 4, none⟩) (hgrow.block G (by simp; omega) (fun e => hne4 e.symm))).trans ((World.frozen?_of_block (w := wq) (a := ⟨G, 4, none⟩) (ba.block G hGp)).trans f4)
                      obtain ⟨za, zc, hzv⟩ := own_shape hown'
                      subst hzv
                      have HFIN : Hid (FdP w0 G vars (.slice a cs.length cap) most P pv w (findZ cs vars most (k + 1) ch made) (.returned (.int .i64 2)) (w5.setCell ⟨G, 4, none⟩ (.slice za (Pk.length + 1) zc))) := by
                        show FdP _ _ _ _ _ _ _ _ _ _ _
                        rw [unhide HE]
                        refine ⟨rfl, .inl ⟨rfl, .slice za (Pk.length + 1) zc, vsk ++ [.slice oa ch.length oc], ?_, (unhide HKP).trans q2 (unhide HPP), fun j hj => ?_⟩⟩
                        · have := q1
                          rw [unhide HPE] at this ⊢
                          simpa only [List.append_assoc] using this
                        · rcases q3 j hj with h | h
                          · exact unhide HPP j h
                          · right
                            have := (unhide HKP).size
                            omega
                      clear hown' hgrow hfr q1 q2 q3 hy1' ba hown4 p4 f4
                      go_wp2_with fail
                      go_ret
                      exact unhide HFIN
          · have hz : ¬ z = 0 := h0
            have hne : (z != 0) = true := by rw [bne_iff_ne]; exact h0
            rw [if_neg h0] at hof
            have hw : IntKind.i64.wrap ((v : Int) + 1) = ((v + 1 : Nat) : Int) := by rw [IntKind.wrap_i64]; omega
            have HE := hide ((unhide HO).trans hof)
            clear hof hv
            go_wp2_with fail
            go_roundw
            case rel => exact ⟨q + 1, by omega, by (have h := unhide HQ; congr 1; omega), by rw [← unhide HQ]; exact HE, trivial⟩
            case measure => have := unhide HQ; simp [intOf]; omega
        · have hkv : q = vars := by omega
          subst hkv
          have j1 : ¬ ((q + 1 : Nat) : Int) ≤ (q : Int) := by omega
          have hov : openV K q = q + 1 := by rw [unhide HO, Nat.sub_self]; rfl
          have HE := hide (show findZ cs q most (k + 1) ch made = ⟨1, modelK K q, made, []⟩ by
            rw [find_yes (unhide HNC) (by rw [← unhide HOP, hov]; omega), unhide HMO])
          have j3 : (q : Int) < ((q + 1 : Nat) : Int) := by omega
          clear HO hov
          go_wp2_with fail
          have HM0 : Hid (FmS w0 G g q (.slice a cs.length cap) most made pv K wo (1 - 1) wo) := ⟨.slice none 0 0, (unhide HF2).box, World.ownsRow_nil _ _ _ _, unhide HK2, (unhide HF2).bel, Nat.le_refl _, fun j e => by cases e⟩
          obtain ⟨i2, hl, hx0, hx1, hx2⟩ := info_parts Try.infoBool
          go_loopw [10] (fun kv wr => ∃ i : Nat, 1 ≤ i ∧ i ≤ q + 1 ∧ kv = .int .i64 (i : Int) ∧ Hid (FmS w0 G g q (.slice a cs.length cap) most made pv K wo (i - 1) wr)) (fun kv _ => q + 1 - (intOf kv).toNat)
          case atStart => exact ⟨1, Nat.le_refl _, by omega, rfl, HM0⟩
          case round =>
            rename World => wp
            obtain ⟨i, hi1, hi2, rfl, HM⟩ := hrel
            obtain ⟨mv, hbx, hmo, hkn, hbl, hsz, hmj⟩ := unhide HM
            have y0 : wp.cell? ⟨G, 0, none⟩ = some (.int .i64 (q : Int)) := by rw [cell_of_row wp G 0 _ _ _ hbx]; rfl
            have y5 : wp.cell? ⟨G, 5, none⟩ = some mv := by rw [cell_of_row wp G 5 _ _ _ hbx]; rfl
            have f5 : wp.frozen? ⟨G, 5, none⟩ = false := by unfold World.frozen?; rw [hbx]; simp
            by_cases hlt : i ≤ q
            · have j5 : (i : Int) ≤ (q : Int) := by omega
              have i0' : (0 : Int) ≤ (i : Int) := by omega
              have i1' : (i : Int) < (q : Int) + 1 := by omega
              have i1n : i < q + 1 := by omega
              have ck := hkn.cell i (by omega)
              have tri := unhide HTR i
              have hmt := model_take K q (k := i - 1) (by omega)
              rw [show i - 1 + 1 = i by omega] at hmt
              have hbb : decide (0 < K i) = (K i == 1) := by
                rcases tri with e | e | e <;> rw [e] <;> rfl
              rw [hbb] at hmt
              obtain ⟨z, hz⟩ : ∃ z, z = K i := ⟨_, rfl⟩
              rw [← hz] at ck hmt
              obtain ⟨n, hn⟩ : ∃ n, n = i - 1 := ⟨_, rfl⟩
              rw [← hn] at hmo hmt
              obtain ⟨ma, mc, hmv⟩ := own_shape hmo
              subst hmv
              have hGp := (Array.getElem?_eq_some_iff.1 hbx).1
              have hgp : g < wp.heap.size := by omega
              have HGM := hide (show (Value.slice ma n mc).ownBlock ≠ some G ∧ (Value.slice ma n mc).ownBlock ≠ some g from ⟨fun e => by have := hmj G e; omega, fun e => by have := hmj g e; omega⟩)
              have hnq : n ≤ 400 := by omega
              have HN := hide hn
              have HBX := hide hbx
              have HMO2 := hide hmo
              have HKN2 := hide hkn
              have HBL := hide hbl
              have HMJ := hide hmj
              have HMT := hide hmt
              have hw : IntKind.i64.wrap ((i : Int) + 1) = ((i + 1 : Nat) : Int) := by rw [IntKind.wrap_i64]; omega
              have hwb : w0.heap.size ≤ wp.heap.size := hbl.size
              clear hbx hkn hbl hmj hmt hz tri hbb hn HM
              go_upto_region 17 with fail
              refine wp_region_mixN (k := 100) 14 [10, 11] [.pointer (some ⟨G, 0, none⟩), .pointer (some ⟨G, 0, none⟩), .pointer (some ⟨G, 0, none⟩), .pointer (some ⟨G, 5, none⟩), .slice ma n mc, .slice (some ⟨g, 0, none⟩) (q + 1) (q + 1), .int .i64 (i : Int), .pointer (some ⟨g, i, none⟩), .int .i64 z, .bool (z == 1), undef, undef, .pointer (some ⟨G, 0, none⟩), .pointer (some ⟨G, 5, none⟩)] (CM wp w0.heap.size G g i (.slice ma n mc) z n (bV ((modelK K q).take n)) (z == 1)) (by kernel_rfl) (by kernel_rfl) (by kernel_rfl) (by kernel_rfl) (by kernel_rfl) (by kernel_rfl) ⟨y5, f5, ck, fun _ => (Below.refl _ _).drew, (fun u h => by cases h), (fun u v h => by cases h)⟩ ?_ ?_ ?_
              · intro full hfull ii oo hi hns ho y fl us hC hb
                simp [putAll, slotOf, Act.put] at hfull
                subst hfull
                have hc0 := hC.cell
                have hc1 := hC.kc
                have hC0 := hC.flag (b' := fl)
                match ii with
                | 0 => simp at ho; subst ho; simp [gwp, Region.wanted, yielded]; go_simp; first | done | exact hC0 | exact ⟨rfl, hC0⟩
                | 1 => simp at ho; subst ho; simp [gwp, Region.wanted, yielded]; go_simp; first | done | exact hC0 | exact ⟨rfl, hC0⟩
                | 2 => simp at ho; subst ho; simp [gwp, Region.wanted, yielded]; go_simp; first | done | exact hC0 | exact ⟨rfl, hC0⟩
                | 3 => simp at ho; subst ho; simp [gwp, Region.wanted, yielded]; go_simp; first | done | exact hC0 | exact ⟨rfl, hC0⟩
                | 4 => simp at ho; subst ho; simp [gwp, Region.wanted, yielded]; go_simp; first | done | exact hC0 | exact ⟨rfl, hC0⟩
                | 5 => simp at ho; subst ho; simp [gwp, Region.wanted, yielded]; go_simp; first | done | exact hC0 | exact ⟨rfl, hC0⟩
                | 6 => simp at ho; subst ho; simp [gwp, Region.wanted, yielded]; go_simp; first | done | exact hC0 | exact ⟨rfl, hC0⟩
                | 7 => simp at ho; subst ho; simp [gwp, Region.wanted, yielded]; go_simp; first | done | exact hC0 | exact ⟨rfl, hC0⟩
                | 8 => simp at ho; subst ho; simp [gwp, Region.wanted, yielded]; go_simp; first | done | exact hC0 | exact ⟨rfl, hC0⟩
                | 9 => simp at ho; subst ho; simp [gwp, Region.wanted, yielded]; go_simp; first | done | exact hC0 | exact ⟨rfl, hC0⟩
                | 12 => simp at ho; subst ho; simp [gwp, Region.wanted, yielded]; go_simp; first | done | exact hC0 | exact ⟨rfl, hC0⟩
                | 13 => simp at ho; subst ho; simp [gwp, Region.wanted, yielded]; go_simp; first | done | exact hC0 | exact ⟨rfl, hC0⟩
                | 10 => simp at hns
                | 11 => simp at hns
                | ii + 14 => omega
              · intro full hfull us j hj' oo ho y fl hC
                simp [putAll, slotOf, Act.put] at hfull
                subst hfull
                match us with
                | [] =>
                  simp at hj'
                  subst hj'
                  simp at ho
                  subst ho
                  have hb := hC.zero rfl
                  have hyz := hb.size
                  have ba := (Below.refl y.heap.size y).alloc (Nat.le_refl _) (.cells #[.bool (z == 1)] 4)
                  simp [gwp, Region.wanted, yielded, putP]
                  go_simp
                  refine ⟨?_, ?_, ?_, (fun h => by cases h), fun u hu => ?_, (fun u v h => by cases h)⟩
                  · exact (ba.cell (p := ⟨G, 5, none⟩) (by show G < y.heap.size; omega)).trans hC.cell
                  · exact (World.frozen?_of_block (w := y) (a := ⟨G, 5, none⟩) (ba.block G (by omega))).trans hC.fz
                  · exact (ba.cell (p := ⟨g, i, none⟩) (by show g < y.heap.size; omega)).trans hC.kc
                  · cases hu
                    exact ⟨hb.trans (ba.mono hyz), y.heap.size, rfl, blk_alloc_new _ _⟩
                | [u] =>
                  simp at hj'
                  subst hj'
                  simp at ho
                  subst ho
                  obtain ⟨hb, p, rfl, hp2⟩ := hC.one u rfl
                  have hyz := hb.size
                  have hownY := ownsRow_on (unhide HMO2) hb
                  have hnews : ∀ j u, [Value.bool (z == 1)][j]? = some u → y.cell? ((⟨p, 0, none⟩ : Addr).add j) = some u := fun j u hj => by
                    match j, hj with
                    | 0, hj =>
                      simp at hj
                      subst hj
                      rw [show (⟨p, 0, none⟩ : Addr).add 0 = ⟨p, 0, none⟩ by simp [Addr.add], cell_of_row y p 0 _ _ _ hp2]
                      rfl
                  simp [gwp, Region.wanted, yielded, putP, slotOf, Act.put]
                  refine opwp_append_two _ _ 44 rfl w0.heap.size 4 i2 (.bool false) 1 1 Try.underlying44 hl hx0 hx1 hx2 rfl (by decide) (.slice ma n mc) n (bV ((modelK K q).take n)) rfl hownY ⟨p, 0, none⟩ 1 [.bool (z == 1)] rfl rfl hnews (by intro u hu; simp at hu; subst hu; rfl) (by unfold maxLen; omega) (by omega) (by omega) ?_
                  intro v' y' g2 g3 g4
                  refine ⟨v', by simp [Act.put], ?_, ?_, ?_, (fun h => by cases h), (fun u h => by cases h), fun u v h => ?_⟩
                  · exact (World.cell?_of_block (w := y) (a := ⟨G, 5, none⟩) (g3.block G (by omega) (fun e => (unhide HGM).1 e.symm))).trans hC.cell
                  · exact (World.frozen?_of_block (w := y) (a := ⟨G, 5, none⟩) (g3.block G (by omega) (fun e => (unhide HGM).1 e.symm))).trans hC.fz
                  · exact (World.cell?_of_block (w := y) (a := ⟨g, i, none⟩) (g3.block g (by omega) (fun e => (unhide HGM).2 e.symm))).trans hC.kc
                  · simp at h
                    obtain ⟨rfl, rfl⟩ := h
                    exact ⟨y, hb, g3, g2, g4⟩
                | _ :: _ :: _ => simp at hj'
              · intro full hfull us y hus hC
                simp [putAll, slotOf, Act.put] at hfull
                subst hfull
                match us, hus with
                | [u, r], _ =>
                obtain ⟨y1, hb, hgrow, hown', hfr⟩ := hC.two u r rfl
                have t5 := hC.cell
                have f5' := hC.fz
                have hyz := hb.size
                have hbox1 : y.heap[G]? = _ := (hgrow.block G (by omega) (fun e => (unhide HGM).1 e.symm)).trans ((hb.block G hGp).trans (unhide HBX))
                obtain ⟨ra, rc, hrv⟩ := own_shape hown'
                subst hrv
                have hgz := hgrow.size
                have HM2 : Hid (FmS w0 G g q (.slice a cs.length cap) most made pv K wo (i + 1 - 1) (y.setCell ⟨G, 5, none⟩ (.slice ra (n + 1) rc))) := by
                  have hgG : g ≠ G := by omega
                  have hrG : ∀ j, (Value.slice ra (n + 1) rc).ownBlock = some j → wo.heap.size ≤ j := fun j e => by
                    rcases hfr with h1 | h1
                    · exact unhide HMJ j (by rw [← h1]; exact e)
                    · rw [h1] at e
                      simp only [Option.some.injEq] at e
                      omega
                  refine ⟨.slice ra (n + 1) rc, by rw [heap_set hbox1]; rfl, ?_, ?_, ?_, by rw [nblk_setCell]; omega, hrG⟩
                  · rw [Nat.add_sub_cancel, unhide HMT, show i = n + 1 by have := unhide HN; omega]
                    have := own_keptS (w' := y.setCell ⟨G, 5, none⟩ (.slice ra (n + 1) rc)) hown' (fun j e => blk_setCell_other _ _ _ _ (by show j ≠ G; have := hrG j e; omega))
                    simpa [bV] using this
                  · exact (unhide HKN2).kept (by rw [blk_setCell_other _ _ _ _ hgG, hgrow.block g (by omega) (fun e => (unhide HGM).2 e.symm), hb.block g hgp])
                  · refine Below.setCell ⟨hgrow.os.trans (hb.os.trans (unhide HBL).os), hgrow.tape.trans (hb.tape.trans (unhide HBL).tape), hgrow.output.trans (hb.output.trans (unhide HBL).output), by omega, fun b hb' => ?_⟩ hlow _
                    rw [hgrow.block b (by omega) (fun e => ?_), hb.block b (by omega)]
                    · exact (unhide HBL).block b hb'
                    · have := unhide HMJ b e.symm
                      omega
                clear hC hgrow hown' hfr hb hbox1
                simp [putP, slotOf, Act.put]
                go_wp2_with fail
                go_roundw
                case rel => exact ⟨i + 1, by omega, by omega, by go_num, HM2⟩
                case measure => simp [intOf]; omega
            · have j5 : ¬ (i : Int) ≤ (q : Int) := by omega
              have hiq : i = q + 1 := by omega
              subst hiq
              have HFIN : Hid (FdP w0 G q (.slice a cs.length cap) most P pv w (findZ cs q most (k + 1) ch made) (.returned (.int .i64 1)) wp) := by
                show FdP _ _ _ _ _ _ _ _ _ _ _
                rw [unhide HE]
                refine ⟨rfl, .inr ⟨(by intro h; cases h), hbl, by omega, _, _, _, _, _, mv, hbx, ?_⟩⟩
                show World.ownsRow _ _ _ _ _ _ _
                rw [modelK_len]
                rw [Nat.add_sub_cancel, List.take_of_length_le (by rw [modelK_len]; exact Nat.le_refl _)] at hmo
                exact hmo
              clear hbx hmo hkn hbl hsz hmj
              go_wp2_with fail
              go_ret
              exact unhide HFIN
    · have HE := hide (find_conf (vars := vars) (most := most) (k := k) (n := made) (confB_true hcf))
      clear hk2 hi2 hcf
      clear x2 x3
      go_upto_region 4 with fail
      obtain ⟨wn, hwn⟩ : ∃ wn, wn = w2.alloc (.cells #[] 3) := ⟨_, rfl⟩
      have bn : Below w2.heap.size w2 wn := by rw [hwn]; exact (Below.refl _ _).alloc (Nat.le_refl _) _
      have hownn : wn.ownsRow w2.heap.size 3 1 (.slice (some ⟨w2.heap.size, 0, none⟩) 0 0) 0 (iV ((noL ch).take 0)) := by
        rw [hwn, List.take_zero]
        have := World.ownsRow_made (base := w2.heap.size) (e := 3) (size := 1) w2 #[] 0 (Nat.le_refl _) (Nat.zero_le _) rfl
        simpa [iV] using this
      rw [← hwn]
      have HON := hide hownn
      have HBN := hide bn
      clear hwn hownn bn
      go_wp2_with fail
      go_loopw [7, 8] (fun cv kv wr => ∃ q : Nat, q ≤ ch.length ∧ kv = .int .i64 q ∧ Hid (wr.ownsRow w2.heap.size 3 1 cv q (iV ((noL ch).take q))) ∧ Hid (Below w2.heap.size w2 wr)) (fun _ kv _ => ch.length - (intOf kv).toNat)
      case atStart => exact ⟨0, Nat.zero_le _, rfl, HON, HBN⟩
      case round =>
        rename World => wp
        obtain ⟨q, hql, rfl, HO, HB⟩ := hrel
        by_cases hlt : q < ch.length
        · have j1 : (q : Int) < (ch.length : Int) := by omega
          have j0 : (0 : Int) ≤ (q : Int) := by omega
          have cgl2 := (World.ownsRow.lt (unhide HCH2) cg rfl).2
          have c0 : wp.cell? ⟨cg, q, none⟩ = some (.int .i64 (ch.getD q 0)) := by
            rw [(unhide HB).cell (p := ⟨cg, q, none⟩) cgl2, (unhide HCH2).cellAt q (by omega)]
            simp [iV, List.getD, hlt]
          have hnt := no_take ch hlt
          have hyr := (unhide HG).2 _ (getD_mem (d := (0 : Int)) hlt)
          generalize ch.getD q 0 = y at c0 hnt hyr
          have hneg : IntKind.i64.wrap (-y) = -y := by rw [IntKind.wrap_i64]; omega
          have hO1 := unhide HO
          obtain ⟨oa, oc, hov⟩ := own_shape hO1
          subst hov
          have HNT := hide hnt
          have HZB := hide (unhide HB).size
          clear hnt
          go_wp2_with (first
            | (at_builtin; refine wpList_append_two rfl _ _ 26 rfl w2.heap.size 3 i0 (.int .i64 0) 1 8 Try.underlying26 hi hz0 hz1 hz2 rfl (by decide) _ _ _ rfl (hO1.alloc _) ⟨wp.heap.size, 0, none⟩ 1 [.int .i64 (-y)] rfl rfl ?c1p2 ?c2p2 ?c3p2 ?c4p2 ?c5p2 ?_))
          case c1p2 =>
            intro j u hj
            match j, hj with
            | 0, hj => simp at hj; subst hj; simp [Addr.add]
          case c2p2 => intro u hu; simp at hu; subst hu; rfl
          case c3p2 => unfold maxLen; omega
          case c4p2 => omega
          case c5p2 => have := unhide HZB; simp; omega
          intro v' w5 hown' hgrow hfr
          have HO5 : Hid (w5.ownsRow w2.heap.size 3 1 v' (q + 1) (iV ((noL ch).take (q + 1)))) := by
            show World.ownsRow _ _ _ _ _ _ _
            rw [unhide HNT, iV_snoc]
            exact hown'
          have HB5 : Hid (Below w2.heap.size w2 w5) := by
            have h1 := (unhide HB).trans (((Below.refl wp.heap.size wp).alloc (Nat.le_refl _) (.cells #[.int .i64 (-y)] 3)).mono (unhide HB).size)
            refine ⟨hgrow.os.trans h1.os, hgrow.tape.trans h1.tape, hgrow.output.trans h1.output, Nat.le_trans h1.size hgrow.size, fun b hb => ?_⟩
            rw [hgrow.block b (Nat.lt_of_lt_of_le hb h1.size) (fun e => ?_)]
            · exact h1.block b hb
            · have := (World.ownsRow.lt hO1 b e.symm).1
              omega
          clear hown' hgrow hfr hO1 c0
          go_wp2_with fail
          go_roundw
          case rel => exact ⟨q + 1, by omega, by go_num, HO5, HB5⟩
          case measure => simp [intOf]; omega
        · have j1 : ¬ (q : Int) < (ch.length : Int) := by omega
          have hqn : q = ch.length := by omega
          subst hqn
          have hrow : RowI w2.heap.size wp (.slice none 0 0) [] := World.ownsRow_nil _ _ _ _
          have hO1 := unhide HO
          rw [List.take_of_length_le (by simp [noL])] at hO1
          obtain ⟨oa, oc, hov⟩ := own_shape hO1
          subst hov
          have hnl : ch.length = (noL ch).length := by simp [noL]
          have hO2 : RowI w2.heap.size wp (.slice oa ch.length oc) (noL ch) := by
            show World.ownsRow _ _ _ _ _ _ _
            rw [← hnl]
            exact hO1
          have HRW := hide hO2
          have hFp := (unhide HF2).on (unhide HB)
          have p4 := hFp.cell 4
          simp only [List.getElem?_toArray, List.getElem?_cons_zero, List.getElem?_cons_succ] at p4
          have f4 := hFp.fz 4
          have hown4 := hFp.prf.own
          obtain ⟨ra, rc, hrv⟩ := own_shape hown4
          subst hrv
          have hGp := hFp.lt
          have hne4 := hFp.ne.1
          have hbz := (unhide HB).size
          have hw0 := (unhide HF2).bel.size
          clear hrow hO1 hO2 hFp HO hnl
          go_wp2_with (first
            | (at_builtin; refine wpList_append_two rfl _ _ 39 rfl w0.heap.size 26 i1 (.slice none 0 0) 1 24 Try.underlying39 hj hy0 hy1 hy2 rfl (by decide) _ _ _ rfl (hown4.alloc _) ⟨wp.heap.size, 0, none⟩ 1 [.slice oa ch.length oc] rfl rfl ?c1p3 ?c2p3 ?c3p3 ?c4p3 ?c5p3 ?_))
          try case c1p3 =>
            intro j u hj
            match j, hj with
            | 0, hj => simp at hj; subst hj; simp [Addr.add]
          case c2p3 => first | (intro u hu; simp at hu; subst hu; rfl) | rfl | simp
          case c3p3 => first | (unfold maxLen; omega) | (unfold maxLen; simp; omega)
          case c4p3 => first | omega | (simp; omega)
          case c5p3 => first | (simp; omega) | omega
          intro v' w5 hown' hgrow hfr
          have ba := (Below.refl wp.heap.size wp).alloc (Nat.le_refl _) (.cells #[.slice oa ch.length oc] 26)
          have hy1' : Below w2.heap.size w2 (wp.alloc (.cells #[.slice oa ch.length oc] 26)) := (unhide HB).trans (ba.mono hbz)
          obtain ⟨q1, q2, q3⟩ := (unhide HF2).prove hy1' (ownsRow_on (unhide HRW) ba) hgrow (by first | exact hown' | simpa using hown') (by first | exact hfr | simpa using hfr)
          have t4 : w5.cell? ⟨G, 4, none⟩ = some (.slice ra (P).length rc) := (World.cell?_of_block (w := wp.alloc (.cells #[.slice oa ch.length oc] 26)) (a := ⟨G, 4, none⟩) (hgrow.block G (by simp; omega) (fun e => hne4 e.symm))).trans ((ba.cell (p := ⟨G, 4, none⟩) hGp).trans p4)
          have g4 : w5.frozen? ⟨G, 4, none⟩ = false := (World.frozen?_of_block (w := wp.alloc (.cells #[.slice oa ch.length oc] 26)) (a := ⟨G, 4, none⟩) (hgrow.block G (by simp; omega) (fun e => hne4 e.symm))).trans ((World.frozen?_of_block (w := wp) (a := ⟨G, 4, none⟩) (ba.block G hGp)).trans f4)
          obtain ⟨za, zc, hzv⟩ := own_shape hown'
          subst hzv
          have HFIN : Hid (FdP w0 G vars (.slice a cs.length cap) most P (.slice ra P.length rc) w (findZ cs vars most (k + 1) ch made) (.returned (.int .i64 2)) (w5.setCell ⟨G, 4, none⟩ (.slice za (P.length + 1) zc))) := by
            show FdP _ _ _ _ _ _ _ _ _ _ _
            rw [unhide HE]
            exact ⟨rfl, .inl ⟨rfl, _, _, q1, (FdK.of (unhide HB2)).trans q2 (fun j hj => .inl hj), fun j hj => (q3 j hj).imp id (fun h => by omega)⟩⟩
          clear hown' hgrow hfr q1 q2 q3 hy1' ba hown4 p4 f4
          go_wp2_with fail
          go_ret
          exact unhide HFIN
end Go.Proofs.Ythkhaemlcmkkjar
