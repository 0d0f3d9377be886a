/- The specification's drawn packs. -/
import Derived.Test.YthkhaemlcmkkjasGreatGDrawE
namespace Go.Proofs.YthkhaemlcmkkjasGreat
set_option linter.unusedVariables false
set_option linter.unusedSimpArgs false
open Go.RowKit Go.Deep

/-- What the operations leave that lay a new pack. -/
def T6 (rb s N k : Nat) (i : Nat) (v : Value) (w : World) : Prop := match i with
  | 0 => ∃ g, v = .slice (some ⟨g, 0, none⟩) 3 3 ∧ w.heap[g]? = some abcCells
  | 1 => v = .int .i64 k
  | 2 => ∃ r : Nat, v = .int .i64 r ∧ r < 3
  | 3 => ∃ g i, v = .pointer (some ⟨g, i, none⟩) ∧ i < 3 ∧ w.heap[g]? = some abcCells
  | 4 => ∃ t : ByteArray, v = .string t ∧ t.size ≤ maxLen
  | 5 => v = .int .i64 k
  | 6 => ∃ r : Nat, v = .int .i64 r ∧ r < 2
  | 7 => ∃ z : Int, v = .int .i64 z
  | 8 => v = .pointer (some ⟨rb, 0, none⟩)
  | 9 => ∃ r : Nat, v = .int .i64 r ∧ r < 4
  | 10 => ∃ z : Int, v = .int .i64 z
  | 11 => ∃ (t : ByteArray) (y z : Int), v = .agg #[.string t, .int .i64 y, .int .i64 z, .slice none 0 0, .slice none 0 0, .slice none 0 0] ∧ t.size ≤ maxLen
  | 12 => ∃ g, v = .pointer (some ⟨g, 0, none⟩) ∧ G2 s w N g 6
  | _ => True
structure EvS (B s N : Nat) (x y : World) : Prop where
  ev : Ev B s N N x y
  str : ∀ b, CellsOf x b 9 → y.heap[b]? = x.heap[b]?
theorem EvS.trans {B s N : Nat} {x y z : World} (h : EvS B s N x y) (k : EvS B s N y z) : EvS B s N x z :=
  ⟨h.ev.trans k.ev, fun b hb => (k.str b (hb.of_block (h.str b hb))).trans (h.str b hb)⟩
theorem EvS.of_wrote {B s N : Nat} {x y : World} (h : Wrote B isRd x y) : EvS B s N x y := ⟨Ev.of_wrote h, fun b hb => h.other hb strNotRd⟩
theorem EvS.of_below {B s N : Nat} {x y : World} (h : Below x.heap.size x y) : EvS B s N x y := ⟨Ev.of_below h, fun b hb => h.block b hb.lt⟩
theorem EvS.refl (B s N : Nat) (x : World) : EvS B s N x x := EvS.of_below (Below.refl _ _)
theorem EvS.alloc {B s N : Nat} (x : World) (o : Obj) : EvS B s N x (x.alloc o) := EvS.of_below ((Below.refl _ _).alloc (Nat.le_refl _) _)
theorem T6.on {B rb s N k i : Nat} {v : Value} {x y : World} (hx : T6 rb s N k i v x) (hE : EvS B s N x y) : T6 rb s N k i v y := by
  unfold T6 at hx ⊢
  split at hx
  · obtain ⟨g, hv, hg⟩ := hx
    exact ⟨g, hv, (hE.str g ⟨_, hg⟩).trans hg⟩
  · exact hx
  · exact hx
  · obtain ⟨g, i, hv, hi, hg⟩ := hx
    exact ⟨g, i, hv, hi, (hE.str g ⟨_, hg⟩).trans hg⟩
  · exact hx
  · exact hx
  · exact hx
  · exact hx
  · exact hx
  · exact hx
  · exact hx
  · exact hx
  · obtain ⟨g, hv, hg⟩ := hx
    exact ⟨g, hv, hE.ev.g2 _ _ hg⟩
  · trivial
theorem packV0 (s : Nat) (w : World) (N : Nat) {t : ByteArray} (ht : t.size ≤ maxLen) (y z : Int) : PackV s w N t (.int .i64 y) (.int .i64 z) (.slice none 0 0) (.slice none 0 0) (.slice none 0 0) :=
  ⟨ht, ⟨_, rfl⟩, ⟨_, rfl⟩, Or.inl rfl, Or.inl rfl, Or.inl rfl⟩
theorem setLow {s g i : Nat} (hg : s ≤ g) (x : World) (v : Value) : ∀ b, b < s → (x.setCell ⟨g, i, none⟩ v).heap[b]? = x.heap[b]? := fun b hb => blk_setCell_other _ _ _ _ (by show b ≠ g; omega)

/-- What the operations leave that append a row to a pack. -/
def T8 (rb pb s N0 : Nat) (i k : Nat) (v : Value) (w : World) : Prop := match i with
  | 0 => v = .pointer (some ⟨pb, 3, none⟩)
  | 1 => V1 s w (N0 + k) v
  | 2 => v = .pointer (some ⟨rb, 0, none⟩)
  | 3 => V0 s w (N0 + k) v
  | 4 => v = .pointer (some ⟨rb, 0, none⟩)
  | 5 => ∃ q : ReqD, v = .agg #[.string q.name, .int .i64 q.low, .int .i64 q.high] ∧ OkReq q
  | 6 => ∃ g, v = .slice (some ⟨g, 0, none⟩) 1 1 ∧ G0 s w g 3
  | 7 => V0 s w (N0 + k) v
  | 8 => ∃ g, v = .slice (some ⟨g, 0, none⟩) 1 1 ∧ G1 s w (N0 + k) g 1
  | 9 => V1 s w (N0 + k) v
  | 10 => v = .pointer (some ⟨pb, 3, none⟩)
  | _ => True
theorem T8.on {B rb pb s N0 i k : Nat} {v : Value} {x y : World} (hx : T8 rb pb s N0 i k v x) (hE : Ev B s (N0 + k) (N0 + (k + 1)) x y) : T8 rb pb s N0 i (k + 1) v y := by
  unfold T8 at hx ⊢
  split at hx
  · exact hx
  · exact hx.ev hE
  · exact hx
  · exact hx.ev hE
  · exact hx
  · exact hx
  · obtain ⟨g, hv, hg⟩ := hx
    exact ⟨g, hv, hE.g0 _ _ hg⟩
  · exact hx.ev hE
  · obtain ⟨g, hv, hg⟩ := hx
    exact ⟨g, hv, hE.g1 _ _ hg⟩
  · exact hx.ev hE
  · exact hx
  · trivial
def T10 (rb pb s N0 : Nat) (i k : Nat) (v : Value) (w : World) : Prop := match i with
  | 0 => v = .pointer (some ⟨pb, 3, none⟩)
  | 1 => V1 s w (N0 + k) v
  | 2 => v = .pointer (some ⟨rb, 0, none⟩)
  | 3 => ∃ q : ReqD, v = .agg #[.string q.name, .int .i64 q.low, .int .i64 q.high] ∧ OkReq q
  | 4 => ∃ g, v = .slice (some ⟨g, 0, none⟩) 1 1 ∧ G0 s w g 3
  | 5 => ∃ g, v = .slice (some ⟨g, 0, none⟩) 1 1 ∧ G1 s w (N0 + k) g 1
  | 6 => V1 s w (N0 + k) v
  | 7 => v = .pointer (some ⟨pb, 3, none⟩)
  | _ => True
theorem T10.on {B rb pb s N0 i k : Nat} {v : Value} {x y : World} (hx : T10 rb pb s N0 i k v x) (hE : Ev B s (N0 + k) (N0 + (k + 1)) x y) : T10 rb pb s N0 i (k + 1) v y := by
  unfold T10 at hx ⊢
  split at hx
  · exact hx
  · exact hx.ev hE
  · exact hx
  · exact hx
  · obtain ⟨g, hv, hg⟩ := hx
    exact ⟨g, hv, hE.g0 _ _ hg⟩
  · obtain ⟨g, hv, hg⟩ := hx
    exact ⟨g, hv, hE.g1 _ _ hg⟩
  · exact hx.ev hE
  · exact hx
  · trivial
theorem one_le_max : 1 ≤ maxLen := by unfold maxLen; omega
theorem eval_at (a : Act) (d : Tmp) : a.eval (.tmp d) = a.tmps[d]?.getD undef := by rw [eval_tmp, Array.getD_eq_getD_getElem?]
/-- The same, with the pack that is drawn at block g. -/
structure GS (B rb s ob rs g : Nat) (w0 : World) (N : Nat) (m : Int) (x : World) : Prop where
  g2 : G2 s x N g 6
  st : St B rb s ob rs w0 N m x
theorem GS.step {B rb s ob rs g N N' : Nat} {w0 x y : World} {m m' : Int} (h : GS B rb s ob rs g w0 N m x) (e : Ev B s N N' x y) (hr : Rd B y rb m') (h1 : ob < s) (h2 : rs < s) (h3 : w0.heap.size ≤ s) : GS B rb s ob rs g w0 N' m' y := ⟨e.g2 _ _ h.g2, h.st.step e hr h1 h2 h3⟩
theorem pack_other {x : World} {g b : Nat} (b0 b1 b2 b3 b4 b5 : Value) (h : b ≠ g) :
    ((((((x.setCell ⟨g, 0, none⟩ b0).setCell ⟨g, 1, none⟩ b1).setCell ⟨g, 2, none⟩ b2).setCell ⟨g, 3, none⟩ b3).setCell ⟨g, 4, none⟩ b4).setCell ⟨g, 5, none⟩ b5).heap[b]? = x.heap[b]? :=
  (blk_setCell_other _ ⟨g, 5, none⟩ _ _ h).trans ((blk_setCell_other _ ⟨g, 4, none⟩ _ _ h).trans ((blk_setCell_other _ ⟨g, 3, none⟩ _ _ h).trans ((blk_setCell_other _ ⟨g, 2, none⟩ _ _ h).trans ((blk_setCell_other _ ⟨g, 1, none⟩ _ _ h).trans (blk_setCell_other _ ⟨g, 0, none⟩ _ _ h)))))
theorem St.sb {B rb s ob rs N : Nat} {w0 x : World} {m : Int} (h : St B rb s ob rs w0 N m x) {v : Value} {room : Int} (hb : x.heap[ob]? = some (repoCells v room)) (hv : V2 s x N v) : SB B rb s ob rs w0 v room N m x := ⟨hb, hv, h.res, h.rd, h.wr, h.size⟩
theorem SB.st {B rb s ob rs N : Nat} {w0 x : World} {m : Int} {a : Option Addr} {n c : Nat} {room : Int} (h : SB B rb s ob rs w0 (.slice a n c) room N m x) : St B rb s ob rs w0 N m x := ⟨⟨a, n, c, room, h.box, h.val⟩, h.res, h.rd, h.wr, h.size⟩

set_option maxRecDepth 10000 in
set_option maxHeartbeats 8000000 in
theorem l71Repo_V (B rb : Nat) (m most : Int) (w : World) (h : Rd B w rb m) (hm : m ≤ 10000) (hmo : 0 ≤ most ∧ most ≤ 100) :
    Calls Tryz.prog 26 #[.pointer (some ⟨rb, 0, none⟩), .int .i64 most] w fun e w' => (∃ (v : Value) (room : Int), e = .returned (.agg #[v, .int .i64 room]) ∧ V2 w.heap.size w' 200 v) ∧ Rd B w' rb (m + 10000) ∧ Wrote B isRd w w' := by
  have hrl := h.lt
  have hpB := h.past
  go_enter Tryz.func26, Tryz.ntmps26
  go_wp2_with fail
  refine (pick_any B rb _ 9 _ (h.alloc _) (by omega) (by omega) (by omega)).mono ?_
  rintro e w1 ⟨⟨r, rfl, hr0, hr1⟩, R1, W1⟩
  have hz1 := W1.size
  simp at hz1
  have hres := W1.blk (blk_alloc_new w (.cells #[.slice none 0 0, .int .i64 0] 25 (0, 0))) repoNotRd
  have W1' := (Wrote.of_below (B := B) (ts := isRd) ((Below.refl w.heap.size w).alloc (Nat.le_refl _) (.cells #[.slice none 0 0, .int .i64 0] 25 (0, 0)))).trans W1
  have S0 : St B rb (w1.heap.size + 1) w1.heap.size w.heap.size w 2 (m + 1) (w1.alloc (.cells #[.slice none 0 0, .int .i64 (4 + r)] 25 (0, 0))) :=
    ⟨⟨none, 0, 0, 4 + r, blk_alloc_new _ _, Or.inl rfl⟩, (blk_alloc_lt _ _ _ (Nat.lt_of_lt_of_le (Nat.lt_succ_self _) hz1)).trans hres, R1.alloc _, W1'.trans (Wrote.of_below ((Below.refl _ _).alloc (Nat.le_refl _) _)), by simp⟩
  have HS0 := hide S0
  clear hres W1' S0 W1 R1
  have hw4 := wr64 (4 + r) (by omega)
  go_wp2_with fail
  go_loopw [6] (fun i wr => ∃ k : Nat, i = .int .i64 k ∧ k ≤ 6 ∧ Hid (St B rb (w1.heap.size + 1) w1.heap.size w.heap.size w (2 + 24 * k) (m + 1 + 1500 * k) wr)) (fun i _ => 6 - (intOf i).toNat)
  case atStart => exact ⟨0, rfl, by omega, by simpa using HS0⟩
  case round =>
    rename World => wr
    obtain ⟨k, rfl, hk, HS⟩ := hrel
    have hz := (unhide HS).size
    have hR := (unhide HS).rd
    obtain ⟨a, n, c, room, ho, hV⟩ := (unhide HS).out
    obtain ⟨o0, o1, of⟩ := two ho
    obtain ⟨e0, e1, ef⟩ := two (unhide HS).res
    have ef0 := ef 0
    have ef1 := ef 1
    have hn := hV.slice
    have hnc : n ≤ 200 := by
      obtain ⟨_, _, _, he, _, h2, _⟩ := hn
      simp at he
      omega
    have HF := hide (SB.fin ((unhide HS).sb ho hV) w.heap.size (by omega) (by omega) (by omega) hpB hrl)
    have HO := hide ho
    clear ho hV hn
    by_cases hk6 : k < 6
    · have hk6' : (k : Int) < 6 := by omega
      by_cases hnm : (n : Int) < most
      · go_wp2_with fail
        refine (pick_any B rb _ 4 _ hR (by omega) (by omega) (by omega)).mono ?_
        rintro e w2 ⟨⟨r2, rfl, h20, h21⟩, R2, W2⟩
        have HS2 := hide ((unhide HS).step (Ev.of_wrote W2) R2 (by omega) (by omega) (by omega))
        clear HF HO e0 e1 ef ef0 ef1 o0 o1 of hR W2 R2
        by_cases hr2 : r2 = 0
        · subst hr2
          go_wp2_with fail
          go_roundw
          case rel => 
            have S2 := unhide HS2
            exact ⟨k + 1, by go_num, by omega, S2.step ((Ev.refl _ _ _ _).more (by omega)) (S2.rd.more (by omega)) (by omega) (by omega) (by omega)⟩
          case measure => simp [intOf]; omega
        · have hr2b : (r2 == 0) = false := by simp [hr2]
          go_upto_region 6 with fail
          have hdv : Int.tdiv (k : Int) 2 = ((k / 2 : Nat) : Int) := by rw [Int.tdiv_eq_ediv_of_nonneg (by omega)]; rfl
          have hmd : Int.tmod (k : Int) 2 = ((k % 2 : Nat) : Int) := by rw [Int.tmod_eq_emod_of_nonneg (by omega)]; rfl
          have hwd := wr64 ((k / 2 : Nat) : Int) (by omega)
          have hwm := wr64 ((k % 2 : Nat) : Int) (by omega)
          have hwn := wr64 (1 + ((k % 2 : Nat) : Int)) (by omega)
          go_cut [7] from 12 to 80 (fun s7 wx => ∃ g, s7 = .pointer (some ⟨g, 0, none⟩) ∧ Hid (G2 (w1.heap.size + 1) wx (2 + 24 * k) g 6) ∧ Hid (St B rb (w1.heap.size + 1) w1.heap.size w.heap.size w (2 + 24 * k) (m + 1 + 1500 * k + 20) wx))
          case first =>
            refine wp_region_typed (by kernel_rfl) (by kernel_rfl) (by kernel_rfl) (T6 rb (w1.heap.size + 1) (2 + 24 * k) k) (fun n x => St B rb (w1.heap.size + 1) w1.heap.size w.heap.size w (2 + 24 * k) (m + 2 + 1500 * k + n) x) (EvS B (w1.heap.size + 1) (2 + 24 * k)) (fun _ _ _ h k => h.trans k) (EvS.refl _ _ _ _) (fun _ _ _ _ h k => h.on k) ?_ ?_ ?_
            · exact (unhide HS2).step (Ev.of_below (Below.refl _ _).drew) ((unhide HS2).rd.drew.more (by simp; omega)) (by omega) (by omega) (by omega)
            · intro i o hi a x n hn ha hc he hd
              have go : ∀ (y : World), EvS B (w1.heap.size + 1) (2 + 24 * k) x y → Rd B y rb (m + 2 + 1500 * k + n + 1) → St B rb (w1.heap.size + 1) w1.heap.size w.heap.size w (2 + 24 * k) (m + 2 + 1500 * k + ((n + 1 : Nat) : Int)) y := fun y e1 e2 => hc.step e1.ev (e2.more (by simp; omega)) (by omega) (by omega) (by omega)
              have R := hc.rd
              have stay := go x (EvS.refl _ _ _ _) (R.more (by omega))
              have HC := hide hc
              clear hc
              match i with
              | 0 =>
                simp at hi
                subst hi
                go_simp
                exact ⟨_, rfl, ⟨_, rfl, blk_alloc_new _ _⟩, go _ (EvS.alloc _ _) ((R.alloc _).more (by omega)), EvS.alloc _ _⟩
              | 1 =>
                simp at hi
                subst hi
                have h6 : a.tmps[6]? = some (.int .i64 k) := (ha.slot 6 (slots_not (by kernel_rfl))).trans rfl
                go_simp
                exact ⟨_, rfl, rfl, stay, EvS.refl _ _ _ _⟩
              | 2 =>
                simp at hi
                subst hi
                have h1 := hd ⟨1, .data⟩ (by simp) rfl
                rw [valOf_at (d := 27) rfl] at h1
                have h1' : a.tmps[27]?.getD undef = .int .i64 k := h1
                go_simp
                exact ⟨_, rfl, ⟨k / 2, by rw [wr64 _ (by omega)]; rfl, by omega⟩, stay, EvS.refl _ _ _ _⟩
              | 3 =>
                simp at hi
                subst hi
                obtain ⟨g, hg, hg'⟩ := hd ⟨0, .data⟩ (by simp) rfl
                obtain ⟨r, hr, hr'⟩ := hd ⟨2, .data⟩ (by simp) rfl
                rw [valOf_at (d := 26) rfl] at hg
                rw [valOf_at (d := 28) rfl] at hr
                have hr3 : (r : Int) < 3 := by omega
                go_simp
                exact ⟨_, rfl, ⟨g, r, by simp, hr', hg'⟩, stay, EvS.refl _ _ _ _⟩
              | 4 =>
                simp at hi
                subst hi
                obtain ⟨g, r, hg, hr, hg'⟩ := hd ⟨3, .data⟩ (by simp) rfl
                rw [valOf_at (d := 29) rfl] at hg
                obtain ⟨t, ht, htl⟩ := str3 hg' r hr
                clear hg'
                go_simp
                exact ⟨_, rfl, ⟨t, rfl, htl⟩, stay, EvS.refl _ _ _ _⟩
              | 5 =>
                simp at hi
                subst hi
                have h6 : a.tmps[6]? = some (.int .i64 k) := (ha.slot 6 (slots_not (by kernel_rfl))).trans rfl
                go_simp
                exact ⟨_, rfl, rfl, stay, EvS.refl _ _ _ _⟩
              | 6 =>
                simp at hi
                subst hi
                have h1 := hd ⟨5, .data⟩ (by simp) rfl
                rw [valOf_at (d := 31) rfl] at h1
                have h1' : a.tmps[31]?.getD undef = .int .i64 k := h1
                go_simp
                exact ⟨_, rfl, ⟨k % 2, rfl, by omega⟩, stay, EvS.refl _ _ _ _⟩
              | 7 =>
                simp at hi
                subst hi
                obtain ⟨r, hr, hr'⟩ := hd ⟨6, .data⟩ (by simp) rfl
                rw [valOf_at (d := 32) rfl] at hr
                have hw := wr64 (1 + (r : Int)) (by omega)
                go_simp
                exact ⟨_, rfl, ⟨_, rfl⟩, stay, EvS.refl _ _ _ _⟩
              | 8 =>
                simp at hi
                subst hi
                have h0 : a.tmps[0]? = some (.pointer (some ⟨rb, 0, none⟩)) := (ha.slot 0 (slots_not (by kernel_rfl))).trans rfl
                go_simp
                exact ⟨_, rfl, rfl, stay, EvS.refl _ _ _ _⟩
              | 9 =>
                simp at hi
                subst hi
                have h1 := hd ⟨8, .data⟩ (by simp) rfl
                rw [valOf_at (d := 34) rfl] at h1
                have h1' : a.tmps[34]?.getD undef = .pointer (some ⟨rb, 0, none⟩) := h1
                go_simp
                refine (pick_any B rb _ 4 _ R (by simp at hn; omega) (by omega) (by omega)).mono ?_
                rintro e y ⟨⟨r, rfl, hr0, hr1⟩, hR, hW⟩
                exact ⟨_, rfl, ⟨r.toNat, by rw [Int.toNat_of_nonneg hr0], by omega⟩, go _ (EvS.of_wrote hW) (hR.more (by omega)), EvS.of_wrote hW⟩
              | 10 =>
                simp at hi
                subst hi
                obtain ⟨r, hr, hr'⟩ := hd ⟨9, .data⟩ (by simp) rfl
                rw [valOf_at (d := 35) rfl] at hr
                have hw := wr64 (1 + (r : Int)) (by omega)
                go_simp
                exact ⟨_, rfl, ⟨_, rfl⟩, stay, EvS.refl _ _ _ _⟩
              | 11 =>
                simp at hi
                subst hi
                obtain ⟨t, ht, htl⟩ := hd ⟨4, .data⟩ (by simp) rfl
                obtain ⟨y, hy⟩ := hd ⟨7, .data⟩ (by simp) rfl
                obtain ⟨z, hz⟩ := hd ⟨10, .data⟩ (by simp) rfl
                rw [valOf_at (d := 30) rfl] at ht
                rw [valOf_at (d := 33) rfl] at hy
                rw [valOf_at (d := 36) rfl] at hz
                go_simp
                exact ⟨_, rfl, ⟨t, y, z, rfl, htl⟩, stay, EvS.refl _ _ _ _⟩
              | 12 =>
                simp at hi
                subst hi
                have hz := (unhide HC).size
                go_simp
                exact ⟨_, rfl, ⟨x.heap.size, rfl, G2.of hz (blk_alloc_new _ _) (packV0 _ _ _ (Nat.zero_le _) 0 0)⟩, go _ (EvS.alloc _ _) ((R.alloc _).more (by omega)), EvS.alloc _ _⟩
              | 13 =>
                simp at hi
                subst hi
                obtain ⟨g, hg, hG⟩ := hd ⟨12, .data⟩ (by simp) rfl
                obtain ⟨t, y, z, hv, htl⟩ := hd ⟨11, .data⟩ (by simp) rfl
                rw [valOf_at (d := 7) rfl] at hg
                rw [valOf_at (d := 37) rfl] at hv
                have E := Ev.pack (B := B) hG (packV0 (w1.heap.size + 1) x (2 + 24 * k) htl y z)
                obtain ⟨_, _, _, _, _, _, hC, _⟩ := hG.six
                have hgs := hG.1
                obtain ⟨k0, k1, k2, k3, k4, k5, kf⟩ := six hC
                have f0 := kf 0
                have f1 := kf 1
                have f2 := kf 2
                have f3 := kf 3
                have f4 := kf 4
                have f5 := kf 5
                have HG := hide hG
                have HK := hide hC
                clear hG hC kf
                have ES : EvS B (w1.heap.size + 1) (2 + 24 * k) x _ := ⟨E, fun b hb => pack_other _ _ _ _ _ _ (fun e => absurd (CellsOf.one hb (show CellsOf x b 66 by rw [e]; exact ⟨_, unhide HK⟩)) (by decide))⟩
                have RR : Rd B _ rb _ := R.low (s := w1.heap.size + 1) (by omega) E.size (fun b hb => pack_other _ _ _ _ _ _ (by omega))
                have HE := hide ES
                have HSt := hide (go _ ES (RR.more (by omega)))
                clear ES RR E
                go_simp
                exact ⟨trivial, unhide HSt, unhide HE⟩
              | k + 14 => simp at hi
            · intro a x ha hc he ht
              obtain ⟨g, hv, hG⟩ := ht 12 (by simp)
              rw [valOf_at (d := 7) rfl] at hv
              have hl := ha.list
              simp [slotOf, List.range_succ] at hl
              rw [hl]
              clear hl
              rename_i J K1 hJ hK1
              exact hK1 _ _ (Met.intro (hJ _ _ ⟨_, _, _, _, _, _, _, _, _, _, _, _, _, _, _, _, _, _, _, _, _, _, _, _, _, _, _, _, _, _, _, _, _, _, _, _, _, _, _, _, _, _, _, _, _, _, _, _, _, _, _, _, _, _, _, _, _, _, _, _, _, _, _, _, _, _, _, _, _, _, ⟨g, hv, hG, hc.step (Ev.refl _ _ _ _) (hc.rd.more (by simp; omega)) (by omega) (by omega) (by omega)⟩, rfl⟩))
          case rest =>
            obtain ⟨g, rfl, HG, HS3⟩ := hcut
            rename World => w3
            have hgs := (unhide HG).1
            have hR3 := (unhide HS3).rd
            go_wp2_with fail
            refine (pick_any B rb _ 3 _ hR3 (by omega) (by omega) (by omega)).mono ?_
            rintro e w4 ⟨⟨r4, rfl, h40, h41⟩, R4, W4⟩
            have HS4 := hide ((unhide HS3).step (Ev.of_wrote W4) R4 (by omega) (by omega) (by omega))
            have HG4 := hide ((Ev.of_wrote (B := B) W4).g2 _ _ (unhide HG))
            clear hR3 HG HS3 W4 R4
            go_upto_if 40 with fail
            go_cut [] from 12 to 80 (fun wx => Hid (G2 (w1.heap.size + 1) wx (2 + 24 * k + 12) g 6) ∧ Hid (St B rb (w1.heap.size + 1) w1.heap.size w.heap.size w (2 + 24 * k + 12) (m + 1 + 1500 * k + 800) wx))
            case first =>
              by_cases hr4 : r4 = 0
              · subst hr4
                go_wp2_with fail
                refine wp_region_levels (by kernel_rfl) (by kernel_rfl) (by kernel_rfl) (T8 rb g (w1.heap.size + 1) (2 + 24 * k)) (fun n x => GS B rb (w1.heap.size + 1) w1.heap.size w.heap.size g w (2 + 24 * k + n) (m + 1 + 1500 * k + 22 + 60 * n) x) (fun _ _ => True) (fun n => Ev B (w1.heap.size + 1) (2 + 24 * k + n) (2 + 24 * k + (n + 1))) (fun _ _ _ _ _ => trivial) trivial (fun _ _ _ _ _ h k => h.on k) ?_ ?_ ?_
                · exact ⟨(Ev.of_below (B := B) (Below.refl _ _).drew).g2 _ _ (unhide HG4), (unhide HS4).step (Ev.of_below (Below.refl _ _).drew) ((unhide HS4).rd.drew.more (by simp; omega)) (by omega) (by omega) (by omega)⟩
                · intro i o hi a x n hn ha hc _ hd
                  have go : ∀ (y : World), Ev B (w1.heap.size + 1) (2 + 24 * k + n) (2 + 24 * k + (n + 1)) x y → Rd B y rb (m + 1 + 1500 * k + 22 + 60 * n + 60) → GS B rb (w1.heap.size + 1) w1.heap.size w.heap.size g w (2 + 24 * k + (n + 1)) (m + 1 + 1500 * k + 22 + 60 * ((n + 1 : Nat) : Int)) y := fun y e1 e2 => hc.step e1 (e2.more (by simp; omega)) (by omega) (by omega) (by omega)
                  have R := hc.2.rd
                  have up : Hid (Ev B (w1.heap.size + 1) (2 + 24 * k + n) (2 + 24 * k + (n + 1)) x x) := (Ev.refl _ _ _ _).more (by omega)
                  have upa : ∀ o, Hid (Ev B (w1.heap.size + 1) (2 + 24 * k + n) (2 + 24 * k + (n + 1)) x (x.alloc o)) := fun o => (Ev.of_below ((Below.refl _ _).alloc (Nat.le_refl _) _)).more (by omega)
                  have stay := hide (go x up (R.more (by omega)))
                  have hz := hc.2.size
                  have HC := hide hc
                  clear hc
                  simp at hn
                  match i with
                  | 0 =>
                    simp at hi
                    subst hi
                    have h7 : a.tmps[7]? = some (.pointer (some ⟨g, 0, none⟩)) := (ha.slot 7 (slots_not (by kernel_rfl))).trans rfl
                    go_simp
                    exact ⟨_, rfl, rfl, stay, up⟩
                  | 1 =>
                    simp at hi
                    subst hi
                    have h1 := hd ⟨0, .data⟩ (by simp) rfl
                    rw [valOf_at (d := 41) rfl] at h1
                    have h1' : a.tmps[41]?.getD undef = .pointer (some ⟨g, 3, none⟩) := h1
                    obtain ⟨px, py, pz, v1, v2, v3, hC, hP⟩ := (unhide HC).1.six
                    obtain ⟨k0, k1, k2, k3, k4, k5, kf⟩ := six hC
                    have hV1 := hide (hP.deps.ev up)
                    clear hC hP
                    go_simp
                    exact ⟨_, rfl, unhide hV1, stay, up⟩
                  | 2 =>
                    simp at hi
                    subst hi
                    have h0 : a.tmps[0]? = some (.pointer (some ⟨rb, 0, none⟩)) := (ha.slot 0 (slots_not (by kernel_rfl))).trans rfl
                    go_simp
                    exact ⟨_, rfl, rfl, stay, up⟩
                  | 3 =>
                    simp at hi
                    subst hi
                    have h1 := hd ⟨2, .data⟩ (by simp) rfl
                    rw [valOf_at (d := 43) rfl] at h1
                    have h1' : a.tmps[43]?.getD undef = .pointer (some ⟨rb, 0, none⟩) := h1
                    go_simp
                    refine (l71Reqs_V B rb (w1.heap.size + 1) _ 1 _ R (by omega) (by omega) (by omega) hz).mono ?_
                    rintro e y ⟨⟨v, rfl, hv⟩, hR, hW⟩
                    have e2 : Ev B (w1.heap.size + 1) (2 + 24 * k + n) (2 + 24 * k + (n + 1)) x y := (Ev.of_wrote hW).more (by omega)
                    exact ⟨_, rfl, V0.wider hv (by omega), go _ e2 (hR.more (by omega)), e2⟩
                  | 4 =>
                    simp at hi
                    subst hi
                    have h0 : a.tmps[0]? = some (.pointer (some ⟨rb, 0, none⟩)) := (ha.slot 0 (slots_not (by kernel_rfl))).trans rfl
                    go_simp
                    exact ⟨_, rfl, rfl, stay, up⟩
                  | 5 =>
                    simp at hi
                    subst hi
                    have h1 := hd ⟨4, .data⟩ (by simp) rfl
                    rw [valOf_at (d := 45) rfl] at h1
                    have h1' : a.tmps[45]?.getD undef = .pointer (some ⟨rb, 0, none⟩) := h1
                    go_simp
                    refine (l71Req_any B rb _ _ R (by omega)).mono ?_
                    rintro e y ⟨⟨q, rfl, hq⟩, hR, hW⟩
                    have e2 : Ev B (w1.heap.size + 1) (2 + 24 * k + n) (2 + 24 * k + (n + 1)) x y := (Ev.of_wrote hW).more (by omega)
                    exact ⟨_, rfl, ⟨q, rfl, hq⟩, go _ e2 (hR.more (by omega)), e2⟩
                  | 6 =>
                    simp at hi
                    subst hi
                    obtain ⟨q, hq, hq'⟩ := hd ⟨5, .data⟩ (by simp) rfl
                    rw [valOf_at (d := 46) rfl] at hq
                    go_simp
                    exact ⟨_, rfl, ⟨_, rfl, G0.of hz (blk_alloc_new _ _) hq'.len⟩, go _ (upa _) ((R.alloc _).more (by omega)), upa _⟩
                  | 7 =>
                    simp at hi
                    subst hi
                    have hv := hd ⟨3, .data⟩ (by simp) rfl
                    obtain ⟨g1, hg1, hG1⟩ := hd ⟨6, .data⟩ (by simp) rfl
                    rw [valOf_at (d := 47) rfl] at hg1
                    rw [valOf_at (d := 44) rfl] at hv
                    obtain ⟨q, hq, hql⟩ := G0.one hG1
                    obtain ⟨k0, k1, k2, _⟩ := three hq
                    obtain ⟨v', y, hrun, hV, hE, hlow, _⟩ := append_V0 (B := B) x 64 _ hv hz (by omega) ⟨g1, 0, none⟩ 1 q hql (fun i u hu => by
                      match i, hu with
                      | 0, hu => simp [reqVals] at hu; subst hu; simpa [Addr.add] using k0
                      | 1, hu => simp [reqVals] at hu; subst hu; simpa [Addr.add] using k1
                      | 2, hu => simp [reqVals] at hu; subst hu; simpa [Addr.add] using k2)
                    refine wp_append_run _ _ _ rfl _ _ v' y (eval_at _ _) ((eval_at _ _).trans hg1) hrun ⟨v', rfl, hV, go _ hE ((R.low (by omega) hE.size hlow).more (by omega)), trivial, hE⟩
                  | 8 =>
                    simp at hi
                    subst hi
                    have hv := hd ⟨7, .data⟩ (by simp) rfl
                    rw [valOf_at (d := 48) rfl] at hv
                    obtain ⟨sa, sn, sc, hs, _⟩ := SlBy.slice hv
                    have HV := hide (V0.ev hv (upa (.cells #[a.tmps[48]?.getD undef] 64 (0, 0))))
                    rw [hs] at HV
                    clear hv
                    go_simp
                    exact ⟨_, rfl, ⟨_, rfl, G1.of hz (blk_alloc_new _ _) (unhide HV)⟩, go _ (upa _) ((R.alloc _).more (by omega)), upa _⟩
                  | 9 =>
                    simp at hi
                    subst hi
                    have hv := hd ⟨1, .data⟩ (by simp) rfl
                    obtain ⟨g1, hg1, hG1⟩ := hd ⟨8, .data⟩ (by simp) rfl
                    rw [valOf_at (d := 49) rfl] at hg1
                    rw [valOf_at (d := 42) rfl] at hv
                    obtain ⟨u, hu, hVu⟩ := G1.one hG1
                    have k0 : x.cell? ⟨g1, 0, none⟩ = some u := by simp [World.cell?, hu]
                    obtain ⟨v', y, hrun, hV, hE, hlow, _⟩ := append_V1 (B := B) x 63 _ hv hz (by omega) ⟨g1, 0, none⟩ 1 u hVu (SlBy.oneCell hVu) k0 rfl
                    refine wp_append_run _ _ _ rfl _ _ v' y (eval_at _ _) ((eval_at _ _).trans hg1) hrun ⟨v', rfl, hV, go _ hE ((R.low (by omega) hE.size hlow).more (by omega)), trivial, hE⟩
                  | 10 =>
                    simp at hi
                    subst hi
                    have h7 : a.tmps[7]? = some (.pointer (some ⟨g, 0, none⟩)) := (ha.slot 7 (slots_not (by kernel_rfl))).trans rfl
                    go_simp
                    exact ⟨_, rfl, rfl, stay, up⟩
                  | 11 =>
                    simp at hi
                    subst hi
                    have h1 := hd ⟨10, .data⟩ (by simp) rfl
                    rw [valOf_at (d := 51) rfl] at h1
                    have h1' : a.tmps[51]?.getD undef = .pointer (some ⟨g, 3, none⟩) := h1
                    have hv := hd ⟨9, .data⟩ (by simp) rfl
                    rw [valOf_at (d := 50) rfl] at hv
                    have hG := (unhide HC).1
                    have E : Ev B (w1.heap.size + 1) (2 + 24 * k + n) (2 + 24 * k + n) x (x.setCell ⟨g, 3, none⟩ (a.tmps[50]?.getD undef)) := Ev.packCell hG ⟨fun e => absurd e (by decide), fun e => absurd e (by decide), fun _ => hv, fun e => absurd e (by decide)⟩
                    obtain ⟨px, py, pz, v1, v2, v3, hC, hP⟩ := hG.six
                    obtain ⟨k0, k1, k2, k3, k4, k5, kf⟩ := six hC
                    have f3 := kf 3
                    have RR := R.low (s := w1.heap.size + 1) (by omega) E.size (setLow hgs x _)
                    obtain ⟨sa, sn, sc, hs, _⟩ := SlBy.slice hv
                    have HE := hide (E.more (show 2 + 24 * k + n ≤ 2 + 24 * k + (n + 1) by omega))
                    have HSt := hide (go _ (unhide HE) (RR.more (by omega)))
                    rw [hs] at HE HSt
                    clear hC hP hG E RR kf hv k0 k1 k2 k4 k5
                    go_simp
                    exact ⟨trivial, unhide HSt, unhide HE⟩
                  | k + 12 => simp at hi
                · intro a x ha hc hT ht
                  clear hT
                  have hl := ha.list
                  simp [slotOf, List.range_succ] at hl
                  rw [hl]
                  clear hl
                  rename_i J K1 hJ hK1 h00
                  exact hK1 _ _ (Met.intro (hJ _ _ ⟨_, _, _, _, _, _, _, _, _, _, _, _, _, _, _, _, _, _, _, _, _, _, _, _, _, _, _, _, _, _, _, _, _, _, _, _, _, _, _, _, _, _, _, _, _, _, _, _, _, _, _, _, _, _, _, _, _, _, _, _, _, _, _, _, _, _, _, _, _, ⟨hc.1, hc.2.step (Ev.refl _ _ _ _) (hc.2.rd.more (by simp; omega)) (by omega) (by omega) (by omega)⟩, rfl⟩))
              · have hr4b : (r4 == 0) = false := by simp [hr4]
                go_wp2_with fail
                go_meet
                case rel => exact ⟨(unhide HG4).wider (by omega), (unhide HS4).step ((Ev.refl _ _ _ _).more (by omega)) ((unhide HS4).rd.more (by omega)) (by omega) (by omega) (by omega)⟩
            case rest =>
              obtain ⟨HG4, HS4⟩ := hcut
              rename World => w4
              have hR4 := (unhide HS4).rd
              go_wp2_with fail
              refine (pick_any B rb _ 8 _ hR4 (by omega) (by omega) (by omega)).mono ?_
              rintro e w5 ⟨⟨r5, rfl, h50, h51⟩, R5, W5⟩
              have HS5 := hide ((unhide HS4).step (Ev.of_wrote W5) R5 (by omega) (by omega) (by omega))
              have HG5 := hide ((Ev.of_wrote (B := B) W5).g2 _ _ (unhide HG4))
              clear hR4 HG4 HS4 W5 R5
              go_upto_if 54 with fail
              go_cut [] from 12 to 80 (fun wx => Hid (G2 (w1.heap.size + 1) wx (2 + 24 * k + 21) g 6) ∧ Hid (St B rb (w1.heap.size + 1) w1.heap.size w.heap.size w (2 + 24 * k + 21) (m + 1 + 1500 * k + 1342) wx))
              case first =>
                by_cases hr5 : r5 = 0
                · subst hr5
                  go_wp2_with fail
                  refine wp_region_levels (by kernel_rfl) (by kernel_rfl) (by kernel_rfl) (T10 rb g (w1.heap.size + 1) (2 + 24 * k + 12)) (fun n x => GS B rb (w1.heap.size + 1) w1.heap.size w.heap.size g w (2 + 24 * k + 12 + n) (m + 1 + 1500 * k + 801 + 60 * n) x) (fun _ _ => True) (fun n => Ev B (w1.heap.size + 1) (2 + 24 * k + 12 + n) (2 + 24 * k + 12 + (n + 1))) (fun _ _ _ _ _ => trivial) trivial (fun _ _ _ _ _ h k => h.on k) ?_ ?_ ?_
                  · exact ⟨(Ev.of_below (B := B) (Below.refl _ _).drew).g2 _ _ (unhide HG5), (unhide HS5).step (Ev.of_below (Below.refl _ _).drew) ((unhide HS5).rd.drew.more (by simp; omega)) (by omega) (by omega) (by omega)⟩
                  · intro i o hi a x n hn ha hc _ hd
                    have go : ∀ (y : World), Ev B (w1.heap.size + 1) (2 + 24 * k + 12 + n) (2 + 24 * k + 12 + (n + 1)) x y → Rd B y rb (m + 1 + 1500 * k + 801 + 60 * n + 60) → GS B rb (w1.heap.size + 1) w1.heap.size w.heap.size g w (2 + 24 * k + 12 + (n + 1)) (m + 1 + 1500 * k + 801 + 60 * ((n + 1 : Nat) : Int)) y := fun y e1 e2 => hc.step e1 (e2.more (by simp; omega)) (by omega) (by omega) (by omega)
                    have R := hc.2.rd
                    have up : Hid (Ev B (w1.heap.size + 1) (2 + 24 * k + 12 + n) (2 + 24 * k + 12 + (n + 1)) x x) := (Ev.refl _ _ _ _).more (by omega)
                    have upa : ∀ o, Hid (Ev B (w1.heap.size + 1) (2 + 24 * k + 12 + n) (2 + 24 * k + 12 + (n + 1)) x (x.alloc o)) := fun o => (Ev.of_below ((Below.refl _ _).alloc (Nat.le_refl _) _)).more (by omega)
                    have stay := hide (go x up (R.more (by omega)))
                    have hz := hc.2.size
                    have HC := hide hc
                    clear hc
                    simp at hn
                    match i with
                    | 0 =>
                      simp at hi
                      subst hi
                      have h7 : a.tmps[7]? = some (.pointer (some ⟨g, 0, none⟩)) := (ha.slot 7 (slots_not (by kernel_rfl))).trans rfl
                      go_simp
                      exact ⟨_, rfl, rfl, stay, up⟩
                    | 1 =>
                      simp at hi
                      subst hi
                      have h1 := hd ⟨0, .data⟩ (by simp) rfl
                      rw [valOf_at (d := 55) rfl] at h1
                      have h1' : a.tmps[55]?.getD undef = .pointer (some ⟨g, 3, none⟩) := h1
                      obtain ⟨px, py, pz, v1, v2, v3, hC, hP⟩ := (unhide HC).1.six
                      obtain ⟨k0, k1, k2, k3, k4, k5, kf⟩ := six hC
                      have hV1 := hide (hP.deps.ev up)
                      clear hC hP
                      go_simp
                      exact ⟨_, rfl, unhide hV1, stay, up⟩
                    | 2 =>
                      simp at hi
                      subst hi
                      have h0 : a.tmps[0]? = some (.pointer (some ⟨rb, 0, none⟩)) := (ha.slot 0 (slots_not (by kernel_rfl))).trans rfl
                      go_simp
                      exact ⟨_, rfl, rfl, stay, up⟩
                    | 3 =>
                      simp at hi
                      subst hi
                      have h1 := hd ⟨2, .data⟩ (by simp) rfl
                      rw [valOf_at (d := 57) rfl] at h1
                      have h1' : a.tmps[57]?.getD undef = .pointer (some ⟨rb, 0, none⟩) := h1
                      go_simp
                      refine (l71Req_any B rb _ _ R (by omega)).mono ?_
                      rintro e y ⟨⟨q, rfl, hq⟩, hR, hW⟩
                      have e2 : Ev B (w1.heap.size + 1) (2 + 24 * k + 12 + n) (2 + 24 * k + 12 + (n + 1)) x y := (Ev.of_wrote hW).more (by omega)
                      exact ⟨_, rfl, ⟨q, rfl, hq⟩, go _ e2 (hR.more (by omega)), e2⟩
                    | 4 =>
                      simp at hi
                      subst hi
                      obtain ⟨q, hq, hq'⟩ := hd ⟨3, .data⟩ (by simp) rfl
                      rw [valOf_at (d := 58) rfl] at hq
                      go_simp
                      exact ⟨_, rfl, ⟨_, rfl, G0.of hz (blk_alloc_new _ _) hq'.len⟩, go _ (upa _) ((R.alloc _).more (by omega)), upa _⟩
                    | 5 =>
                      simp at hi
                      subst hi
                      obtain ⟨g1, hg1, hG1⟩ := hd ⟨4, .data⟩ (by simp) rfl
                      rw [valOf_at (d := 59) rfl] at hg1
                      have hv : V0 (w1.heap.size + 1) x (2 + 24 * k + 12 + n) (.slice (some ⟨g1, 0, none⟩) 1 1) := Or.inr ⟨g1, 1, 1, rfl, Nat.le_refl _, by omega, one_le_max, hG1⟩
                      have HV := hide (V0.ev hv (upa (.cells #[.slice (some ⟨g1, 0, none⟩) 1 1] 64 (0, 0))))
                      clear hv
                      go_simp
                      exact ⟨_, rfl, ⟨_, rfl, G1.of hz (blk_alloc_new _ _) (unhide HV)⟩, go _ (upa _) ((R.alloc _).more (by omega)), upa _⟩
                    | 6 =>
                      simp at hi
                      subst hi
                      have hv := hd ⟨1, .data⟩ (by simp) rfl
                      obtain ⟨g1, hg1, hG1⟩ := hd ⟨5, .data⟩ (by simp) rfl
                      rw [valOf_at (d := 60) rfl] at hg1
                      rw [valOf_at (d := 56) rfl] at hv
                      obtain ⟨u, hu, hVu⟩ := G1.one hG1
                      have k0 : x.cell? ⟨g1, 0, none⟩ = some u := by simp [World.cell?, hu]
                      obtain ⟨v', y, hrun, hV, hE, hlow, _⟩ := append_V1 (B := B) x 63 _ hv hz (by omega) ⟨g1, 0, none⟩ 1 u hVu (SlBy.oneCell hVu) k0 rfl
                      refine wp_append_run _ _ _ rfl _ _ v' y (eval_at _ _) ((eval_at _ _).trans hg1) hrun ⟨v', rfl, hV, go _ hE ((R.low (by omega) hE.size hlow).more (by omega)), trivial, hE⟩
                    | 7 =>
                      simp at hi
                      subst hi
                      have h7 : a.tmps[7]? = some (.pointer (some ⟨g, 0, none⟩)) := (ha.slot 7 (slots_not (by kernel_rfl))).trans rfl
                      go_simp
                      exact ⟨_, rfl, rfl, stay, up⟩
                    | 8 =>
                      simp at hi
                      subst hi
                      have h1 := hd ⟨7, .data⟩ (by simp) rfl
                      rw [valOf_at (d := 62) rfl] at h1
                      have h1' : a.tmps[62]?.getD undef = .pointer (some ⟨g, 3, none⟩) := h1
                      have hv := hd ⟨6, .data⟩ (by simp) rfl
                      rw [valOf_at (d := 61) rfl] at hv
                      have hG := (unhide HC).1
                      have E : Ev B (w1.heap.size + 1) (2 + 24 * k + 12 + n) (2 + 24 * k + 12 + n) x (x.setCell ⟨g, 3, none⟩ (a.tmps[61]?.getD undef)) := Ev.packCell hG ⟨fun e => absurd e (by decide), fun e => absurd e (by decide), fun _ => hv, fun e => absurd e (by decide)⟩
                      obtain ⟨px, py, pz, v1, v2, v3, hC, hP⟩ := hG.six
                      obtain ⟨k0, k1, k2, k3, k4, k5, kf⟩ := six hC
                      have f3 := kf 3
                      have RR := R.low (s := w1.heap.size + 1) (by omega) E.size (setLow hgs x _)
                      obtain ⟨sa, sn, sc, hs, _⟩ := SlBy.slice hv
                      have HE := hide (E.more (show 2 + 24 * k + 12 + n ≤ 2 + 24 * k + 12 + (n + 1) by omega))
                      have HSt := hide (go _ (unhide HE) (RR.more (by omega)))
                      rw [hs] at HE HSt
                      clear hC hP hG E RR kf hv k0 k1 k2 k4 k5
                      go_simp
                      exact ⟨trivial, unhide HSt, unhide HE⟩
                    | k + 9 => simp at hi
                  · intro a x ha hc hT ht
                    clear hT
                    have hl := ha.list
                    simp [slotOf, List.range_succ] at hl
                    rw [hl]
                    clear hl
                    rename_i J K1 hJ hK1 h00
                    exact hK1 _ _ (Met.intro (hJ _ _ ⟨_, _, _, _, _, _, _, _, _, _, _, _, _, _, _, _, _, _, _, _, _, _, _, _, _, _, _, _, _, _, _, _, _, _, _, _, _, _, _, _, _, _, _, _, _, _, _, _, _, _, _, _, _, _, _, _, _, _, _, _, _, _, _, _, _, _, _, _, _, ⟨hc.1, hc.2.step (Ev.refl _ _ _ _) (hc.2.rd.more (by simp; omega)) (by omega) (by omega) (by omega)⟩, rfl⟩))
                · have hr5b : (r5 == 0) = false := by simp [hr5]
                  go_wp2_with fail
                  go_meet
                  case rel => exact ⟨(unhide HG5).wider (by omega), (unhide HS5).step ((Ev.refl _ _ _ _).more (by omega)) ((unhide HS5).rd.more (by omega)) (by omega) (by omega) (by omega)⟩
              case rest =>
                obtain ⟨HG6, HS6⟩ := hcut
                rename World => w6
                have hR6 := (unhide HS6).rd
                go_wp2_with fail
                refine (pick_any B rb _ 5 _ hR6 (by omega) (by omega) (by omega)).mono ?_
                rintro e w7 ⟨⟨r7, rfl, h70, h71⟩, R7, W7⟩
                have HS7 := hide ((unhide HS6).step (Ev.of_wrote W7) R7 (by omega) (by omega) (by omega))
                have HG7 := hide ((Ev.of_wrote (B := B) W7).g2 _ _ (unhide HG6))
                clear hR6 HG6 HS6 W7 R7
                go_upto_if 65 with fail
                go_cut [] from 12 to 80 (fun wx => Hid (G2 (w1.heap.size + 1) wx (2 + 24 * k + 21) g 6) ∧ Hid (St B rb (w1.heap.size + 1) w1.heap.size w.heap.size w (2 + 24 * k + 21) (m + 1 + 1500 * k + 1400) wx))
                case first =>
                  by_cases hr7 : r7 = 0
                  · subst hr7
                    go_wp2_with fail
                    refine (l71Reqs_V B rb (w1.heap.size + 1) _ 2 _ (unhide HS7).rd (by omega) (by omega) (by omega) (unhide HS7).size).mono ?_
                    rintro e w8 ⟨⟨v8, rfl, hv8⟩, R8, W8⟩
                    have e8 : Ev B (w1.heap.size + 1) (2 + 24 * k + 21) (2 + 24 * k + 21) w7 w8 := Ev.of_wrote W8
                    have G8 := e8.g2 _ _ (unhide HG7)
                    have E : Ev B (w1.heap.size + 1) (2 + 24 * k + 21) (2 + 24 * k + 21) w8 (w8.setCell ⟨g, 4, none⟩ v8) := Ev.packCell G8 ⟨fun e => absurd e (by decide), fun e => absurd e (by decide), fun e => absurd e (by decide), fun _ => V0.wider hv8 (by omega)⟩
                    obtain ⟨px, py, pz, v1, v2, v3, hC, hP⟩ := G8.six
                    obtain ⟨k0, k1, k2, k3, k4, k5, kf⟩ := six hC
                    have f4 := kf 4
                    have RR := R8.low (s := w1.heap.size + 1) (by omega) E.size (setLow hgs w8 _)
                    have HG9 := hide (E.g2 _ _ G8)
                    have HS9 := hide (((unhide HS7).step e8 R8 (by omega) (by omega) (by omega)).step E (RR.more (m' := m + 1 + 1500 * k + 1400) (by omega)) (by omega) (by omega) (by omega))
                    obtain ⟨sa, sn, sc, hs, _⟩ := SlBy.slice hv8
                    subst hs
                    clear hC hP G8 E RR kf hv8 k0 k1 k2 k3 k5 R8 W8 e8
                    go_wp2_with fail
                    go_meet
                    case rel => exact ⟨HG9, HS9⟩
                  · have hr7b : (r7 == 0) = false := by simp [hr7]
                    go_wp2_with fail
                    go_meet
                    case rel => exact ⟨HG7, (unhide HS7).step (Ev.refl _ _ _ _) ((unhide HS7).rd.more (by omega)) (by omega) (by omega) (by omega)⟩
                case rest =>
                  obtain ⟨HG8, HS8⟩ := hcut
                  rename World => w8
                  have hR8 := (unhide HS8).rd
                  go_wp2_with fail
                  refine (pick_any B rb _ 4 _ hR8 (by omega) (by omega) (by omega)).mono ?_
                  rintro e w9 ⟨⟨r9, rfl, h90, h91⟩, R9, W9⟩
                  have HS9 := hide ((unhide HS8).step (Ev.of_wrote W9) R9 (by omega) (by omega) (by omega))
                  have HG9 := hide ((Ev.of_wrote (B := B) W9).g2 _ _ (unhide HG8))
                  clear hR8 HG8 HS8 W9 R9
                  go_upto_if 71 with fail
                  go_cut [] from 12 to 80 (fun wx => Hid (G2 (w1.heap.size + 1) wx (2 + 24 * k + 21) g 6) ∧ Hid (St B rb (w1.heap.size + 1) w1.heap.size w.heap.size w (2 + 24 * k + 21) (m + 1 + 1500 * k + 1460) wx))
                  case first =>
                    by_cases hr9 : r9 = 0
                    · subst hr9
                      go_wp2_with fail
                      refine (l71Reqs_V B rb (w1.heap.size + 1) _ 2 _ (unhide HS9).rd (by omega) (by omega) (by omega) (unhide HS9).size).mono ?_
                      rintro e w8 ⟨⟨v8, rfl, hv8⟩, R8, W8⟩
                      have e8 : Ev B (w1.heap.size + 1) (2 + 24 * k + 21) (2 + 24 * k + 21) w9 w8 := Ev.of_wrote W8
                      have G8 := e8.g2 _ _ (unhide HG9)
                      have E : Ev B (w1.heap.size + 1) (2 + 24 * k + 21) (2 + 24 * k + 21) w8 (w8.setCell ⟨g, 5, none⟩ v8) := Ev.packCell G8 ⟨fun e => absurd e (by decide), fun e => absurd e (by decide), fun e => absurd e (by decide), fun _ => V0.wider hv8 (by omega)⟩
                      obtain ⟨px, py, pz, v1, v2, v3, hC, hP⟩ := G8.six
                      obtain ⟨k0, k1, k2, k3, k4, k5, kf⟩ := six hC
                      have f5 := kf 5
                      have RR := R8.low (s := w1.heap.size + 1) (by omega) E.size (setLow hgs w8 _)
                      have HG10 := hide (E.g2 _ _ G8)
                      have HS10 := hide (((unhide HS9).step e8 R8 (by omega) (by omega) (by omega)).step E (RR.more (m' := m + 1 + 1500 * k + 1460) (by omega)) (by omega) (by omega) (by omega))
                      obtain ⟨sa, sn, sc, hs, _⟩ := SlBy.slice hv8
                      subst hs
                      clear hC hP G8 E RR kf hv8 k0 k1 k2 k3 k4 R8 W8 e8
                      go_wp2_with fail
                      go_meet
                      case rel => exact ⟨HG10, HS10⟩
                    · have hr9b : (r9 == 0) = false := by simp [hr9]
                      go_wp2_with fail
                      go_meet
                      case rel => exact ⟨HG9, (unhide HS9).step (Ev.refl _ _ _ _) ((unhide HS9).rd.more (by omega)) (by omega) (by omega) (by omega)⟩
                  case rest =>
                    obtain ⟨HG10, HS10⟩ := hcut
                    rename World => w10
                    have hz10 := (unhide HS10).size
                    obtain ⟨a', n', c', room', ho', hV'⟩ := (unhide HS10).out
                    obtain ⟨o0, o1, of⟩ := two ho'
                    obtain ⟨px, py, pz, v1, v2, v3, hC, hP⟩ := (unhide HG10).six
                    obtain ⟨k0, k1, k2, k3, k4, k5, kf⟩ := six hC
                    obtain ⟨s1, n1, c1, q1, _⟩ := SlBy.slice hP.deps
                    obtain ⟨s2, n2, c2, q2, _⟩ := SlBy.slice hP.pres
                    obtain ⟨s3, n3, c3, q3, _⟩ := SlBy.slice hP.bans
                    subst q1 q2 q3
                    have eA : ∀ o, Ev B (w1.heap.size + 1) (2 + 24 * k + 21) (2 + 24 * k + 21) w10 (w10.alloc o) := fun o => Ev.of_below ((Below.refl _ _).alloc (Nat.le_refl _) _)
                    have HA := hide (append_V2 (B := B) (s := w1.heap.size + 1) (N := 2 + 24 * k + 21) (w10.alloc (.cells #[.string px, .int .i64 py, .int .i64 pz, .slice s1 n1 c1, .slice s2 n2 c2, .slice s3 n3 c3] 66 (0, 0))) 23 _ (V2.ev hV' (eA _)) (by simp; omega) (by omega) ⟨w10.heap.size, 0, none⟩ 1 px (.int .i64 py) (.int .i64 pz) (.slice s1 n1 c1) (.slice s2 n2 c2) (.slice s3 n3 c3) ⟨hP.len, hP.ver, hP.size, hP.deps.ev (eA _), hP.pres.ev (eA _), hP.bans.ev (eA _)⟩
                      (by intro u hu; simp at hu; rcases hu with rfl | rfl | rfl | rfl | rfl | rfl <;> rfl)
                      (fun i u hu => by
                        match i, hu with
                        | 0, hu => simp at hu; subst hu; simp [Addr.add]
                        | 1, hu => simp at hu; subst hu; simp [Addr.add]
                        | 2, hu => simp at hu; subst hu; simp [Addr.add]
                        | 3, hu => simp at hu; subst hu; simp [Addr.add]
                        | 4, hu => simp at hu; subst hu; simp [Addr.add]
                        | 5, hu => simp at hu; subst hu; simp [Addr.add]))
                    obtain ⟨v', w11, hrun, hV11, hE11, hlow, _⟩ := unhide HA
                    have HRun := hide hrun
                    have S11 := ((unhide HS10).step (eA (.cells #[.string px, .int .i64 py, .int .i64 pz, .slice s1 n1 c1, .slice s2 n2 c2, .slice s3 n3 c3] 66 (0, 0))) ((unhide HS10).rd.alloc _) (by omega) (by omega) (by omega)).step hE11 (((unhide HS10).rd.alloc _).low (by omega) hE11.size hlow) (by omega) (by omega) (by omega)
                    obtain ⟨sa, sn, sc, hs, _⟩ := SlBy.slice hV11
                    subst hs
                    obtain ⟨a3, n3', c3', room3, ho3, hv3⟩ := S11.out
                    have HS12 := hide ((S11.sb ho3 hv3).put hV11 (by omega) (by omega) (by omega) hpB hrl).st
                    obtain ⟨p0, p1, pf⟩ := two ho3
                    have pf0 := pf 0
                    clear hrun HA hE11 hlow hV11 S11 ho3 hv3 pf ho' hV' hC hP kf eA
                    go_wp2_with (at_builtin; refine wpList_append_run rfl _ _ _ rfl _ _ _ _ rfl rfl (unhide HRun) ?_)
                    go_roundw
                    case rel => exact ⟨k + 1, by go_num, by omega, (unhide HS12).step ((Ev.refl _ _ _ _).more (by omega)) ((unhide HS12).rd.more (by omega)) (by omega) (by omega) (by omega)⟩
                    case measure => simp [intOf]; omega
      · go_wp2_with fail
        obtain ⟨f1, f2, f3, R0, R1⟩ := unhide HF
        exact bodyPost_ret (v := .agg #[.slice a n c, .int .i64 room]) (by simp [results, Tryz.results26, go_sem, R0, R1]) rfl ⟨⟨_, ⟨room, rfl⟩, V2.wider f1 (by omega)⟩, f2.more (by omega), f3⟩
    · have hk6' : ¬ (k : Int) < 6 := by omega
      go_wp2_with fail
      obtain ⟨f1, f2, f3, R0, R1⟩ := unhide HF
      exact bodyPost_ret (v := .agg #[.slice a n c, .int .i64 room]) (by simp [results, Tryz.results26, go_sem, R0, R1]) rfl ⟨⟨_, ⟨room, rfl⟩, V2.wider f1 (by omega)⟩, f2.more (by omega), f3⟩
end Go.Proofs.YthkhaemlcmkkjasGreat
