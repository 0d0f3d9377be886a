/- The specification's spoilt packs (made by wip/mkspoil.py). -/
import Derived.Test.YthkhaemlcmkkjasGreatGDrawH
import Derived.Test.YthkhaemlcmkkjasGreatConv
namespace Go.Proofs.YthkhaemlcmkkjasGreat
set_option linter.unusedVariables false
set_option linter.unusedSimpArgs false
set_option maxRecDepth 10000
open Go.RowKit Go.Deep

def kSel (l : List Kd) (i : Nat) : Kd := l.getD i .any
def ks12 (ob rb g n1 c1 k : Nat) : List Kd := [.eq (.pointer (some ⟨ob, 0, none⟩)), .eq (.slice (some ⟨g, 0, none⟩) n1 c1), .eq (.int .i64 (k : Nat)), .eq (.pointer (some ⟨rb, 0, none⟩)), .cells 5 #[.string ⟨#[]⟩, .string ⟨#[65]⟩, .string ⟨#[116, 111, 111, 108, 111, 110, 103]⟩, .string ⟨#[122, 122]⟩, .string ⟨#[97]⟩] 9, .str, .eq (.pointer (some ⟨g, k * 6, none⟩)), .eq (.pointer (some ⟨g, k * 6, none⟩)), .any]
def ks14 (ob rb g n1 c1 k : Nat) : List Kd := [.eq (.pointer (some ⟨ob, 0, none⟩)), .eq (.slice (some ⟨g, 0, none⟩) n1 c1), .eq (.int .i64 (k : Nat)), .cells 4 #[.int .i64 (-1), .int .i64 (0), .int .i64 (99), .int .i64 (100)] 3, .eq (.pointer (some ⟨rb, 0, none⟩)), .pick 4, .cellp 4 #[.int .i64 (-1), .int .i64 (0), .int .i64 (99), .int .i64 (100)] 3, .int, .eq (.pointer (some ⟨g, k * 6, none⟩)), .eq (.pointer (some ⟨g, k * 6 + 1, none⟩)), .any]
def ks16 (ob rb g n1 c1 k : Nat) : List Kd := [.eq (.pointer (some ⟨ob, 0, none⟩)), .eq (.slice (some ⟨g, 0, none⟩) n1 c1), .eq (.int .i64 (k : Nat)), .cells 4 #[.int .i64 (-1), .int .i64 (0), .int .i64 (999), .int .i64 (1000)] 3, .eq (.pointer (some ⟨rb, 0, none⟩)), .pick 4, .cellp 4 #[.int .i64 (-1), .int .i64 (0), .int .i64 (999), .int .i64 (1000)] 3, .int, .eq (.pointer (some ⟨g, k * 6, none⟩)), .eq (.pointer (some ⟨g, k * 6 + 2, none⟩)), .any]
def ks18 (ob rb g n1 c1 k : Nat) : List Kd := [.eq (.pointer (some ⟨ob, 0, none⟩)), .eq (.slice (some ⟨g, 0, none⟩) n1 c1), .eq (.int .i64 (k : Nat)), .eq (.pointer (some ⟨ob, 0, none⟩)), .eq (.slice (some ⟨g, 0, none⟩) n1 c1), .eq (.int .i64 (k : Nat)), .eq (.pointer (some ⟨g, k * 6, none⟩)), .eq (.pointer (some ⟨g, k * 6 + 3, none⟩)), .v1, .row1, .v1, .eq (.pointer (some ⟨g, k * 6, none⟩)), .eq (.pointer (some ⟨g, k * 6 + 3, none⟩)), .any]
def ks20 (ob rb g n1 c1 k : Nat) : List Kd := [.eq (.pointer (some ⟨ob, 0, none⟩)), .eq (.slice (some ⟨g, 0, none⟩) n1 c1), .eq (.int .i64 (k : Nat)), .eq (.pointer (some ⟨ob, 0, none⟩)), .eq (.slice (some ⟨g, 0, none⟩) n1 c1), .eq (.int .i64 (k : Nat)), .eq (.pointer (some ⟨g, k * 6, none⟩)), .eq (.pointer (some ⟨g, k * 6 + 4, none⟩)), .v0, .eq (.pointer (some ⟨rb, 0, none⟩)), .pick 2, .int, .req, .req1, .v0, .eq (.pointer (some ⟨g, k * 6, none⟩)), .eq (.pointer (some ⟨g, k * 6 + 4, none⟩)), .any]
def ks25 (ob rb g n1 c1 k : Nat) : List Kd := [.eq (.pointer (some ⟨ob, 0, none⟩)), .eq (.slice (some ⟨g, 0, none⟩) n1 c1), .eq (.int .i64 (k : Nat)), .eq (.pointer (some ⟨ob, 0, none⟩)), .eq (.slice (some ⟨g, 0, none⟩) n1 c1), .eq (.int .i64 (k : Nat)), .eq (.pointer (some ⟨g, k * 6, none⟩)), .eq (.pointer (some ⟨g, k * 6 + 5, none⟩)), .v0, .req, .req1, .v0, .eq (.pointer (some ⟨g, k * 6, none⟩)), .eq (.pointer (some ⟨g, k * 6 + 5, none⟩)), .any]

theorem five_ok : ∀ (i : Nat) (v : Value), #[Value.string ⟨#[]⟩, .string ⟨#[65]⟩, .string ⟨#[116, 111, 111, 108, 111, 110, 103]⟩, .string ⟨#[122, 122]⟩, .string ⟨#[97]⟩][i]? = some v → OKs v := by
  have h0 : 0 ≤ maxLen := Nat.zero_le _
  have h1 : 1 ≤ maxLen := by unfold maxLen; omega
  have h2 : 2 ≤ maxLen := by unfold maxLen; omega
  have h7 : 7 ≤ maxLen := by unfold maxLen; omega
  intro i v hv
  match i, hv with
  | 0, hv => simp at hv; subst hv; exact ⟨_, rfl, h0⟩
  | 1, hv => simp at hv; subst hv; exact ⟨_, rfl, h1⟩
  | 2, hv => simp at hv; subst hv; exact ⟨_, rfl, h7⟩
  | 3, hv => simp at hv; subst hv; exact ⟨_, rfl, h2⟩
  | 4, hv => simp at hv; subst hv; exact ⟨_, rfl, h1⟩
theorem int4 {w : World} {b : Nat} {z0 z1 z2 z3 : Int} {t : TypeId} (h : w.heap[b]? = some (.cells #[.int .i64 z0, .int .i64 z1, .int .i64 z2, .int .i64 z3] t (0, 0))) (i : Nat) (hi : i < 4) : ∃ z : Int, w.cell? ⟨b, i, none⟩ = some (.int .i64 z) := by
  match i, hi with
  | 0, _ => exact ⟨z0, by simp [World.cell?, h]⟩
  | 1, _ => exact ⟨z1, by simp [World.cell?, h]⟩
  | 2, _ => exact ⟨z2, by simp [World.cell?, h]⟩
  | 3, _ => exact ⟨z3, by simp [World.cell?, h]⟩
theorem intNotRd : (3 : TypeId) ≠ 70 := by decide

def ks29 (ob : Nat) : List Kd := [.eq (.pointer (some ⟨ob, 0, none⟩)), .v2p, .eq (.pointer (some ⟨ob, 0, none⟩)), .v2p, .gp, .pack, .pack1, .v2p, .eq (.pointer (some ⟨ob, 0, none⟩)), .any]
theorem soft29 (ob i : Nat) : soft (kSel (ks29 ob) i) := by
  match i with
  | 0 => exact trivial
  | 1 => exact trivial
  | 2 => exact trivial
  | 3 => exact trivial
  | 4 => exact trivial
  | 5 => exact trivial
  | 6 => exact trivial
  | 7 => exact trivial
  | 8 => exact trivial
  | 9 => exact trivial
  | i + 10 => exact trivial
def E29 (s ob n : Nat) (x y : World) : Prop := ∀ i v, kd s 50000 (kSel (ks29 ob) i) n v x → kd s 50000 (kSel (ks29 ob) i) (n + 1) v y
theorem E29.of {B s ob n : Nat} {x y : World} (e : Ev B s (50000 + n) (50000 + (n + 1)) x y) : E29 s ob n x y := fun i v h => h.on e
theorem E29.apart {s ob n rb b0 j : Nat} {x : World} {u : Value} (hb : CellsOf x b0 25) : E29 s ob n x (x.setCell ⟨b0, j, none⟩ u) := fun i v h => kd.apart (soft29 ob i) h hb
/-- The same, with one pack at least. -/
def SX (B rb s ob rs : Nat) (w0 : World) (N0 N : Nat) (m : Int) (x : World) : Prop := ∃ (g n c : Nat) (room : Int), SE B rb s ob rs w0 N0 (.slice (some ⟨g, 0, none⟩) (n + 1) c) room N m x

set_option maxRecDepth 10000 in
set_option maxHeartbeats 20000000 in
theorem l71Spoil_V (B rb s N : Nat) (m : Int) (a : Option Addr) (n c : Nat) (room : Int) (w : World) (h : Rd B w rb m) (hm : m ≤ 30000) (hV : V2 s w N (.slice a n c)) (hs : s ≤ w.heap.size) (hrs : rb < s) (hN : N ≤ 200) :
    Calls Tryz.prog 27 #[.pointer (some ⟨rb, 0, none⟩), .agg #[.slice a n c, .int .i64 room]] w fun e w' => (∃ (v' : Value) (room' : Int), e = .returned (.agg #[v', .int .i64 room']) ∧ V2 s w' 60000 v') ∧ Rd B w' rb (m + 1000) ∧ Ev B s N 60000 w w' := by
  have hrl := h.lt
  have hpB := h.past
  have bel0 := ((Below.refl w.heap.size w).alloc (Nat.le_refl _) (.cells #[.slice a n c, .int .i64 room] 25)).alloc (by simp) (.cells #[.slice none 0 0, .int .i64 0] 25)
  have E0 : Ev B s N N w _ := Ev.of_below bel0
  have V0' := V2.ev hV E0
  have R0 := h.below bel0
  have f0 : ((w.alloc (.cells #[.slice a n c, .int .i64 room] 25)).alloc (.cells #[.slice none 0 0, .int .i64 0] 25)).heap[w.heap.size]? = some (repoCells (.slice a n c) room) := (blk_alloc_lt _ _ _ (by simp)).trans (blk_alloc_new _ _)
  have f1 : ((w.alloc (.cells #[.slice a n c, .int .i64 room] 25)).alloc (.cells #[.slice none 0 0, .int .i64 0] 25)).heap[w.heap.size + 1]? = some (repoCells (.slice none 0 0) 0) := by
    have := blk_alloc_new (w.alloc (.cells #[.slice a n c, .int .i64 room] 25)) (.cells #[.slice none 0 0, .int .i64 0] 25)
    simpa [repoCells] using this
  have HF0 := hide f0
  have HF1 := hide f1
  have HE0 := hide E0
  clear f0 f1 E0 bel0
  go_enter Tryz.func27, Tryz.ntmps27
  go_wp2_with fail
  refine (l1Copy_V s N a n c room _ V0' (by simp; omega) hN).mono ?_
  rintro e w1 ⟨⟨v1, rfl, hv1⟩, hb1⟩
  obtain ⟨a1, n1, c1, rfl, hnc1, hnN1, hcm1⟩ := SlBy.slice hv1
  have hz1 := hb1.size
  simp at hz1
  have SE1 : SE B rb s w.heap.size (w.heap.size + 1) w N (.slice a n c) room 50000 m w1 :=
    ⟨(hb1.block _ (by simp; omega)).trans (unhide HF0), V2.wider (V2.ev V0' (Ev.of_below (B := B) hb1)) (by omega), (hb1.block _ (by simp)).trans (unhide HF1), R0.below hb1, ((unhide HE0).trans (Ev.of_below hb1)).more (by omega)⟩
  obtain ⟨q0, q1, qf⟩ := two SE1.box
  have qf0 := qf 0
  have qf1 := qf 1
  have HS := hide ((SE1.put hv1 (Nat.le_refl _) (by omega) hpB hrl).putRoom room (Nat.le_refl _) (by omega) hpB hrl)
  have hmx := hcm1
  unfold maxLen at hmx
  clear SE1 V0' HF0 HF1 HE0 hv1 qf hb1 R0
  by_cases hn0 : n1 = 0
  · subst hn0
    go_wp2_with fail
    refine (pick_any B rb _ 2 _ ((unhide HS).rd.alloc _) (by omega) (by omega) (by omega)).mono ?_
    rintro e w2 ⟨⟨r, rfl, hr0, hr1⟩, R2, W2⟩
    obtain ⟨r, rfl⟩ : ∃ j : Nat, r = j := ⟨r.toNat, by omega⟩
    have S2 := ((unhide HS).step (Ev.of_below ((Below.refl _ _).alloc (Nat.le_refl _) (.cells #[.int .i64 (-1), .int .i64 1000] 3))) ((unhide HS).rd.alloc _)).step (Ev.of_wrote W2) R2
    have hblk : w2.heap[w1.heap.size]? = some (.cells #[.int .i64 (-1), .int .i64 1000] 3 (0, 0)) := W2.blk (by
      have := blk_alloc_new ((w1.setCell ⟨w.heap.size, 0, none⟩ (.slice a1 0 c1)).setCell ⟨w.heap.size, 1, none⟩ (.int .i64 room)) (.cells #[.int .i64 (-1), .int .i64 1000] 3)
      simpa using this) intNotRd
    obtain ⟨z, hzc⟩ : ∃ z : Int, w2.cell? ⟨w1.heap.size, r, none⟩ = some (.int .i64 z) := by
      obtain ⟨c0, c1, _⟩ := two hblk
      rcases (show r = 0 ∨ r = 1 by omega) with rfl | rfl
      · exact ⟨_, c0⟩
      · exact ⟨_, c1⟩
    have hr2 : (r : Int) < 2 := by omega
    have S3 := S2.putRoom z (Nat.le_refl _) (by omega) hpB hrl
    obtain ⟨b0, b1, bf⟩ := two S2.box
    have bf1 := bf 1
    obtain ⟨c0, c1', _⟩ := two S3.box
    obtain ⟨e0, e1, ef⟩ := two S3.res
    have ef0 := ef 0
    have ef1 := ef 1
    have HF := hide (S3.fin (by omega) hpB hrl)
    clear S2 S3 HS R2 W2 hblk q0 q1 qf0 qf1 bf ef
    go_wp2_with fail
    obtain ⟨f1, f2, f3, R0, R1⟩ := unhide HF
    exact bodyPost_ret (v := .agg #[.slice a1 0 c1, .int .i64 z]) (by simp [results, Tryz.results27, go_sem, R0, R1]) rfl ⟨⟨_, z, rfl, V2.wider f1 (by omega)⟩, f2.more (by omega), f3.more (by omega)⟩
  · have hn0b : ((n1 : Int) == 0) = false := by simp; omega
    go_wp2_with fail
    refine (pick_any B rb _ n1 _ (unhide HS).rd (by omega) (by omega) (by omega)).mono ?_
    rintro e w2 ⟨⟨k, rfl, hk0, hk1⟩, R2, W2⟩
    obtain ⟨k, rfl⟩ : ∃ j : Nat, k = j := ⟨k.toNat, by omega⟩
    have hkn : k < n1 := by omega
    have HS2 := hide ((unhide HS).step (Ev.of_wrote W2) R2)
    clear HS R2 W2 q0 q1 qf0 qf1
    go_wp2_with fail
    refine (pick_any B rb _ 9 _ (unhide HS2).rd (by omega) (by omega) (by omega)).mono ?_
    rintro e w3 ⟨⟨r3, rfl, h30, h31⟩, R3, W3⟩
    have HSk := hide (((unhide HS2).step (Ev.of_wrote W3) R3).step (m' := m + 10) (Ev.refl _ _ _ _) (R3.more (by omega)))
    clear HS2 R3 W3
    obtain ⟨g, C, rfl, hgC⟩ := SlBy.addr (unhide HSk).val (by omega)
    clear hgC
    go_upto_block 0 with fail
    go_cut [] from 8 to 156 (fun wx => ∃ (a : Option Addr) (n c : Nat) (room : Int), Hid (SE B rb s w.heap.size (w.heap.size + 1) w N (.slice a n c) room 60000 (m + 1000) wx))
    case first =>
      have hks : (k : Int) < (n1 : Int) := by omega
      rcases (show r3 = 0 ∨ r3 = 1 ∨ r3 = 2 ∨ r3 = 3 ∨ r3 = 4 ∨ r3 = 5 ∨ r3 = 6 ∨ r3 = 7 ∨ r3 = 8 by omega) with rfl | rfl | rfl | rfl | rfl | rfl | rfl | rfl | rfl
      · go_wp2_with fail
        refine wp_region_levels (by kernel_rfl) (by kernel_rfl) (by kernel_rfl) (fun i => kd s (50000) (kSel (ks12 w.heap.size rb g n1 c1 k) i)) (fun n x => SE B rb s w.heap.size (w.heap.size + 1) w N (.slice (some ⟨g, 0, none⟩) n1 c1) room (50000 + n) (m + 10 + 2 * n)  x) (fun _ _ => True) (fun n => Ev B s (50000 + n) (50000 + (n + 1))) (fun _ _ _ _ _ => trivial) trivial (fun _ _ _ _ _ h k => h.on k) ?_ ?_ ?_
        · exact (unhide HSk).step (Ev.of_below (Below.refl _ _).drew) ((unhide HSk).rd.drew.more (by simp; try omega))
        · intro i o hi a x n hn ha hc hT hd
          clear hT
          have go : ∀ (y : World), Ev B s (50000 + n) (50000 + (n + 1)) x y → Rd B y rb (m + 10 + 2 * n + 2) → SE B rb s w.heap.size (w.heap.size + 1) w N (.slice (some ⟨g, 0, none⟩) n1 c1) room (50000 + (n + 1)) (m + 10 + 2 * ((n + 1 : Nat) : Int))  y := fun y e1 e2 => hc.step e1 (e2.more (by simp; omega))
          have R := hc.rd
          have up : Hid (Ev B s (50000 + n) (50000 + (n + 1)) x x) := (Ev.refl _ _ _ _).more (by omega)
          have upa : ∀ o, Hid (Ev B s (50000 + n) (50000 + (n + 1)) x (x.alloc o)) := fun o => (Ev.of_below ((Below.refl _ _).alloc (Nat.le_refl _) _)).more (by omega)
          have stay := hide (go x up (R.more (by omega)))
          have hz : s ≤ x.heap.size := Nat.le_trans hs hc.ev.size
          have HC := hide hc
          clear hc
          simp at hn
          match i with
          | 0 =>
            simp at hi
            subst hi
            have h3 : a.tmps[3]? = some (.pointer (some ⟨w.heap.size, 0, none⟩)) := (ha.slot 3 (slots_not (by kernel_rfl))).trans rfl
            go_simp
            exact ⟨_, rfl, rfl, stay, up⟩
          | 1 =>
            simp at hi
            subst hi
            have h0' : a.tmps[49]?.getD undef = .pointer (some ⟨w.heap.size, 0, none⟩) := by
              have h := hd ⟨0, .data⟩ (by simp) rfl
              rw [valOf_at (d := 49) rfl] at h
              exact h
            obtain ⟨q0, q1, _⟩ := two (unhide HC).box
            go_simp
            exact ⟨_, rfl, rfl, stay, up⟩
          | 2 =>
            simp at hi
            subst hi
            have h5 : a.tmps[5]? = some (.int .i64 (k : Nat)) := (ha.slot 5 (slots_not (by kernel_rfl))).trans rfl
            go_simp
            exact ⟨_, rfl, rfl, stay, up⟩
          | 3 =>
            simp at hi
            subst hi
            have h0 : a.tmps[0]? = some (.pointer (some ⟨rb, 0, none⟩)) := (ha.slot 0 (slots_not (by kernel_rfl))).trans rfl
            go_simp
            exact ⟨_, rfl, rfl, stay, up⟩
          | 4 =>
            simp at hi
            subst hi
            go_simp
            exact ⟨_, rfl, ⟨_, rfl, blk_alloc_new _ _, by unfold Alien; decide⟩, go _ (upa _) ((R.alloc _).more (by omega)), upa _⟩
          | 5 =>
            simp at hi
            subst hi
            have h3' : a.tmps[52]?.getD undef = .pointer (some ⟨rb, 0, none⟩) := by
              have h := hd ⟨3, .data⟩ (by simp) rfl
              rw [valOf_at (d := 52) rfl] at h
              exact h
            have h4 := hd ⟨4, .data⟩ (by simp) rfl
            rw [valOf_at (d := 53) rfl] at h4
            obtain ⟨gs, hgs, hgC, _⟩ := h4
            go_simp
            refine (of_any B rb _ _ R (by omega) gs 5 (by omega) (by omega) _ hgC rfl five_ok).mono ?_
            rintro e y ⟨⟨t, rfl, htl⟩, hR, hW⟩
            have e2 : Ev B s (50000 + n) (50000 + (n + 1)) x y := (Ev.of_wrote hW).more (by omega)
            exact ⟨_, rfl, ⟨t, rfl, htl⟩, go _ e2 (hR.more (by omega)), e2⟩
          | 6 =>
            simp at hi
            subst hi
            have h1' : a.tmps[50]?.getD undef = .slice (some ⟨g, 0, none⟩) n1 c1 := by
              have h := hd ⟨1, .data⟩ (by simp) rfl
              rw [valOf_at (d := 50) rfl] at h
              exact h
            have h2' : a.tmps[51]?.getD undef = .int .i64 (k : Nat) := by
              have h := hd ⟨2, .data⟩ (by simp) rfl
              rw [valOf_at (d := 51) rfl] at h
              exact h
            go_simp
            exact ⟨_, rfl, rfl, stay, up⟩
          | 7 =>
            simp at hi
            subst hi
            have h6' : a.tmps[55]?.getD undef = .pointer (some ⟨g, k * 6, none⟩) := by
              have h := hd ⟨6, .data⟩ (by simp) rfl
              rw [valOf_at (d := 55) rfl] at h
              exact h
            go_simp
            exact ⟨_, rfl, rfl, stay, up⟩
          | 8 =>
            simp at hi
            subst hi
            have h7' : a.tmps[56]?.getD undef = .pointer (some ⟨g, k * 6, none⟩) := by
              have h := hd ⟨7, .data⟩ (by simp) rfl
              rw [valOf_at (d := 56) rfl] at h
              exact h
            have h5 := hd ⟨5, .data⟩ (by simp) rfl
            rw [valOf_at (d := 54) rfl] at h5
            obtain ⟨t, ht, htl⟩ := h5
            obtain ⟨px, py, pz, u1, u2, u3, k0, k1, k2, k3, k4, k5, hP⟩ := V2.pack (unhide HC).val hkn
            obtain ⟨g2, C2, hg2, hsg, hC2, hCs, _, _, hok⟩ := SlBy.addr (unhide HC).val (by omega)
            simp at hg2
            subst hg2
            have fz := CellsOf.frozen ⟨C2, hC2⟩ (k * 6)
            have E : Ev B s (50000 + n) (50000 + n) x (x.setCell ⟨g, k * 6, none⟩ (.string t)) := Ev.packCell ⟨hsg, C2, hC2, hCs, hok⟩ ⟨fun _ => ⟨t, rfl, htl⟩, fun e => absurd e (by omega), fun e => absurd e (by omega), fun e => absurd e (by omega)⟩
            have RR := R.low (s := s) hrs E.size (setLow hsg x _)
            have HE := hide (E.more (show 50000 + n ≤ 50000 + (n + 1) by omega))
            have HSt := hide (go _ (unhide HE) (RR.more (by omega)))
            clear hP hC2 hok E RR
            go_simp
            exact ⟨trivial, unhide HSt, unhide HE⟩
          | i + 9 => simp at hi
        · intro a x ha hc hT ht
          clear hT
          have hl := ha.list
          simp [slotOf, List.range_succ] at hl
          rw [hl]
          clear hl
          rename_i J K1 hJ hK1
          exact hK1 _ _ (Met.intro (hJ _ _ ⟨_, _, _, _, _, _, _, _, _, _, _, _, _, _, _, _, _, _, _, _, _, _, _, _, _, _, _, _, _, _, _, _, _, _, _, _, _, _, _, _, _, _, _, _, _, _, _, _, _, _, _, _, _, _, _, _, _, _, _, _, _, _, _, _, _, _, _, _, _, _, _, _, _, _, _, _, _, _, _, _, _, _, _, _, _, _, _, _, _, _, _, _, _, _, _, _, _, _, _, _, _, _, _, _, _, _, _, _, _, _, _, _, _, _, _, _, _, _, _, _, _, _, _, _, _, _, _, _, _, _, _, _, _, _, _, _, _, _, _, _, _, _, _, _, _, _, _, _, _, _, _, ⟨_, _, _, _, hc.step ((Ev.refl _ _ _ _).more (by simp)) (hc.rd.more (by simp; omega))⟩, rfl⟩))
      · go_wp2_with fail
        refine wp_region_levels (by kernel_rfl) (by kernel_rfl) (by kernel_rfl) (fun i => kd s (50000) (kSel (ks14 w.heap.size rb g n1 c1 k) i)) (fun n x => SE B rb s w.heap.size (w.heap.size + 1) w N (.slice (some ⟨g, 0, none⟩) n1 c1) room (50000 + n) (m + 10 + 2 * n)  x) (fun _ _ => True) (fun n => Ev B s (50000 + n) (50000 + (n + 1))) (fun _ _ _ _ _ => trivial) trivial (fun _ _ _ _ _ h k => h.on k) ?_ ?_ ?_
        · exact (unhide HSk).step (Ev.of_below (Below.refl _ _).drew) ((unhide HSk).rd.drew.more (by simp; try omega))
        · intro i o hi a x n hn ha hc hT hd
          clear hT
          have go : ∀ (y : World), Ev B s (50000 + n) (50000 + (n + 1)) x y → Rd B y rb (m + 10 + 2 * n + 2) → SE B rb s w.heap.size (w.heap.size + 1) w N (.slice (some ⟨g, 0, none⟩) n1 c1) room (50000 + (n + 1)) (m + 10 + 2 * ((n + 1 : Nat) : Int))  y := fun y e1 e2 => hc.step e1 (e2.more (by simp; omega))
          have R := hc.rd
          have up : Hid (Ev B s (50000 + n) (50000 + (n + 1)) x x) := (Ev.refl _ _ _ _).more (by omega)
          have upa : ∀ o, Hid (Ev B s (50000 + n) (50000 + (n + 1)) x (x.alloc o)) := fun o => (Ev.of_below ((Below.refl _ _).alloc (Nat.le_refl _) _)).more (by omega)
          have stay := hide (go x up (R.more (by omega)))
          have hz : s ≤ x.heap.size := Nat.le_trans hs hc.ev.size
          have HC := hide hc
          clear hc
          simp at hn
          match i with
          | 0 =>
            simp at hi
            subst hi
            have h3 : a.tmps[3]? = some (.pointer (some ⟨w.heap.size, 0, none⟩)) := (ha.slot 3 (slots_not (by kernel_rfl))).trans rfl
            go_simp
            exact ⟨_, rfl, rfl, stay, up⟩
          | 1 =>
            simp at hi
            subst hi
            have h0' : a.tmps[59]?.getD undef = .pointer (some ⟨w.heap.size, 0, none⟩) := by
              have h := hd ⟨0, .data⟩ (by simp) rfl
              rw [valOf_at (d := 59) rfl] at h
              exact h
            obtain ⟨q0, q1, _⟩ := two (unhide HC).box
            go_simp
            exact ⟨_, rfl, rfl, stay, up⟩
          | 2 =>
            simp at hi
            subst hi
            have h5 : a.tmps[5]? = some (.int .i64 (k : Nat)) := (ha.slot 5 (slots_not (by kernel_rfl))).trans rfl
            go_simp
            exact ⟨_, rfl, rfl, stay, up⟩
          | 3 =>
            simp at hi
            subst hi
            go_simp
            exact ⟨_, rfl, ⟨_, rfl, blk_alloc_new _ _, by unfold Alien; decide⟩, go _ (upa _) ((R.alloc _).more (by omega)), upa _⟩
          | 4 =>
            simp at hi
            subst hi
            have h0 : a.tmps[0]? = some (.pointer (some ⟨rb, 0, none⟩)) := (ha.slot 0 (slots_not (by kernel_rfl))).trans rfl
            go_simp
            exact ⟨_, rfl, rfl, stay, up⟩
          | 5 =>
            simp at hi
            subst hi
            have h4' : a.tmps[63]?.getD undef = .pointer (some ⟨rb, 0, none⟩) := by
              have h := hd ⟨4, .data⟩ (by simp) rfl
              rw [valOf_at (d := 63) rfl] at h
              exact h
            go_simp
            refine (pick_any B rb _ 4 _ R (by omega) (by omega) (by omega)).mono ?_
            rintro e y ⟨⟨r, rfl, hr0, hr1⟩, hR, hW⟩
            have e2 : Ev B s (50000 + n) (50000 + (n + 1)) x y := (Ev.of_wrote hW).more (by omega)
            exact ⟨_, rfl, ⟨r.toNat, by rw [Int.toNat_of_nonneg hr0], by omega⟩, go _ e2 (hR.more (by omega)), e2⟩
          | 6 =>
            simp at hi
            subst hi
            have h3 := hd ⟨3, .data⟩ (by simp) rfl
            rw [valOf_at (d := 62) rfl] at h3
            obtain ⟨gs, hgs, hgC, hal⟩ := h3
            have h5 := hd ⟨5, .data⟩ (by simp) rfl
            rw [valOf_at (d := 64) rfl] at h5
            obtain ⟨r, hr, hr'⟩ := h5
            have hr3 : (r : Int) < 4 := by omega
            go_simp
            exact ⟨_, rfl, ⟨gs, r, by simp, hr', hgC, hal⟩, stay, up⟩
          | 7 =>
            simp at hi
            subst hi
            have h6 := hd ⟨6, .data⟩ (by simp) rfl
            rw [valOf_at (d := 65) rfl] at h6
            obtain ⟨gs, r, hgs, hr, hgC, _⟩ := h6
            obtain ⟨z, hz'⟩ := int4 hgC r hr
            clear hgC
            go_simp
            exact ⟨_, rfl, ⟨z, rfl⟩, stay, up⟩
          | 8 =>
            simp at hi
            subst hi
            have h1' : a.tmps[60]?.getD undef = .slice (some ⟨g, 0, none⟩) n1 c1 := by
              have h := hd ⟨1, .data⟩ (by simp) rfl
              rw [valOf_at (d := 60) rfl] at h
              exact h
            have h2' : a.tmps[61]?.getD undef = .int .i64 (k : Nat) := by
              have h := hd ⟨2, .data⟩ (by simp) rfl
              rw [valOf_at (d := 61) rfl] at h
              exact h
            go_simp
            exact ⟨_, rfl, rfl, stay, up⟩
          | 9 =>
            simp at hi
            subst hi
            have h8' : a.tmps[67]?.getD undef = .pointer (some ⟨g, k * 6, none⟩) := by
              have h := hd ⟨8, .data⟩ (by simp) rfl
              rw [valOf_at (d := 67) rfl] at h
              exact h
            go_simp
            exact ⟨_, rfl, rfl, stay, up⟩
          | 10 =>
            simp at hi
            subst hi
            have h9' : a.tmps[68]?.getD undef = .pointer (some ⟨g, k * 6 + 1, none⟩) := by
              have h := hd ⟨9, .data⟩ (by simp) rfl
              rw [valOf_at (d := 68) rfl] at h
              exact h
            have h7 := hd ⟨7, .data⟩ (by simp) rfl
            rw [valOf_at (d := 66) rfl] at h7
            obtain ⟨z, hz'⟩ := h7
            obtain ⟨px, py, pz, u1, u2, u3, k0, k1, k2, k3, k4, k5, hP⟩ := V2.pack (unhide HC).val hkn
            obtain ⟨g2, C2, hg2, hsg, hC2, hCs, _, _, hok⟩ := SlBy.addr (unhide HC).val (by omega)
            simp at hg2
            subst hg2
            have fz := CellsOf.frozen ⟨C2, hC2⟩ (k * 6 + 1)
            have E : Ev B s (50000 + n) (50000 + n) x (x.setCell ⟨g, k * 6 + 1, none⟩ (.int .i64 z)) := Ev.packCell ⟨hsg, C2, hC2, hCs, hok⟩ ⟨fun e => absurd e (by omega), fun _ => ⟨z, rfl⟩, fun e => absurd e (by omega), fun e => absurd e (by omega)⟩
            have RR := R.low (s := s) hrs E.size (setLow hsg x _)
            have HE := hide (E.more (show 50000 + n ≤ 50000 + (n + 1) by omega))
            have HSt := hide (go _ (unhide HE) (RR.more (by omega)))
            clear hP hC2 hok E RR
            go_simp
            exact ⟨trivial, unhide HSt, unhide HE⟩
          | i + 11 => simp at hi
        · intro a x ha hc hT ht
          clear hT
          have hl := ha.list
          simp [slotOf, List.range_succ] at hl
          rw [hl]
          clear hl
          rename_i J K1 hJ hK1
          exact hK1 _ _ (Met.intro (hJ _ _ ⟨_, _, _, _, _, _, _, _, _, _, _, _, _, _, _, _, _, _, _, _, _, _, _, _, _, _, _, _, _, _, _, _, _, _, _, _, _, _, _, _, _, _, _, _, _, _, _, _, _, _, _, _, _, _, _, _, _, _, _, _, _, _, _, _, _, _, _, _, _, _, _, _, _, _, _, _, _, _, _, _, _, _, _, _, _, _, _, _, _, _, _, _, _, _, _, _, _, _, _, _, _, _, _, _, _, _, _, _, _, _, _, _, _, _, _, _, _, _, _, _, _, _, _, _, _, _, _, _, _, _, _, _, _, _, _, _, _, _, _, _, _, _, _, _, _, _, _, _, _, _, _, ⟨_, _, _, _, hc.step ((Ev.refl _ _ _ _).more (by simp)) (hc.rd.more (by simp; omega))⟩, rfl⟩))
      · go_wp2_with fail
        refine wp_region_levels (by kernel_rfl) (by kernel_rfl) (by kernel_rfl) (fun i => kd s (50000) (kSel (ks16 w.heap.size rb g n1 c1 k) i)) (fun n x => SE B rb s w.heap.size (w.heap.size + 1) w N (.slice (some ⟨g, 0, none⟩) n1 c1) room (50000 + n) (m + 10 + 2 * n)  x) (fun _ _ => True) (fun n => Ev B s (50000 + n) (50000 + (n + 1))) (fun _ _ _ _ _ => trivial) trivial (fun _ _ _ _ _ h k => h.on k) ?_ ?_ ?_
        · exact (unhide HSk).step (Ev.of_below (Below.refl _ _).drew) ((unhide HSk).rd.drew.more (by simp; try omega))
        · intro i o hi a x n hn ha hc hT hd
          clear hT
          have go : ∀ (y : World), Ev B s (50000 + n) (50000 + (n + 1)) x y → Rd B y rb (m + 10 + 2 * n + 2) → SE B rb s w.heap.size (w.heap.size + 1) w N (.slice (some ⟨g, 0, none⟩) n1 c1) room (50000 + (n + 1)) (m + 10 + 2 * ((n + 1 : Nat) : Int))  y := fun y e1 e2 => hc.step e1 (e2.more (by simp; omega))
          have R := hc.rd
          have up : Hid (Ev B s (50000 + n) (50000 + (n + 1)) x x) := (Ev.refl _ _ _ _).more (by omega)
          have upa : ∀ o, Hid (Ev B s (50000 + n) (50000 + (n + 1)) x (x.alloc o)) := fun o => (Ev.of_below ((Below.refl _ _).alloc (Nat.le_refl _) _)).more (by omega)
          have stay := hide (go x up (R.more (by omega)))
          have hz : s ≤ x.heap.size := Nat.le_trans hs hc.ev.size
          have HC := hide hc
          clear hc
          simp at hn
          match i with
          | 0 =>
            simp at hi
            subst hi
            have h3 : a.tmps[3]? = some (.pointer (some ⟨w.heap.size, 0, none⟩)) := (ha.slot 3 (slots_not (by kernel_rfl))).trans rfl
            go_simp
            exact ⟨_, rfl, rfl, stay, up⟩
          | 1 =>
            simp at hi
            subst hi
            have h0' : a.tmps[71]?.getD undef = .pointer (some ⟨w.heap.size, 0, none⟩) := by
              have h := hd ⟨0, .data⟩ (by simp) rfl
              rw [valOf_at (d := 71) rfl] at h
              exact h
            obtain ⟨q0, q1, _⟩ := two (unhide HC).box
            go_simp
            exact ⟨_, rfl, rfl, stay, up⟩
          | 2 =>
            simp at hi
            subst hi
            have h5 : a.tmps[5]? = some (.int .i64 (k : Nat)) := (ha.slot 5 (slots_not (by kernel_rfl))).trans rfl
            go_simp
            exact ⟨_, rfl, rfl, stay, up⟩
          | 3 =>
            simp at hi
            subst hi
            go_simp
            exact ⟨_, rfl, ⟨_, rfl, blk_alloc_new _ _, by unfold Alien; decide⟩, go _ (upa _) ((R.alloc _).more (by omega)), upa _⟩
          | 4 =>
            simp at hi
            subst hi
            have h0 : a.tmps[0]? = some (.pointer (some ⟨rb, 0, none⟩)) := (ha.slot 0 (slots_not (by kernel_rfl))).trans rfl
            go_simp
            exact ⟨_, rfl, rfl, stay, up⟩
          | 5 =>
            simp at hi
            subst hi
            have h4' : a.tmps[75]?.getD undef = .pointer (some ⟨rb, 0, none⟩) := by
              have h := hd ⟨4, .data⟩ (by simp) rfl
              rw [valOf_at (d := 75) rfl] at h
              exact h
            go_simp
            refine (pick_any B rb _ 4 _ R (by omega) (by omega) (by omega)).mono ?_
            rintro e y ⟨⟨r, rfl, hr0, hr1⟩, hR, hW⟩
            have e2 : Ev B s (50000 + n) (50000 + (n + 1)) x y := (Ev.of_wrote hW).more (by omega)
            exact ⟨_, rfl, ⟨r.toNat, by rw [Int.toNat_of_nonneg hr0], by omega⟩, go _ e2 (hR.more (by omega)), e2⟩
          | 6 =>
            simp at hi
            subst hi
            have h3 := hd ⟨3, .data⟩ (by simp) rfl
            rw [valOf_at (d := 74) rfl] at h3
            obtain ⟨gs, hgs, hgC, hal⟩ := h3
            have h5 := hd ⟨5, .data⟩ (by simp) rfl
            rw [valOf_at (d := 76) rfl] at h5
            obtain ⟨r, hr, hr'⟩ := h5
            have hr3 : (r : Int) < 4 := by omega
            go_simp
            exact ⟨_, rfl, ⟨gs, r, by simp, hr', hgC, hal⟩, stay, up⟩
          | 7 =>
            simp at hi
            subst hi
            have h6 := hd ⟨6, .data⟩ (by simp) rfl
            rw [valOf_at (d := 77) rfl] at h6
            obtain ⟨gs, r, hgs, hr, hgC, _⟩ := h6
            obtain ⟨z, hz'⟩ := int4 hgC r hr
            clear hgC
            go_simp
            exact ⟨_, rfl, ⟨z, rfl⟩, stay, up⟩
          | 8 =>
            simp at hi
            subst hi
            have h1' : a.tmps[72]?.getD undef = .slice (some ⟨g, 0, none⟩) n1 c1 := by
              have h := hd ⟨1, .data⟩ (by simp) rfl
              rw [valOf_at (d := 72) rfl] at h
              exact h
            have h2' : a.tmps[73]?.getD undef = .int .i64 (k : Nat) := by
              have h := hd ⟨2, .data⟩ (by simp) rfl
              rw [valOf_at (d := 73) rfl] at h
              exact h
            go_simp
            exact ⟨_, rfl, rfl, stay, up⟩
          | 9 =>
            simp at hi
            subst hi
            have h8' : a.tmps[79]?.getD undef = .pointer (some ⟨g, k * 6, none⟩) := by
              have h := hd ⟨8, .data⟩ (by simp) rfl
              rw [valOf_at (d := 79) rfl] at h
              exact h
            go_simp
            exact ⟨_, rfl, rfl, stay, up⟩
          | 10 =>
            simp at hi
            subst hi
            have h9' : a.tmps[80]?.getD undef = .pointer (some ⟨g, k * 6 + 2, none⟩) := by
              have h := hd ⟨9, .data⟩ (by simp) rfl
              rw [valOf_at (d := 80) rfl] at h
              exact h
            have h7 := hd ⟨7, .data⟩ (by simp) rfl
            rw [valOf_at (d := 78) rfl] at h7
            obtain ⟨z, hz'⟩ := h7
            obtain ⟨px, py, pz, u1, u2, u3, k0, k1, k2, k3, k4, k5, hP⟩ := V2.pack (unhide HC).val hkn
            obtain ⟨g2, C2, hg2, hsg, hC2, hCs, _, _, hok⟩ := SlBy.addr (unhide HC).val (by omega)
            simp at hg2
            subst hg2
            have fz := CellsOf.frozen ⟨C2, hC2⟩ (k * 6 + 2)
            have E : Ev B s (50000 + n) (50000 + n) x (x.setCell ⟨g, k * 6 + 2, none⟩ (.int .i64 z)) := Ev.packCell ⟨hsg, C2, hC2, hCs, hok⟩ ⟨fun e => absurd e (by omega), fun _ => ⟨z, rfl⟩, fun e => absurd e (by omega), fun e => absurd e (by omega)⟩
            have RR := R.low (s := s) hrs E.size (setLow hsg x _)
            have HE := hide (E.more (show 50000 + n ≤ 50000 + (n + 1) by omega))
            have HSt := hide (go _ (unhide HE) (RR.more (by omega)))
            clear hP hC2 hok E RR
            go_simp
            exact ⟨trivial, unhide HSt, unhide HE⟩
          | i + 11 => simp at hi
        · intro a x ha hc hT ht
          clear hT
          have hl := ha.list
          simp [slotOf, List.range_succ] at hl
          rw [hl]
          clear hl
          rename_i J K1 hJ hK1
          exact hK1 _ _ (Met.intro (hJ _ _ ⟨_, _, _, _, _, _, _, _, _, _, _, _, _, _, _, _, _, _, _, _, _, _, _, _, _, _, _, _, _, _, _, _, _, _, _, _, _, _, _, _, _, _, _, _, _, _, _, _, _, _, _, _, _, _, _, _, _, _, _, _, _, _, _, _, _, _, _, _, _, _, _, _, _, _, _, _, _, _, _, _, _, _, _, _, _, _, _, _, _, _, _, _, _, _, _, _, _, _, _, _, _, _, _, _, _, _, _, _, _, _, _, _, _, _, _, _, _, _, _, _, _, _, _, _, _, _, _, _, _, _, _, _, _, _, _, _, _, _, _, _, _, _, _, _, _, _, _, _, _, _, _, ⟨_, _, _, _, hc.step ((Ev.refl _ _ _ _).more (by simp)) (hc.rd.more (by simp; omega))⟩, rfl⟩))
      · go_wp2_with fail
        refine wp_region_levels (by kernel_rfl) (by kernel_rfl) (by kernel_rfl) (fun i => kd s (50000) (kSel (ks18 w.heap.size rb g n1 c1 k) i)) (fun n x => SE B rb s w.heap.size (w.heap.size + 1) w N (.slice (some ⟨g, 0, none⟩) n1 c1) room (50000 + n) (m + 10 + 2 * n)  x) (fun _ _ => True) (fun n => Ev B s (50000 + n) (50000 + (n + 1))) (fun _ _ _ _ _ => trivial) trivial (fun _ _ _ _ _ h k => h.on k) ?_ ?_ ?_
        · exact (unhide HSk).step (Ev.of_below (Below.refl _ _).drew) ((unhide HSk).rd.drew.more (by simp; try omega))
        · intro i o hi a x n hn ha hc hT hd
          clear hT
          have go : ∀ (y : World), Ev B s (50000 + n) (50000 + (n + 1)) x y → Rd B y rb (m + 10 + 2 * n + 2) → SE B rb s w.heap.size (w.heap.size + 1) w N (.slice (some ⟨g, 0, none⟩) n1 c1) room (50000 + (n + 1)) (m + 10 + 2 * ((n + 1 : Nat) : Int))  y := fun y e1 e2 => hc.step e1 (e2.more (by simp; omega))
          have R := hc.rd
          have up : Hid (Ev B s (50000 + n) (50000 + (n + 1)) x x) := (Ev.refl _ _ _ _).more (by omega)
          have upa : ∀ o, Hid (Ev B s (50000 + n) (50000 + (n + 1)) x (x.alloc o)) := fun o => (Ev.of_below ((Below.refl _ _).alloc (Nat.le_refl _) _)).more (by omega)
          have stay := hide (go x up (R.more (by omega)))
          have hz : s ≤ x.heap.size := Nat.le_trans hs hc.ev.size
          have HC := hide hc
          clear hc
          simp at hn
          match i with
          | 0 =>
            simp at hi
            subst hi
            have h3 : a.tmps[3]? = some (.pointer (some ⟨w.heap.size, 0, none⟩)) := (ha.slot 3 (slots_not (by kernel_rfl))).trans rfl
            go_simp
            exact ⟨_, rfl, rfl, stay, up⟩
          | 1 =>
            simp at hi
            subst hi
            have h0' : a.tmps[83]?.getD undef = .pointer (some ⟨w.heap.size, 0, none⟩) := by
              have h := hd ⟨0, .data⟩ (by simp) rfl
              rw [valOf_at (d := 83) rfl] at h
              exact h
            obtain ⟨q0, q1, _⟩ := two (unhide HC).box
            go_simp
            exact ⟨_, rfl, rfl, stay, up⟩
          | 2 =>
            simp at hi
            subst hi
            have h5 : a.tmps[5]? = some (.int .i64 (k : Nat)) := (ha.slot 5 (slots_not (by kernel_rfl))).trans rfl
            go_simp
            exact ⟨_, rfl, rfl, stay, up⟩
          | 3 =>
            simp at hi
            subst hi
            have h3 : a.tmps[3]? = some (.pointer (some ⟨w.heap.size, 0, none⟩)) := (ha.slot 3 (slots_not (by kernel_rfl))).trans rfl
            go_simp
            exact ⟨_, rfl, rfl, stay, up⟩
          | 4 =>
            simp at hi
            subst hi
            have h3' : a.tmps[86]?.getD undef = .pointer (some ⟨w.heap.size, 0, none⟩) := by
              have h := hd ⟨3, .data⟩ (by simp) rfl
              rw [valOf_at (d := 86) rfl] at h
              exact h
            obtain ⟨q0, q1, _⟩ := two (unhide HC).box
            go_simp
            exact ⟨_, rfl, rfl, stay, up⟩
          | 5 =>
            simp at hi
            subst hi
            have h5 : a.tmps[5]? = some (.int .i64 (k : Nat)) := (ha.slot 5 (slots_not (by kernel_rfl))).trans rfl
            go_simp
            exact ⟨_, rfl, rfl, stay, up⟩
          | 6 =>
            simp at hi
            subst hi
            have h4' : a.tmps[87]?.getD undef = .slice (some ⟨g, 0, none⟩) n1 c1 := by
              have h := hd ⟨4, .data⟩ (by simp) rfl
              rw [valOf_at (d := 87) rfl] at h
              exact h
            have h5' : a.tmps[88]?.getD undef = .int .i64 (k : Nat) := by
              have h := hd ⟨5, .data⟩ (by simp) rfl
              rw [valOf_at (d := 88) rfl] at h
              exact h
            go_simp
            exact ⟨_, rfl, rfl, stay, up⟩
          | 7 =>
            simp at hi
            subst hi
            have h6' : a.tmps[89]?.getD undef = .pointer (some ⟨g, k * 6, none⟩) := by
              have h := hd ⟨6, .data⟩ (by simp) rfl
              rw [valOf_at (d := 89) rfl] at h
              exact h
            go_simp
            exact ⟨_, rfl, rfl, stay, up⟩
          | 8 =>
            simp at hi
            subst hi
            have h7' : a.tmps[90]?.getD undef = .pointer (some ⟨g, k * 6 + 3, none⟩) := by
              have h := hd ⟨7, .data⟩ (by simp) rfl
              rw [valOf_at (d := 90) rfl] at h
              exact h
            obtain ⟨px, py, pz, u1, u2, u3, k0, k1, k2, k3, k4, k5, hP⟩ := V2.pack (unhide HC).val hkn
            have HV := hide (hP.deps.ev up)
            clear hP
            go_simp
            exact ⟨_, rfl, unhide HV, stay, up⟩
          | 9 =>
            simp at hi
            subst hi
            go_simp
            exact ⟨_, rfl, ⟨_, rfl, G1.of hz (blk_alloc_new _ _) (Or.inl rfl)⟩, go _ (upa _) ((R.alloc _).more (by omega)), upa _⟩
          | 10 =>
            simp at hi
            subst hi
            have hv := hd ⟨8, .data⟩ (by simp) rfl
            rw [valOf_at (d := 91) rfl] at hv
            have h9 := hd ⟨9, .data⟩ (by simp) rfl
            rw [valOf_at (d := 92) rfl] at h9
            obtain ⟨g1, hg1, hG1⟩ := h9
            obtain ⟨u, hu, hVu⟩ := G1.one hG1
            have k0 : x.cell? ⟨g1, 0, none⟩ = some u := by simp [World.cell?, hu]
            obtain ⟨v', y, hrun, hV', hE, hlow, _⟩ := append_V1 (B := B) x 63 _ hv hz (by omega) ⟨g1, 0, none⟩ 1 u hVu (SlBy.oneCell hVu) k0 rfl
            refine wp_append_run _ _ _ rfl _ _ v' y (eval_at _ _) ((eval_at _ _).trans hg1) hrun ⟨v', rfl, hV', go _ hE ((R.low hrs hE.size hlow).more (by omega)), trivial, hE⟩
          | 11 =>
            simp at hi
            subst hi
            have h1' : a.tmps[84]?.getD undef = .slice (some ⟨g, 0, none⟩) n1 c1 := by
              have h := hd ⟨1, .data⟩ (by simp) rfl
              rw [valOf_at (d := 84) rfl] at h
              exact h
            have h2' : a.tmps[85]?.getD undef = .int .i64 (k : Nat) := by
              have h := hd ⟨2, .data⟩ (by simp) rfl
              rw [valOf_at (d := 85) rfl] at h
              exact h
            go_simp
            exact ⟨_, rfl, rfl, stay, up⟩
          | 12 =>
            simp at hi
            subst hi
            have h11' : a.tmps[94]?.getD undef = .pointer (some ⟨g, k * 6, none⟩) := by
              have h := hd ⟨11, .data⟩ (by simp) rfl
              rw [valOf_at (d := 94) rfl] at h
              exact h
            go_simp
            exact ⟨_, rfl, rfl, stay, up⟩
          | 13 =>
            simp at hi
            subst hi
            have h12' : a.tmps[95]?.getD undef = .pointer (some ⟨g, k * 6 + 3, none⟩) := by
              have h := hd ⟨12, .data⟩ (by simp) rfl
              rw [valOf_at (d := 95) rfl] at h
              exact h
            have hv := hd ⟨10, .data⟩ (by simp) rfl
            rw [valOf_at (d := 93) rfl] at hv
            obtain ⟨sa, sn, sc, hsl, _⟩ := SlBy.slice (show V1 s x (50000 + n) _ from hv)
            rw [hsl] at hv
            obtain ⟨px, py, pz, u1, u2, u3, k0, k1, k2, k3, k4, k5, hP⟩ := V2.pack (unhide HC).val hkn
            obtain ⟨g2, C2, hg2, hsg, hC2, hCs, _, _, hok⟩ := SlBy.addr (unhide HC).val (by omega)
            simp at hg2
            subst hg2
            have fz := CellsOf.frozen ⟨C2, hC2⟩ (k * 6 + 3)
            have E : Ev B s (50000 + n) (50000 + n) x (x.setCell ⟨g, k * 6 + 3, none⟩ (.slice sa sn sc)) := Ev.packCell ⟨hsg, C2, hC2, hCs, hok⟩ ⟨fun e => absurd e (by omega), fun e => absurd e (by omega), fun _ => hv, fun e => absurd e (by omega)⟩
            have RR := R.low (s := s) hrs E.size (setLow hsg x _)
            have HE := hide (E.more (show 50000 + n ≤ 50000 + (n + 1) by omega))
            have HSt := hide (go _ (unhide HE) (RR.more (by omega)))
            clear hP hC2 hok E RR
            clear hv
            go_simp
            exact ⟨trivial, unhide HSt, unhide HE⟩
          | i + 14 => simp at hi
        · intro a x ha hc hT ht
          clear hT
          have hl := ha.list
          simp [slotOf, List.range_succ] at hl
          rw [hl]
          clear hl
          rename_i J K1 hJ hK1
          exact hK1 _ _ (Met.intro (hJ _ _ ⟨_, _, _, _, _, _, _, _, _, _, _, _, _, _, _, _, _, _, _, _, _, _, _, _, _, _, _, _, _, _, _, _, _, _, _, _, _, _, _, _, _, _, _, _, _, _, _, _, _, _, _, _, _, _, _, _, _, _, _, _, _, _, _, _, _, _, _, _, _, _, _, _, _, _, _, _, _, _, _, _, _, _, _, _, _, _, _, _, _, _, _, _, _, _, _, _, _, _, _, _, _, _, _, _, _, _, _, _, _, _, _, _, _, _, _, _, _, _, _, _, _, _, _, _, _, _, _, _, _, _, _, _, _, _, _, _, _, _, _, _, _, _, _, _, _, _, _, _, _, _, _, ⟨_, _, _, _, hc.step ((Ev.refl _ _ _ _).more (by simp)) (hc.rd.more (by simp; omega))⟩, rfl⟩))
      · go_wp2_with fail
        refine wp_region_levels (by kernel_rfl) (by kernel_rfl) (by kernel_rfl) (fun i => kd s (50000) (kSel (ks20 w.heap.size rb g n1 c1 k) i)) (fun n x => SE B rb s w.heap.size (w.heap.size + 1) w N (.slice (some ⟨g, 0, none⟩) n1 c1) room (50000 + n) (m + 10 + 2 * n)  x) (fun _ _ => True) (fun n => Ev B s (50000 + n) (50000 + (n + 1))) (fun _ _ _ _ _ => trivial) trivial (fun _ _ _ _ _ h k => h.on k) ?_ ?_ ?_
        · exact (unhide HSk).step (Ev.of_below (Below.refl _ _).drew) ((unhide HSk).rd.drew.more (by simp; try omega))
        · intro i o hi a x n hn ha hc hT hd
          clear hT
          have go : ∀ (y : World), Ev B s (50000 + n) (50000 + (n + 1)) x y → Rd B y rb (m + 10 + 2 * n + 2) → SE B rb s w.heap.size (w.heap.size + 1) w N (.slice (some ⟨g, 0, none⟩) n1 c1) room (50000 + (n + 1)) (m + 10 + 2 * ((n + 1 : Nat) : Int))  y := fun y e1 e2 => hc.step e1 (e2.more (by simp; omega))
          have R := hc.rd
          have up : Hid (Ev B s (50000 + n) (50000 + (n + 1)) x x) := (Ev.refl _ _ _ _).more (by omega)
          have upa : ∀ o, Hid (Ev B s (50000 + n) (50000 + (n + 1)) x (x.alloc o)) := fun o => (Ev.of_below ((Below.refl _ _).alloc (Nat.le_refl _) _)).more (by omega)
          have stay := hide (go x up (R.more (by omega)))
          have hz : s ≤ x.heap.size := Nat.le_trans hs hc.ev.size
          have HC := hide hc
          clear hc
          simp at hn
          match i with
          | 0 =>
            simp at hi
            subst hi
            have h3 : a.tmps[3]? = some (.pointer (some ⟨w.heap.size, 0, none⟩)) := (ha.slot 3 (slots_not (by kernel_rfl))).trans rfl
            go_simp
            exact ⟨_, rfl, rfl, stay, up⟩
          | 1 =>
            simp at hi
            subst hi
            have h0' : a.tmps[98]?.getD undef = .pointer (some ⟨w.heap.size, 0, none⟩) := by
              have h := hd ⟨0, .data⟩ (by simp) rfl
              rw [valOf_at (d := 98) rfl] at h
              exact h
            obtain ⟨q0, q1, _⟩ := two (unhide HC).box
            go_simp
            exact ⟨_, rfl, rfl, stay, up⟩
          | 2 =>
            simp at hi
            subst hi
            have h5 : a.tmps[5]? = some (.int .i64 (k : Nat)) := (ha.slot 5 (slots_not (by kernel_rfl))).trans rfl
            go_simp
            exact ⟨_, rfl, rfl, stay, up⟩
          | 3 =>
            simp at hi
            subst hi
            have h3 : a.tmps[3]? = some (.pointer (some ⟨w.heap.size, 0, none⟩)) := (ha.slot 3 (slots_not (by kernel_rfl))).trans rfl
            go_simp
            exact ⟨_, rfl, rfl, stay, up⟩
          | 4 =>
            simp at hi
            subst hi
            have h3' : a.tmps[101]?.getD undef = .pointer (some ⟨w.heap.size, 0, none⟩) := by
              have h := hd ⟨3, .data⟩ (by simp) rfl
              rw [valOf_at (d := 101) rfl] at h
              exact h
            obtain ⟨q0, q1, _⟩ := two (unhide HC).box
            go_simp
            exact ⟨_, rfl, rfl, stay, up⟩
          | 5 =>
            simp at hi
            subst hi
            have h5 : a.tmps[5]? = some (.int .i64 (k : Nat)) := (ha.slot 5 (slots_not (by kernel_rfl))).trans rfl
            go_simp
            exact ⟨_, rfl, rfl, stay, up⟩
          | 6 =>
            simp at hi
            subst hi
            have h4' : a.tmps[102]?.getD undef = .slice (some ⟨g, 0, none⟩) n1 c1 := by
              have h := hd ⟨4, .data⟩ (by simp) rfl
              rw [valOf_at (d := 102) rfl] at h
              exact h
            have h5' : a.tmps[103]?.getD undef = .int .i64 (k : Nat) := by
              have h := hd ⟨5, .data⟩ (by simp) rfl
              rw [valOf_at (d := 103) rfl] at h
              exact h
            go_simp
            exact ⟨_, rfl, rfl, stay, up⟩
          | 7 =>
            simp at hi
            subst hi
            have h6' : a.tmps[104]?.getD undef = .pointer (some ⟨g, k * 6, none⟩) := by
              have h := hd ⟨6, .data⟩ (by simp) rfl
              rw [valOf_at (d := 104) rfl] at h
              exact h
            go_simp
            exact ⟨_, rfl, rfl, stay, up⟩
          | 8 =>
            simp at hi
            subst hi
            have h7' : a.tmps[105]?.getD undef = .pointer (some ⟨g, k * 6 + 4, none⟩) := by
              have h := hd ⟨7, .data⟩ (by simp) rfl
              rw [valOf_at (d := 105) rfl] at h
              exact h
            obtain ⟨px, py, pz, u1, u2, u3, k0, k1, k2, k3, k4, k5, hP⟩ := V2.pack (unhide HC).val hkn
            have HV := hide (hP.pres.ev up)
            clear hP
            go_simp
            exact ⟨_, rfl, unhide HV, stay, up⟩
          | 9 =>
            simp at hi
            subst hi
            have h0 : a.tmps[0]? = some (.pointer (some ⟨rb, 0, none⟩)) := (ha.slot 0 (slots_not (by kernel_rfl))).trans rfl
            go_simp
            exact ⟨_, rfl, rfl, stay, up⟩
          | 10 =>
            simp at hi
            subst hi
            have h9' : a.tmps[107]?.getD undef = .pointer (some ⟨rb, 0, none⟩) := by
              have h := hd ⟨9, .data⟩ (by simp) rfl
              rw [valOf_at (d := 107) rfl] at h
              exact h
            go_simp
            refine (pick_any B rb _ 2 _ R (by omega) (by omega) (by omega)).mono ?_
            rintro e y ⟨⟨r, rfl, hr0, hr1⟩, hR, hW⟩
            have e2 : Ev B s (50000 + n) (50000 + (n + 1)) x y := (Ev.of_wrote hW).more (by omega)
            exact ⟨_, rfl, ⟨r.toNat, by rw [Int.toNat_of_nonneg hr0], by omega⟩, go _ e2 (hR.more (by omega)), e2⟩
          | 11 =>
            simp at hi
            subst hi
            have h10 := hd ⟨10, .data⟩ (by simp) rfl
            rw [valOf_at (d := 108) rfl] at h10
            obtain ⟨r, hr, hr'⟩ := h10
            have hw := wr64 (1 + (r : Int)) (by omega)
            go_simp
            exact ⟨_, rfl, ⟨_, rfl⟩, stay, up⟩
          | 12 =>
            simp at hi
            subst hi
            have h11 := hd ⟨11, .data⟩ (by simp) rfl
            rw [valOf_at (d := 109) rfl] at h11
            obtain ⟨z, hz'⟩ := h11
            go_simp
            exact ⟨_, rfl, ⟨⟨⟨#[97]⟩, 2, z⟩, rfl, one_le_max⟩, stay, up⟩
          | 13 =>
            simp at hi
            subst hi
            have h12 := hd ⟨12, .data⟩ (by simp) rfl
            rw [valOf_at (d := 110) rfl] at h12
            obtain ⟨q, hq, hq'⟩ := h12
            go_simp
            exact ⟨_, rfl, ⟨_, rfl, G0.of hz (blk_alloc_new _ _) hq'⟩, go _ (upa _) ((R.alloc _).more (by omega)), upa _⟩
          | 14 =>
            simp at hi
            subst hi
            have hv := hd ⟨8, .data⟩ (by simp) rfl
            rw [valOf_at (d := 106) rfl] at hv
            have h13 := hd ⟨13, .data⟩ (by simp) rfl
            rw [valOf_at (d := 111) rfl] at h13
            obtain ⟨g1, hg1, hG1⟩ := h13
            obtain ⟨q, hq, hql⟩ := G0.one hG1
            obtain ⟨k0, k1, k2, _⟩ := three hq
            obtain ⟨v', y, hrun, hV', hE, hlow, _⟩ := append_V0 (B := B) x 64 _ hv hz (by omega) ⟨g1, 0, none⟩ 1 q hql (fun i u hu => by
              match i, hu with
              | 0, hu => simp [reqVals] at hu; subst hu; simpa [Addr.add] using k0
              | 1, hu => simp [reqVals] at hu; subst hu; simpa [Addr.add] using k1
              | 2, hu => simp [reqVals] at hu; subst hu; simpa [Addr.add] using k2)
            refine wp_append_run _ _ _ rfl _ _ v' y (eval_at _ _) ((eval_at _ _).trans hg1) hrun ⟨v', rfl, hV', go _ hE ((R.low hrs hE.size hlow).more (by omega)), trivial, hE⟩
          | 15 =>
            simp at hi
            subst hi
            have h1' : a.tmps[99]?.getD undef = .slice (some ⟨g, 0, none⟩) n1 c1 := by
              have h := hd ⟨1, .data⟩ (by simp) rfl
              rw [valOf_at (d := 99) rfl] at h
              exact h
            have h2' : a.tmps[100]?.getD undef = .int .i64 (k : Nat) := by
              have h := hd ⟨2, .data⟩ (by simp) rfl
              rw [valOf_at (d := 100) rfl] at h
              exact h
            go_simp
            exact ⟨_, rfl, rfl, stay, up⟩
          | 16 =>
            simp at hi
            subst hi
            have h15' : a.tmps[113]?.getD undef = .pointer (some ⟨g, k * 6, none⟩) := by
              have h := hd ⟨15, .data⟩ (by simp) rfl
              rw [valOf_at (d := 113) rfl] at h
              exact h
            go_simp
            exact ⟨_, rfl, rfl, stay, up⟩
          | 17 =>
            simp at hi
            subst hi
            have h16' : a.tmps[114]?.getD undef = .pointer (some ⟨g, k * 6 + 4, none⟩) := by
              have h := hd ⟨16, .data⟩ (by simp) rfl
              rw [valOf_at (d := 114) rfl] at h
              exact h
            have hv := hd ⟨14, .data⟩ (by simp) rfl
            rw [valOf_at (d := 112) rfl] at hv
            obtain ⟨sa, sn, sc, hsl, _⟩ := SlBy.slice (show V0 s x (50000 + n) _ from hv)
            rw [hsl] at hv
            obtain ⟨px, py, pz, u1, u2, u3, k0, k1, k2, k3, k4, k5, hP⟩ := V2.pack (unhide HC).val hkn
            obtain ⟨g2, C2, hg2, hsg, hC2, hCs, _, _, hok⟩ := SlBy.addr (unhide HC).val (by omega)
            simp at hg2
            subst hg2
            have fz := CellsOf.frozen ⟨C2, hC2⟩ (k * 6 + 4)
            have E : Ev B s (50000 + n) (50000 + n) x (x.setCell ⟨g, k * 6 + 4, none⟩ (.slice sa sn sc)) := Ev.packCell ⟨hsg, C2, hC2, hCs, hok⟩ ⟨fun e => absurd e (by omega), fun e => absurd e (by omega), fun e => absurd e (by omega), fun _ => hv⟩
            have RR := R.low (s := s) hrs E.size (setLow hsg x _)
            have HE := hide (E.more (show 50000 + n ≤ 50000 + (n + 1) by omega))
            have HSt := hide (go _ (unhide HE) (RR.more (by omega)))
            clear hP hC2 hok E RR
            clear hv
            go_simp
            exact ⟨trivial, unhide HSt, unhide HE⟩
          | i + 18 => simp at hi
        · intro a x ha hc hT ht
          clear hT
          have hl := ha.list
          simp [slotOf, List.range_succ] at hl
          rw [hl]
          clear hl
          rename_i J K1 hJ hK1
          exact hK1 _ _ (Met.intro (hJ _ _ ⟨_, _, _, _, _, _, _, _, _, _, _, _, _, _, _, _, _, _, _, _, _, _, _, _, _, _, _, _, _, _, _, _, _, _, _, _, _, _, _, _, _, _, _, _, _, _, _, _, _, _, _, _, _, _, _, _, _, _, _, _, _, _, _, _, _, _, _, _, _, _, _, _, _, _, _, _, _, _, _, _, _, _, _, _, _, _, _, _, _, _, _, _, _, _, _, _, _, _, _, _, _, _, _, _, _, _, _, _, _, _, _, _, _, _, _, _, _, _, _, _, _, _, _, _, _, _, _, _, _, _, _, _, _, _, _, _, _, _, _, _, _, _, _, _, _, _, _, _, _, _, _, ⟨_, _, _, _, hc.step ((Ev.refl _ _ _ _).more (by simp)) (hc.rd.more (by simp; omega))⟩, rfl⟩))
      · go_wp2_with fail
        go_loopw [6] (fun i wr => ∃ t : Nat, i = .int .i64 t ∧ t ≤ 6 ∧ Hid (SE B rb s w.heap.size (w.heap.size + 1) w N (.slice (some ⟨g, 0, none⟩) n1 c1) room (50000 + 20 * t) (m + 20 + 40 * t) wr)) (fun i _ => 6 - (intOf i).toNat)
        case atStart => exact ⟨0, rfl, by omega, (unhide HSk).step (Ev.refl _ _ _ _) ((unhide HSk).rd.more (by simp))⟩
        case round =>
          rename World => wr
          obtain ⟨t, rfl, ht6, HT⟩ := hrel
          go_wp2_with fail
          refine (pick_any B rb _ 3 _ (unhide HT).rd (by omega) (by omega) (by omega)).mono ?_
          rintro e w5 ⟨⟨r5, rfl, h50, h51⟩, R5, W5⟩
          clear HSk
          have HSk := hide ((unhide HT).step (m' := m + 21 + 40 * t) (Ev.of_wrote W5) (R5.more (by omega)))
          clear HT R5 W5
          have hw5 := wr64 (3 + r5) (by omega)
          by_cases htr : (t : Int) < 3 + r5
          · go_upto_block 4 with fail
            go_cut [] from 117 to 137 (fun wx => Hid (SE B rb s w.heap.size (w.heap.size + 1) w N (.slice (some ⟨g, 0, none⟩) n1 c1) room (50000 + 20 * t + 15) (m + 21 + 40 * t + 30) wx))
            case first =>
              go_wp2_with fail
              refine wp_region_levels (by kernel_rfl) (by kernel_rfl) (by kernel_rfl) (fun i => kd s (50000 + 20 * t) (kSel (ks25 w.heap.size rb g n1 c1 k) i)) (fun n x => SE B rb s w.heap.size (w.heap.size + 1) w N (.slice (some ⟨g, 0, none⟩) n1 c1) room (50000 + 20 * t + n) (m + 21 + 40 * t + 2 * n)  x) (fun _ _ => True) (fun n => Ev B s (50000 + 20 * t + n) (50000 + 20 * t + (n + 1))) (fun _ _ _ _ _ => trivial) trivial (fun _ _ _ _ _ h k => h.on k) ?_ ?_ ?_
              · exact (unhide HSk).step (Ev.of_below (Below.refl _ _).drew) ((unhide HSk).rd.drew.more (by simp; try omega))
              · intro i o hi a x n hn ha hc hT hd
                clear hT
                have go : ∀ (y : World), Ev B s (50000 + 20 * t + n) (50000 + 20 * t + (n + 1)) x y → Rd B y rb (m + 21 + 40 * t + 2 * n + 2) → SE B rb s w.heap.size (w.heap.size + 1) w N (.slice (some ⟨g, 0, none⟩) n1 c1) room (50000 + 20 * t + (n + 1)) (m + 21 + 40 * t + 2 * ((n + 1 : Nat) : Int))  y := fun y e1 e2 => hc.step e1 (e2.more (by simp; omega))
                have R := hc.rd
                have up : Hid (Ev B s (50000 + 20 * t + n) (50000 + 20 * t + (n + 1)) x x) := (Ev.refl _ _ _ _).more (by omega)
                have upa : ∀ o, Hid (Ev B s (50000 + 20 * t + n) (50000 + 20 * t + (n + 1)) x (x.alloc o)) := fun o => (Ev.of_below ((Below.refl _ _).alloc (Nat.le_refl _) _)).more (by omega)
                have stay := hide (go x up (R.more (by omega)))
                have hz : s ≤ x.heap.size := Nat.le_trans hs hc.ev.size
                have HC := hide hc
                clear hc
                simp at hn
                match i with
                | 0 =>
                  simp at hi
                  subst hi
                  have h3 : a.tmps[3]? = some (.pointer (some ⟨w.heap.size, 0, none⟩)) := (ha.slot 3 (slots_not (by kernel_rfl))).trans rfl
                  go_simp
                  exact ⟨_, rfl, rfl, stay, up⟩
                | 1 =>
                  simp at hi
                  subst hi
                  have h0' : a.tmps[124]?.getD undef = .pointer (some ⟨w.heap.size, 0, none⟩) := by
                    have h := hd ⟨0, .data⟩ (by simp) rfl
                    rw [valOf_at (d := 124) rfl] at h
                    exact h
                  obtain ⟨q0, q1, _⟩ := two (unhide HC).box
                  go_simp
                  exact ⟨_, rfl, rfl, stay, up⟩
                | 2 =>
                  simp at hi
                  subst hi
                  have h5 : a.tmps[5]? = some (.int .i64 (k : Nat)) := (ha.slot 5 (slots_not (by kernel_rfl))).trans rfl
                  go_simp
                  exact ⟨_, rfl, rfl, stay, up⟩
                | 3 =>
                  simp at hi
                  subst hi
                  have h3 : a.tmps[3]? = some (.pointer (some ⟨w.heap.size, 0, none⟩)) := (ha.slot 3 (slots_not (by kernel_rfl))).trans rfl
                  go_simp
                  exact ⟨_, rfl, rfl, stay, up⟩
                | 4 =>
                  simp at hi
                  subst hi
                  have h3' : a.tmps[127]?.getD undef = .pointer (some ⟨w.heap.size, 0, none⟩) := by
                    have h := hd ⟨3, .data⟩ (by simp) rfl
                    rw [valOf_at (d := 127) rfl] at h
                    exact h
                  obtain ⟨q0, q1, _⟩ := two (unhide HC).box
                  go_simp
                  exact ⟨_, rfl, rfl, stay, up⟩
                | 5 =>
                  simp at hi
                  subst hi
                  have h5 : a.tmps[5]? = some (.int .i64 (k : Nat)) := (ha.slot 5 (slots_not (by kernel_rfl))).trans rfl
                  go_simp
                  exact ⟨_, rfl, rfl, stay, up⟩
                | 6 =>
                  simp at hi
                  subst hi
                  have h4' : a.tmps[128]?.getD undef = .slice (some ⟨g, 0, none⟩) n1 c1 := by
                    have h := hd ⟨4, .data⟩ (by simp) rfl
                    rw [valOf_at (d := 128) rfl] at h
                    exact h
                  have h5' : a.tmps[129]?.getD undef = .int .i64 (k : Nat) := by
                    have h := hd ⟨5, .data⟩ (by simp) rfl
                    rw [valOf_at (d := 129) rfl] at h
                    exact h
                  go_simp
                  exact ⟨_, rfl, rfl, stay, up⟩
                | 7 =>
                  simp at hi
                  subst hi
                  have h6' : a.tmps[130]?.getD undef = .pointer (some ⟨g, k * 6, none⟩) := by
                    have h := hd ⟨6, .data⟩ (by simp) rfl
                    rw [valOf_at (d := 130) rfl] at h
                    exact h
                  go_simp
                  exact ⟨_, rfl, rfl, stay, up⟩
                | 8 =>
                  simp at hi
                  subst hi
                  have h7' : a.tmps[131]?.getD undef = .pointer (some ⟨g, k * 6 + 5, none⟩) := by
                    have h := hd ⟨7, .data⟩ (by simp) rfl
                    rw [valOf_at (d := 131) rfl] at h
                    exact h
                  obtain ⟨px, py, pz, u1, u2, u3, k0, k1, k2, k3, k4, k5, hP⟩ := V2.pack (unhide HC).val hkn
                  have HV := hide (hP.bans.ev up)
                  clear hP
                  go_simp
                  exact ⟨_, rfl, unhide HV, stay, up⟩
                | 9 =>
                  simp at hi
                  subst hi
                  go_simp
                  exact ⟨_, rfl, ⟨⟨⟨#[113]⟩, 0, 0⟩, rfl, one_le_max⟩, stay, up⟩
                | 10 =>
                  simp at hi
                  subst hi
                  have h9 := hd ⟨9, .data⟩ (by simp) rfl
                  rw [valOf_at (d := 133) rfl] at h9
                  obtain ⟨q, hq, hq'⟩ := h9
                  go_simp
                  exact ⟨_, rfl, ⟨_, rfl, G0.of hz (blk_alloc_new _ _) hq'⟩, go _ (upa _) ((R.alloc _).more (by omega)), upa _⟩
                | 11 =>
                  simp at hi
                  subst hi
                  have hv := hd ⟨8, .data⟩ (by simp) rfl
                  rw [valOf_at (d := 132) rfl] at hv
                  have h10 := hd ⟨10, .data⟩ (by simp) rfl
                  rw [valOf_at (d := 134) rfl] at h10
                  obtain ⟨g1, hg1, hG1⟩ := h10
                  obtain ⟨q, hq, hql⟩ := G0.one hG1
                  obtain ⟨k0, k1, k2, _⟩ := three hq
                  obtain ⟨v', y, hrun, hV', hE, hlow, _⟩ := append_V0 (B := B) x 64 _ hv hz (by omega) ⟨g1, 0, none⟩ 1 q hql (fun i u hu => by
                    match i, hu with
                    | 0, hu => simp [reqVals] at hu; subst hu; simpa [Addr.add] using k0
                    | 1, hu => simp [reqVals] at hu; subst hu; simpa [Addr.add] using k1
                    | 2, hu => simp [reqVals] at hu; subst hu; simpa [Addr.add] using k2)
                  refine wp_append_run _ _ _ rfl _ _ v' y (eval_at _ _) ((eval_at _ _).trans hg1) hrun ⟨v', rfl, hV', go _ hE ((R.low hrs hE.size hlow).more (by omega)), trivial, hE⟩
                | 12 =>
                  simp at hi
                  subst hi
                  have h1' : a.tmps[125]?.getD undef = .slice (some ⟨g, 0, none⟩) n1 c1 := by
                    have h := hd ⟨1, .data⟩ (by simp) rfl
                    rw [valOf_at (d := 125) rfl] at h
                    exact h
                  have h2' : a.tmps[126]?.getD undef = .int .i64 (k : Nat) := by
                    have h := hd ⟨2, .data⟩ (by simp) rfl
                    rw [valOf_at (d := 126) rfl] at h
                    exact h
                  go_simp
                  exact ⟨_, rfl, rfl, stay, up⟩
                | 13 =>
                  simp at hi
                  subst hi
                  have h12' : a.tmps[136]?.getD undef = .pointer (some ⟨g, k * 6, none⟩) := by
                    have h := hd ⟨12, .data⟩ (by simp) rfl
                    rw [valOf_at (d := 136) rfl] at h
                    exact h
                  go_simp
                  exact ⟨_, rfl, rfl, stay, up⟩
                | 14 =>
                  simp at hi
                  subst hi
                  have h13' : a.tmps[137]?.getD undef = .pointer (some ⟨g, k * 6 + 5, none⟩) := by
                    have h := hd ⟨13, .data⟩ (by simp) rfl
                    rw [valOf_at (d := 137) rfl] at h
                    exact h
                  have hv := hd ⟨11, .data⟩ (by simp) rfl
                  rw [valOf_at (d := 135) rfl] at hv
                  obtain ⟨sa, sn, sc, hsl, _⟩ := SlBy.slice (show V0 s x (50000 + 20 * t + n) _ from hv)
                  rw [hsl] at hv
                  obtain ⟨px, py, pz, u1, u2, u3, k0, k1, k2, k3, k4, k5, hP⟩ := V2.pack (unhide HC).val hkn
                  obtain ⟨g2, C2, hg2, hsg, hC2, hCs, _, _, hok⟩ := SlBy.addr (unhide HC).val (by omega)
                  simp at hg2
                  subst hg2
                  have fz := CellsOf.frozen ⟨C2, hC2⟩ (k * 6 + 5)
                  have E : Ev B s (50000 + 20 * t + n) (50000 + 20 * t + n) x (x.setCell ⟨g, k * 6 + 5, none⟩ (.slice sa sn sc)) := Ev.packCell ⟨hsg, C2, hC2, hCs, hok⟩ ⟨fun e => absurd e (by omega), fun e => absurd e (by omega), fun e => absurd e (by omega), fun _ => hv⟩
                  have RR := R.low (s := s) hrs E.size (setLow hsg x _)
                  have HE := hide (E.more (show 50000 + 20 * t + n ≤ 50000 + 20 * t + (n + 1) by omega))
                  have HSt := hide (go _ (unhide HE) (RR.more (by omega)))
                  clear hP hC2 hok E RR
                  clear hv
                  go_simp
                  exact ⟨trivial, unhide HSt, unhide HE⟩
                | i + 15 => simp at hi
              · intro a x ha hc hT ht
                clear hT
                have hl := ha.list
                simp [slotOf, List.range_succ] at hl
                rw [hl]
                clear hl
                rename_i J K1 hJ hK1
                exact hK1 _ _ (Met.intro (hJ _ _ ⟨_, _, _, _, _, _, _, _, _, _, _, _, _, _, _, _, _, _, _, _, _, hc.step (Ev.refl _ _ _ _) (hc.rd.more (by simp <;> omega)), rfl⟩))
            case rest =>
              rename World => w6
              have HS6 := hcut
              clear hcut
              go_wp2_with fail
              go_roundw
              case rel => exact ⟨t + 1, by go_num, by omega, (unhide HS6).step ((Ev.refl _ _ _ _).more (by omega)) ((unhide HS6).rd.more (by omega))⟩
              case measure => simp [intOf]; omega
          · go_wp2_with fail
            go_meet
            case rel => exact ⟨_, _, _, _, (unhide HSk).step ((Ev.refl _ _ _ _).more (by omega)) ((unhide HSk).rd.more (by omega))⟩
      · go_wp2_with fail
        refine (pick_any B rb _ 4 _ ((unhide HSk).rd.alloc _) (by omega) (by omega) (by omega)).mono ?_
        rintro e w4 ⟨⟨r, rfl, hr0, hr1⟩, R4, W4⟩
        obtain ⟨r, rfl⟩ : ∃ j : Nat, r = j := ⟨r.toNat, by omega⟩
        have S4 := ((unhide HSk).step (Ev.of_below ((Below.refl _ _).alloc (Nat.le_refl _) (.cells #[.int .i64 (-1), .int .i64 0, .int .i64 999, .int .i64 1000] 3))) ((unhide HSk).rd.alloc _)).step (Ev.of_wrote W4) R4
        have hblk := W4.blk (blk_alloc_new w3 (.cells #[.int .i64 (-1), .int .i64 0, .int .i64 999, .int .i64 1000] 3)) intNotRd
        obtain ⟨z, hzc⟩ := int4 hblk r (by omega)
        have hr2 : (r : Int) < 4 := by omega
        obtain ⟨b0, b1, bf⟩ := two S4.box
        have bf1 := bf 1
        have HS5 := hide (S4.putRoom z (Nat.le_refl _) (by omega) hpB hrl)
        clear S4 R4 W4 hblk bf
        go_wp2_with fail
        go_meet
        case rel => exact ⟨_, _, _, _, (unhide HS5).step ((Ev.refl _ _ _ _).more (by omega)) ((unhide HS5).rd.more (by omega))⟩
      · obtain ⟨n1, rfl⟩ : ∃ j, n1 = j + 1 := ⟨n1 - 1, by omega⟩
        go_wp2_with fail
        refine wp_region_levels (by kernel_rfl) (by kernel_rfl) (by kernel_rfl) (fun i => kd s 50000 (kSel (ks29 w.heap.size) i)) (fun n x => SX B rb s w.heap.size (w.heap.size + 1) w N (50000 + n) (m + 10 + 2 * n) x) (fun _ _ => True) (fun n => E29 s w.heap.size n) (fun _ _ _ _ _ => trivial) trivial (fun i k v x y h e => e i v h) ?_ ?_ ?_
        · exact ⟨g, n1, c1, room, (unhide HSk).step (Ev.of_below (Below.refl _ _).drew) ((unhide HSk).rd.drew.more (by simp; try omega))⟩
        · intro i o hi a x n hn ha hc hT hd
          clear hT
          have go : ∀ (y : World), Ev B s (50000 + n) (50000 + (n + 1)) x y → Rd B y rb (m + 10 + 2 * n + 2) → SX B rb s w.heap.size (w.heap.size + 1) w N (50000 + (n + 1)) (m + 10 + 2 * ((n + 1 : Nat) : Int)) y := fun y e1 e2 => by
            obtain ⟨g, n', c', room', hS⟩ := hc
            exact ⟨g, n', c', room', hS.step e1 (e2.more (by simp; omega))⟩
          have R : Rd B x rb (m + 10 + 2 * n) := by
            obtain ⟨g, n', c', room', hS⟩ := hc
            exact hS.rd
          have hz : s ≤ x.heap.size := by
            obtain ⟨g, n', c', room', hS⟩ := hc
            exact Nat.le_trans hs hS.ev.size
          have up : Hid (Ev B s (50000 + n) (50000 + (n + 1)) x x) := (Ev.refl _ _ _ _).more (by omega)
          have upa : ∀ o, Hid (Ev B s (50000 + n) (50000 + (n + 1)) x (x.alloc o)) := fun o => (Ev.of_below ((Below.refl _ _).alloc (Nat.le_refl _) _)).more (by omega)
          have stay := hide (go x up (R.more (by omega)))
          have upE := hide (E29.of (ob := w.heap.size) (unhide up))
          have upaE := fun o => hide (E29.of (ob := w.heap.size) (unhide (upa o)))
          have HC := hide hc
          clear hc
          simp at hn
          match i with
          | 0 =>
            simp at hi
            subst hi
            have h3 : a.tmps[3]? = some (.pointer (some ⟨w.heap.size, 0, none⟩)) := (ha.slot 3 (slots_not (by kernel_rfl))).trans rfl
            go_simp
            exact ⟨_, rfl, rfl, stay, upE⟩
          | 1 =>
            simp at hi
            subst hi
            have h1' : a.tmps[148]?.getD undef = .pointer (some ⟨w.heap.size, 0, none⟩) := by
              have h := hd ⟨0, .data⟩ (by simp) rfl
              rw [valOf_at (d := 148) rfl] at h
              exact h
            obtain ⟨g, n', c', room', hS⟩ := unhide HC
            obtain ⟨q0, q1, _⟩ := two hS.box
            have HV := hide (hS.val.ev up)
            clear hS
            go_simp
            exact ⟨_, rfl, ⟨unhide HV, _, _, _, rfl⟩, stay, upE⟩
          | 2 =>
            simp at hi
            subst hi
            have h3 : a.tmps[3]? = some (.pointer (some ⟨w.heap.size, 0, none⟩)) := (ha.slot 3 (slots_not (by kernel_rfl))).trans rfl
            go_simp
            exact ⟨_, rfl, rfl, stay, upE⟩
          | 3 =>
            simp at hi
            subst hi
            have h1' : a.tmps[150]?.getD undef = .pointer (some ⟨w.heap.size, 0, none⟩) := by
              have h := hd ⟨2, .data⟩ (by simp) rfl
              rw [valOf_at (d := 150) rfl] at h
              exact h
            obtain ⟨g, n', c', room', hS⟩ := unhide HC
            obtain ⟨q0, q1, _⟩ := two hS.box
            have HV := hide (hS.val.ev up)
            clear hS
            go_simp
            exact ⟨_, rfl, ⟨unhide HV, _, _, _, rfl⟩, stay, upE⟩
          | 4 =>
            simp at hi
            subst hi
            have h3 := hd ⟨3, .data⟩ (by simp) rfl
            rw [valOf_at (d := 151) rfl] at h3
            obtain ⟨hv, g, nn, cc, hg⟩ := h3
            rw [hg] at hv
            have HV := hide (V2.ev hv up)
            have hlt : (0 : Int) < ((nn + 1 : Nat) : Int) := by omega
            clear hv
            go_simp
            exact ⟨_, rfl, ⟨g, nn, cc, rfl, unhide HV⟩, stay, upE⟩
          | 5 =>
            simp at hi
            subst hi
            have h4 := hd ⟨4, .data⟩ (by simp) rfl
            rw [valOf_at (d := 152) rfl] at h4
            obtain ⟨g, nn, cc, hg, hv⟩ := h4
            obtain ⟨px, py, pz, u1, u2, u3, k0, k1, k2, k3, k4, k5, hP⟩ := V2.pack (i := 0) hv (by omega)
            simp only [Nat.zero_mul, Nat.zero_add] at k0 k1 k2 k3 k4 k5
            have HP := hide (hP.ev up)
            clear hP hv
            go_simp
            exact ⟨_, rfl, ⟨px, py, pz, u1, u2, u3, rfl, unhide HP⟩, stay, upE⟩
          | 6 =>
            simp at hi
            subst hi
            have h5 := hd ⟨5, .data⟩ (by simp) rfl
            rw [valOf_at (d := 153) rfl] at h5
            obtain ⟨px, py, pz, u1, u2, u3, hv, hP⟩ := h5
            obtain ⟨s1, m1, d1, rfl, _⟩ := SlBy.slice hP.deps
            obtain ⟨s2, m2, d2, rfl, _⟩ := SlBy.slice hP.pres
            obtain ⟨s3, m3, d3, rfl, _⟩ := SlBy.slice hP.bans
            have HP := hide (hP.ev (upa (.cells #[.string px, .int .i64 py, .int .i64 pz, .slice s1 m1 d1, .slice s2 m2 d2, .slice s3 m3 d3] 66 (0, 0))))
            clear hP
            go_simp
            exact ⟨_, rfl, ⟨_, rfl, G2.of hz (blk_alloc_new _ _) (unhide HP)⟩, go _ (upa _) ((R.alloc _).more (by omega)), upaE _⟩
          | 7 =>
            simp at hi
            subst hi
            have hv := hd ⟨1, .data⟩ (by simp) rfl
            rw [valOf_at (d := 149) rfl] at hv
            have h6 := hd ⟨6, .data⟩ (by simp) rfl
            rw [valOf_at (d := 154) rfl] at h6
            obtain ⟨g1, hg1, hG1⟩ := h6
            obtain ⟨hv, _⟩ := hv
            obtain ⟨px, py, pz, u1, u2, u3, hC, hP⟩ := hG1.six
            obtain ⟨k0, k1, k2, k3, k4, k5, _⟩ := six hC
            obtain ⟨v', y, hrun, hV', hE, hlow, _, _, hform⟩ := append_V2 (B := B) x 23 _ hv hz (by omega) ⟨g1, 0, none⟩ 1 px _ _ u1 u2 u3 hP (by
              intro u hu
              simp at hu
              rcases hu with rfl | rfl | rfl | rfl | rfl | rfl
              · rfl
              · rfl
              · rfl
              · exact SlBy.oneCell hP.deps
              · exact SlBy.oneCell hP.pres
              · exact SlBy.oneCell hP.bans) (fun i u hu => by
              match i, hu with
              | 0, hu => simp at hu; subst hu; simpa [Addr.add] using k0
              | 1, hu => simp at hu; subst hu; simpa [Addr.add] using k1
              | 2, hu => simp at hu; subst hu; simpa [Addr.add] using k2
              | 3, hu => simp at hu; subst hu; simpa [Addr.add] using k3
              | 4, hu => simp at hu; subst hu; simpa [Addr.add] using k4
              | 5, hu => simp at hu; subst hu; simpa [Addr.add] using k5)
            refine wp_append_run _ _ _ rfl _ _ v' y (eval_at _ _) ((eval_at _ _).trans hg1) hrun ⟨v', rfl, ⟨hV', hform⟩, go _ hE ((R.low hrs hE.size hlow).more (by omega)), trivial, E29.of hE⟩
          | 8 =>
            simp at hi
            subst hi
            have h3 : a.tmps[3]? = some (.pointer (some ⟨w.heap.size, 0, none⟩)) := (ha.slot 3 (slots_not (by kernel_rfl))).trans rfl
            go_simp
            exact ⟨_, rfl, rfl, stay, upE⟩
          | 9 =>
            simp at hi
            subst hi
            have h8' : a.tmps[156]?.getD undef = .pointer (some ⟨w.heap.size, 0, none⟩) := by
              have h := hd ⟨8, .data⟩ (by simp) rfl
              rw [valOf_at (d := 156) rfl] at h
              exact h
            have h7 := hd ⟨7, .data⟩ (by simp) rfl
            rw [valOf_at (d := 155) rfl] at h7
            obtain ⟨hv, g1, nn, cc, hg⟩ := h7
            rw [hg] at hv
            obtain ⟨g, n', c', room', hS⟩ := unhide HC
            obtain ⟨q0, q1, qf⟩ := two hS.box
            have qf0 := qf 0
            have HN := hide (show SX B rb s w.heap.size (w.heap.size + 1) w N (50000 + (n + 1)) (m + 10 + 2 * ((n + 1 : Nat) : Int)) (x.setCell ⟨w.heap.size, 0, none⟩ (.slice (some ⟨g1, 0, none⟩) (nn + 1) cc)) from ⟨g1, nn, cc, room', (hS.put hv (Nat.le_refl _) (by omega) hpB hrl).step ((Ev.refl _ _ _ _).more (by omega)) ((hS.put hv (Nat.le_refl _) (by omega) hpB hrl).rd.more (by simp; omega))⟩)
            have HEE := hide (E29.apart (s := s) (ob := w.heap.size) (rb := rb) (j := 0) (n := n) (u := .slice (some ⟨g1, 0, none⟩) (nn + 1) cc) ⟨_, hS.box⟩)
            clear hv hS qf
            go_simp
            exact ⟨trivial, unhide HN, unhide HEE⟩
          | i + 10 => simp at hi
        · intro a x ha hc hT ht
          clear hT
          obtain ⟨g', n', c', room', hS⟩ := hc
          have hl := ha.list
          simp [slotOf, List.range_succ] at hl
          rw [hl]
          clear hl
          rename_i J K1 hJ hK1
          exact hK1 _ _ (Met.intro (hJ _ _ ⟨_, _, _, _, _, _, _, _, _, _, _, _, _, _, _, _, _, _, _, _, _, _, _, _, _, _, _, _, _, _, _, _, _, _, _, _, _, _, _, _, _, _, _, _, _, _, _, _, _, _, _, _, _, _, _, _, _, _, _, _, _, _, _, _, _, _, _, _, _, _, _, _, _, _, _, _, _, _, _, _, _, _, _, _, _, _, _, _, _, _, _, _, _, _, _, _, _, _, _, _, _, _, _, _, _, _, _, _, _, _, _, _, _, _, _, _, _, _, _, _, _, _, _, _, _, _, _, _, _, _, _, _, _, _, _, _, _, _, _, _, _, _, _, _, _, _, _, _, _, _, _, ⟨_, _, _, _, hS.step ((Ev.refl _ _ _ _).more (by simp)) (hS.rd.more (by simp; omega))⟩, rfl⟩))
      · go_wp2_with fail
        go_loopw [7] (fun i wr => ∃ (t : Nat) (a : Option Addr) (n c : Nat), i = .int .i64 t ∧ t ≤ 8 ∧ Hid (SE B rb s w.heap.size (w.heap.size + 1) w N (.slice a n c) room (50000 + t) (m + 20 + 2 * t) wr)) (fun i _ => 8 - (intOf i).toNat)
        case atStart => exact ⟨0, _, _, _, rfl, by omega, (unhide HSk).step (Ev.refl _ _ _ _) ((unhide HSk).rd.more (by simp))⟩
        case round =>
          rename World => wr
          obtain ⟨t, ta, tn, tc, rfl, ht6, HT⟩ := hrel
          go_wp2_with fail
          refine (pick_any B rb _ 4 _ (unhide HT).rd (by omega) (by omega) (by omega)).mono ?_
          rintro e w5 ⟨⟨r5, rfl, h50, h51⟩, R5, W5⟩
          have HS5 := hide ((unhide HT).step (m' := m + 21 + 2 * t) (Ev.of_wrote W5) (R5.more (by omega)))
          clear HT R5 W5 HSk
          have hw5 := wr64 (4 + r5) (by omega)
          by_cases htr : (t : Int) < 4 + r5
          · obtain ⟨b0, b1, bf⟩ := two (unhide HS5).box
            have hw97 := wr64 (97 + (t : Int)) (by omega)
            have hu97 : IntKind.u8.wrap (97 + (t : Int)) = 97 + (t : Int) := by rw [IntKind.wrap_u8]; omega
            have hcv := conv_one (P := Tryz.prog) (w5.alloc (.cells #[.int .u8 (97 + (t : Int))] 5)) 22 9 5 w5.heap.size (97 + (t : Int)) Tryz.underlying22 Tryz.underlying5 Tryz.underlying9 (by simp) (by omega) (by omega)
            have hsz : (({ data := #[122] } : ByteArray) ++ { data := #[97 + UInt8.ofNat t] }).size ≤ maxLen := by
              rw [ByteArray.size_append]
              show 2 ≤ maxLen
              unfold maxLen
              omega
            have hz5 : w.heap.size ≤ w5.heap.size := (unhide HS5).ev.size
            have S6 := ((unhide HS5).step (Ev.of_below ((Below.refl _ _).alloc (Nat.le_refl _) (.cells #[.int .u8 (97 + (t : Int))] 5))) ((unhide HS5).rd.alloc _)).step (Ev.of_below ((Below.refl _ _).alloc (Nat.le_refl _) (.cells #[.string (({ data := #[122] } : ByteArray) ++ { data := #[97 + UInt8.ofNat t] }), .int .i64 0, .int .i64 3, .slice none 0 0, .slice none 0 0, .slice none 0 0] 66))) (((unhide HS5).rd.alloc _).alloc _)
            have hnew := blk_alloc_new (w5.alloc (.cells #[.int .u8 (97 + (t : Int))] 5)) (.cells #[.string (({ data := #[122] } : ByteArray) ++ { data := #[97 + UInt8.ofNat t] }), .int .i64 0, .int .i64 3, .slice none 0 0, .slice none 0 0, .slice none 0 0] 66)
            rw [show (w5.alloc (.cells #[.int .u8 (97 + (t : Int))] 5)).heap.size = w5.heap.size + 1 by simp] at hnew
            obtain ⟨k0, k1, k2, k3, k4, k5, _⟩ := six hnew
            obtain ⟨v', x7, run3, hv7, hE7, hlow, _⟩ := append_V2 (B := B) (s := s) (N := 50000 + t) _ 23 _ S6.val (by simp; omega) (by omega) ⟨w5.heap.size + 1, 0, none⟩ 1 _ (.int .i64 0) (.int .i64 3) (.slice none 0 0) (.slice none 0 0) (.slice none 0 0) ⟨hsz, ⟨_, rfl⟩, ⟨_, rfl⟩, Or.inl rfl, Or.inl rfl, Or.inl rfl⟩
              (by intro u hu; simp only [List.mem_cons, List.not_mem_nil, or_false] at hu; rcases hu with rfl | rfl | rfl | rfl | rfl | rfl <;> rfl)
              (fun i u hu => by
                match i, hu with
                | 0, hu => simp only [List.getElem?_cons_zero, Option.some.injEq] at hu; subst hu; simp [Addr.add]
                | 1, hu => simp at hu; subst hu; simp [Addr.add]
                | 2, hu => simp at hu; subst hu; simp [Addr.add]
                | 3, hu => simp at hu; subst hu; simp [Addr.add]
                | 4, hu => simp at hu; subst hu; simp [Addr.add]
                | 5, hu => simp at hu; subst hu; simp [Addr.add])
            have S7 := S6.step hE7 (S6.rd.low hrs hE7.size hlow)
            obtain ⟨av, nv, cv, rfl, _⟩ := SlBy.slice hv7
            obtain ⟨d0, d1, df⟩ := two S7.box
            have df0 := df 0
            have HS8 := hide (S7.put hv7 (Nat.le_refl _) (by omega) hpB hrl)
            have HR3 := hide run3
            clear S6 S7 hnew k0 k1 k2 k3 k4 k5 run3 hv7 hE7 hlow bf df d1
            go_wp2_with (at_builtin; refine wpList_append_run rfl _ _ 23 rfl _ _ _ _ rfl rfl (unhide HR3) ?_)
            go_roundw
            case rel => exact ⟨t + 1, _, _, _, by go_num, by omega, (unhide HS8).step (Ev.refl _ _ _ _) ((unhide HS8).rd.more (by omega))⟩
            case measure => simp [intOf]; omega
          · go_wp2_with fail
            go_meet
            case rel => exact ⟨_, _, _, _, (unhide HS5).step ((Ev.refl _ _ _ _).more (by omega)) ((unhide HS5).rd.more (by omega))⟩
    case rest =>
      obtain ⟨a', n', c', room', HS4⟩ := hcut
      rename World => w4
      obtain ⟨b0, b1, _⟩ := two (unhide HS4).box
      obtain ⟨e0, e1, ef⟩ := two (unhide HS4).res
      have ef0 := ef 0
      have ef1 := ef 1
      have HF := hide ((unhide HS4).fin (by omega) hpB hrl)
      clear ef
      go_wp2_with fail
      obtain ⟨f1, f2, f3, R0, R1⟩ := unhide HF
      exact bodyPost_ret (v := .agg #[.slice a' n' c', .int .i64 room']) (by simp [results, Tryz.results27, go_sem, R0, R1]) rfl ⟨⟨_, ⟨_, rfl⟩, f1⟩, f2, f3⟩
end Go.Proofs.YthkhaemlcmkkjasGreat
