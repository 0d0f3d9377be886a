/- The walk of the law FnExactSatFind: at every argument it answers true, and writes nothing that was there. -/
import Derived.Test.YtgolmagpdbmahatCnM
import Derived.Test.YtgolmagpdbmahatGCn
import Derived.Test.YtgolmagpdbmahatRowsN
import Derived.Test.YtgolmagpdbmahatBoolK
import Derived.Test.YtgolmagpdbmahatFSat
import Derived.Test.YtgolmagpdbmahatSuG
import Derived.Deep.RegionWith
namespace Go.Proofs.Ytgolmagpdbmahat
set_option linter.unusedVariables false
set_option linter.unusedSimpArgs false
open Go.RowKit Go.Deep

theorem row_apartF {B n sz : Nat} {w w' : World} {v u : Value} {e : TypeId} {xs : List Value} (h : w.ownsRow B e sz v n xs) (hg : w.grownBy w' u.ownBlock) (hne : ∀ j, v.ownBlock = some j → u.ownBlock = some j → False) : w'.ownsRow B e sz v n xs := by
  obtain ⟨h1, h2⟩ := h
  refine ⟨h1, h2.imp id ?_⟩
  rintro ⟨g, cap, cur, hv, hgB, hc, r⟩
  refine ⟨g, cap, cur, hv, hgB, (hg.block g (Array.getElem?_eq_some_iff.1 hc).1 (fun e => hne g (by rw [hv]; rfl) e.symm)).trans hc, r⟩
theorem row_markedF {B n g S : Nat} {w w' : World} {v : Value} {xs : List Value} {e : TypeId} {sz : Nat} (h : w.ownsRow B e sz v n xs) (hm : Marked g S w w') (hne : ∀ j, v.ownBlock = some j → j ≤ g ∨ S ≤ j) : w'.ownsRow B e sz v n xs := by
  obtain ⟨h1, h2⟩ := h
  refine ⟨h1, h2.imp id ?_⟩
  rintro ⟨q, cap, cur, hv, hq, hc, r⟩
  exact ⟨q, cap, cur, hv, hq, (hm.block q (Array.getElem?_eq_some_iff.1 hc).1 (hne q (by rw [hv]; rfl))).trans hc, r⟩
theorem lst_markedF {B g S : Nat} {w w' : World} {v : Value} {l : List (List Int)} {vs : List Value} (h : LstI B w v l vs) (hm : Marked g S w w') (hne : ∀ j, v.ownBlock = some j → j ≤ g ∨ S ≤ j) (hnr : ∀ i j, i < l.length → (vs.getD i undef).ownBlock = some j → j ≤ g ∨ S ≤ j) : LstI B w' v l vs :=
  ⟨h.len, row_markedF h.own hm hne, fun i hi => row_markedF (h.row i hi) hm (fun j hj => hnr i j hi hj), h.apart⟩
theorem own_keptF {w w' : World} {B sz n : Nat} {e : TypeId} {v : Value} {xs : List Value} (h : w.ownsRow B e sz v n xs) (hb : ∀ (g : Nat) (C : Array Value), w.heap[g]? = some (.cells C e (0, 0)) → w'.heap[g]? = w.heap[g]?) : w'.ownsRow B e sz v n xs := by
  refine ⟨h.1, h.2.imp id ?_⟩
  rintro ⟨g, cap, cur, hv, hB, hc, r⟩
  exact ⟨g, cap, cur, hv, hB, (hb g cur hc).trans hc, r⟩
/-- Rows of numbers stay where one of bools is written. -/
theorem lst_keptF {B B' n : Nat} {w w' : World} {v u : Value} {l : List (List Int)} {vs xs : List Value} (h : LstI B w v l vs) (ho : w.ownsRow B' 4 1 u n xs) (hg : w.grownBy w' u.ownBlock) : LstI B w' v l vs := by
  refine ⟨h.len, own_keptF h.own fun g C hC => ?_, fun i hi => own_keptF (h.row i hi) fun g C hC => ?_, h.apart⟩
  all_goals
    refine hg.block g (Array.getElem?_eq_some_iff.1 hC).1 (fun e => ?_)
    obtain ⟨c', f', e2⟩ := row_kind ho g e.symm
    rw [hC] at e2
    simp at e2
theorem LstI.ltsF {B : Nat} {w : World} {v : Value} {lss : List (List Int)} {vs : List Value} (h : LstI B w v lss vs) : (∀ j, v.ownBlock = some j → B ≤ j ∧ j < w.heap.size) ∧ ∀ i j, i < lss.length → (vs.getD i undef).ownBlock = some j → B ≤ j ∧ j < w.heap.size :=
  ⟨fun j hj => World.ownsRow.lt h.own j hj, fun i j hi hj => World.ownsRow.lt (h.row i hi) j hj⟩
theorem bools_at {B : Nat} {w : World} {a : Option Addr} {m : List Bool} {c : Nat} (h : w.ownsRow B 4 1 (.slice a m.length c) m.length (bV m)) (hl : m.length ≤ 1048576) : BoolsAt w a m := by
  obtain ⟨a', c', e, hs⟩ := bools_of h hl
  simp at e
  obtain ⟨rfl, _⟩ := e
  exact hs

theorem row_up {B n : Nat} {w : World} {a : Option Addr} {c : Nat} (h : w.ownsRow B 4 1 (.slice a n c) n (bV (upsB 1 n))) (hl : n ≤ 1048576) : BoolsAt w a (upsB 1 n) := by
  have hlen := upsB_length 1 n
  generalize upsB 1 n = u at h hlen
  subst hlen
  exact bools_at h hl

set_option maxRecDepth 10000 in
set_option maxHeartbeats 8000000 in
theorem exactfind_law (vars : Int) (a : Option Addr) (l : List (List Int)) (cap : Nat) (most : Int) (w : World) (h : ClsRaw w a l) :
    Calls Try.prog 3 #[.agg #[.int .i64 vars, .slice a l.length cap], .int .i64 most] w fun e w' => e = .returned (.bool true) ∧ Below w.heap.size w w' := by
  have HV := hide h
  clear h
  obtain ⟨kc, m, p, hr⟩ : ∃ kc m p, satZ vars l most = (kc, m, p) := ⟨_, _, _, rfl⟩
  obtain ⟨hml, hpl, hprr, _⟩ := sat_small hr
  have HPR := hide (show ∀ c ∈ p, c.length ≤ 1000 from fun c hc => Nat.le_trans (hprr c hc) (by omega))
  have HPG := hide (show ∀ i, i < p.length → (p.getD i []).length ≤ 1000 from fun i hi => unhide HPR _ (getD_mem hi))
  have HR := hide hr
  clear hr hprr
  go_enter Try.func3, Try.ntmps3
  go_wp2_with fail
  refine (szCnf_any vars a l cap 1048576 _ ((unhide HV).on ((Below.refl _ _).alloc (Nat.le_refl _) _)) (by omega) (by omega)).mono ?_
  rintro e w1 ⟨⟨r1, rfl, hr1⟩, hb⟩
  have x0 := hb.cell (p := ⟨w.heap.size, 0, none⟩) (by simp)
  have x1 := hb.cell (p := ⟨w.heap.size, 1, none⟩) (by simp)
  have hz := hb.size
  simp at x0 x1 hz
  have HB1 := hide (((Below.refl w.heap.size w).alloc (Nat.le_refl _) _).trans (hb.mono (by simp)))
  clear hb
  rcases hr1 with hr1 | ⟨hr10, hr11, hrs1⟩
  · go_wp2_with fail
    go_ret
    exact ⟨rfl, unhide HB1⟩
  have hn1 : ¬ r1 < 0 := by omega
  have HC := hide ((unhide HV).cls hrs1)
  clear HV hrs1
  go_wp2_with fail
  refine (toCnf_any vars a l cap _ ((unhide HC).on (unhide HB1))).mono ?_
  rintro e w2 ⟨g1, rfl, b2, hn⟩
  have HN2 := hide hn.cls
  clear hn
  have HB2 := hide ((unhide HB1).trans (b2.mono (unhide HB1).size))
  have hz2 := b2.size
  rw [← b2.cell (p := ⟨w.heap.size, _, none⟩) (by simp; omega)] at x0 x1
  clear HB1 b2
  have HCX := hide (specSatFind_any vars _ l l.length most w2 (unhide HN2))
  rw [unhide HR] at HCX
  go_wp2_with fail
  refine (unhide HCX).mono ?_
  rintro e w3 ⟨⟨mv0, pv0, vs0, rfl, hO, hP⟩, b3⟩
  simp only [] at hO hP
  obtain ⟨oa, oc, hmv, _⟩ := bools_of hO (by omega)
  subst hmv
  have HOlt := hide (fun j hj => (World.ownsRow.lt hO j hj).2)
  have HPlt := hide hP.ltsF
  have HO3 := hide hO
  have HP3 := hide hP
  clear hO hP HCX
  have HB3 := hide ((unhide HB2).trans (b3.mono (unhide HB2).size))
  have hz3 := b3.size
  rw [← b3.cell (p := ⟨w.heap.size, _, none⟩) (by simp; omega)] at x0 x1
  clear HB2 HN2 b3
  go_wp2_with fail
  refine (toCnf_any vars a l cap _ ((unhide HC).on (unhide HB3))).mono ?_
  rintro e w4 ⟨g2, rfl, b4, hn⟩
  have hg2l : w3.heap.size ≤ g2 := hn.2.1
  have hg2h : g2 < w4.heap.size := hn.2.2.1.lt
  have HGS := hide hg2h
  have HN4 := hide hn.cls
  have HM4 := hide hn.mark
  clear hn
  have HB4 := hide ((unhide HB3).trans (b4.mono (unhide HB3).size))
  have HO4 := hide (ownsRow_on (unhide HO3) b4)
  have HP4 := hide ((unhide HP3).on b4)
  have hz4 := b4.size
  rw [← b4.cell (p := ⟨w.heap.size, _, none⟩) (by simp; omega)] at x0 x1
  clear HB3 HO3 HP3 b4
  go_wp2_with fail
  obtain ⟨w5, hw5⟩ : ∃ w5, w5 = w4.alloc (.cells #[.int .i64 vars, .slice (some ⟨g2, 0, none⟩) l.length l.length] 29) := ⟨_, rfl⟩
  rw [← hw5]
  have b5 : Below w4.heap.size w4 w5 := by rw [hw5]; exact (Below.refl _ _).alloc (Nat.le_refl _) _
  have y0 : w5.cell? ⟨w4.heap.size, 0, none⟩ = some (.int .i64 vars) := by rw [hw5]; simp
  have y1 : w5.cell? ⟨w4.heap.size, 1, none⟩ = some (.slice (some ⟨g2, 0, none⟩) l.length l.length) := by rw [hw5]; simp
  have hlt5 : w4.heap.size < w5.heap.size := by rw [hw5]; simp
  clear hw5
  have HB5 := hide ((unhide HB4).trans (b5.mono (unhide HB4).size))
  have HO5 := hide (ownsRow_on (unhide HO4) b5)
  have HP5 := hide ((unhide HP4).on b5)
  have HN5 := hide ((unhide HN4).on b5)
  have HM5 := hide ((unhide HM4).stay (unhide HGS) b5.size (fun b _ _ hb => b5.block b hb))
  have hz5 := b5.size
  rw [← b5.cell (p := ⟨w.heap.size, _, none⟩) (by simp; omega)] at x0 x1
  clear HB4 HO4 HP4 HN4 HM4 b5
  have HCX := hide (implSatFind_any vars _ l l.length most w5 (unhide HN5))
  rw [unhide HR] at HCX
  refine (unhide HCX).mono ?_
  rintro e w6 ⟨⟨mv1, pv1, vs1, rfl, hG, hH⟩, b6⟩
  simp only [] at hG hH
  obtain ⟨ga, gc, hmv, _⟩ := bools_of hG (by omega)
  subst hmv
  have HG6 := hide hG
  have HH6 := hide hH
  clear hG hH HCX
  have HB6 := hide ((unhide HB5).trans (b6.mono (unhide HB5).size))
  have HO6 := hide (ownsRow_on (unhide HO5) b6)
  have HP6 := hide ((unhide HP5).on b6)
  have HN6 := hide ((unhide HN5).on b6)
  have HM6 := hide ((unhide HM5).stay (unhide HGS) b6.size (fun b _ _ hb => b6.block b hb))
  have hz6 := b6.size
  rw [← b6.cell (p := ⟨w.heap.size, _, none⟩) (by simp; omega)] at x0 x1
  rw [← b6.cell (p := ⟨w4.heap.size, _, none⟩) (by simp; omega)] at y0 y1
  clear HB5 HO5 HP5 HN5 HM5 b6
  go_wp2_with fail
  refine (eqBoolS_same ga oa m gc oc w6 (bools_at (unhide HG6) (by omega)) (bools_at (unhide HO6) (by omega))).mono ?_
  rintro e w7 ⟨rfl, b7⟩
  have HB7 := hide ((unhide HB6).trans (b7.mono (unhide HB6).size))
  have HO7 := hide (ownsRow_on (unhide HO6) b7)
  have HP7 := hide ((unhide HP6).on b7)
  have HN7 := hide ((unhide HN6).on b7)
  have HM7 := hide ((unhide HM6).stay (unhide HGS) b7.size (fun b _ _ hb => b7.block b hb))
  have HG7 := hide (ownsRow_on (unhide HG6) b7)
  have HH7 := hide ((unhide HH6).on b7)
  have hz7 := b7.size
  rw [← b7.cell (p := ⟨w.heap.size, _, none⟩) (by simp; omega)] at x0 x1
  rw [← b7.cell (p := ⟨w4.heap.size, _, none⟩) (by simp; omega)] at y0 y1
  clear HB6 HO6 HP6 HN6 HM6 HG6 HH6 b7
  go_wp2_with fail
  refine (eqIntSS_any _ _ pv1 pv0 p vs1 vs0 w7 (unhide HH7) (unhide HP7) (by omega) (unhide HPG)).mono ?_
  rintro e w8 ⟨rfl, b8⟩
  have HB8 := hide ((unhide HB7).trans (b8.mono (unhide HB7).size))
  have HO8 := hide (ownsRow_on (unhide HO7) b8)
  have HP8 := hide ((unhide HP7).on b8)
  have HN8 := hide ((unhide HN7).on b8)
  have HM8 := hide ((unhide HM7).stay (unhide HGS) b8.size (fun b _ _ hb => b8.block b hb))
  have HG8 := hide (ownsRow_on (unhide HG7) b8)
  have HH8 := hide ((unhide HH7).on b8)
  have hz8 := b8.size
  rw [← b8.cell (p := ⟨w.heap.size, _, none⟩) (by simp; omega)] at x0 x1
  rw [← b8.cell (p := ⟨w4.heap.size, _, none⟩) (by simp; omega)] at y0 y1
  clear HB7 HO7 HP7 HN7 HM7 HG7 HH7 b8
  have H6 := hide (fun W (hW : Below w8.heap.size w8 W) => toCnf_any vars a l cap W (((unhide HC).on (unhide HB8)).on hW))
  go_wp2_with fail
  go_region_with (first
    | (go_at_call 11; refine (unhide H6 _ ?_).mono ?_; exact (Below.refl _ _).drew; rintro e w8a ⟨g4, rfl, hb6, hn6⟩; have hb6' : Below w8.heap.size w8 w8a := (Below.refl w8.heap.size w8).drew.trans hb6; have q0 := (hb6'.cell (p := ⟨w4.heap.size, 0, none⟩) (by simp; omega)).trans y0; have q1 := (hb6'.cell (p := ⟨w4.heap.size, 1, none⟩) (by simp; omega)).trans y1; have HB6 := hide hb6'; have HN6 := hide hn6.cls; clear hb6 hb6' hn6)
    | (go_at_call 15; refine (eqCnf_same vars _ _ l _ _ _ ((unhide HN8).on (unhide HB6)) (unhide HN6)).mono ?_; rintro e w9 ⟨rfl, hb7⟩))
  all_goals
    have b9 : Below w8.heap.size w8 w9 := (unhide HB6).trans (hb7.mono (unhide HB6).size)
    clear HN6 HB6 hb7 H6 q0 q1
    have HB9 := hide ((unhide HB8).trans (b9.mono (unhide HB8).size))
    have HO9 := hide (ownsRow_on (unhide HO8) b9)
    have HP9 := hide ((unhide HP8).on b9)
    have HN9 := hide ((unhide HN8).on b9)
    have HM9 := hide ((unhide HM8).stay (unhide HGS) b9.size (fun b _ _ hb => b9.block b hb))
    have HG9 := hide (ownsRow_on (unhide HG8) b9)
    have HH9 := hide ((unhide HH8).on b9)
    have hz9 := b9.size
    rw [← b9.cell (p := ⟨w.heap.size, _, none⟩) (by simp; omega)] at x0 x1
    rw [← b9.cell (p := ⟨w4.heap.size, _, none⟩) (by simp; omega)] at y0 y1
    clear HB8 HO8 HP8 HN8 HM8 HG8 HH8 b9
    have HMC := hide (markCnf_any vars w4.heap.size g2 l w9 (unhide HM9) (unhide HGS))
    have hlc : l.length ≤ 1048576 := (unhide HM9).1
    go_wp2_with fail
    refine (unhide HMC).mono ?_
    rintro e w10 ⟨⟨z, rfl, hz0, hz1⟩, hm10⟩
    have hgs := unhide HGS
    have hm10B : Below w3.heap.size w9 w10 := ⟨hm10.os, hm10.tape, hm10.output, hm10.size, fun b hb => hm10.block b (by omega) (Or.inl (by omega))⟩
    have HB10 := hide ((unhide HB9).trans (hm10B.mono (by omega)))
    have HO10 := hide (row_markedF (unhide HO9) hm10 (fun j hj => Or.inl (by have := unhide HOlt j hj; omega)))
    have HP10 := hide (lst_markedF (unhide HP9) hm10 (fun j hj => Or.inl (by have := (unhide HPlt).1 j hj; omega)) (fun i j hi hj => Or.inl (by have := (unhide HPlt).2 i j hi hj; omega)))
    have HG10 := hide (row_markedF (unhide HG9) hm10 (fun j hj => Or.inr (by have := (World.ownsRow.lt (unhide HG9) j hj).1; omega)))
    have HH10 := hide (lst_markedF (unhide HH9) hm10 (fun j hj => Or.inr (by have := (unhide HH9).ltsF.1 j hj; omega)) (fun i j hi hj => Or.inr (by have := (unhide HH9).ltsF.2 i j hi hj; omega)))
    have hz10 := hm10.size
    rw [← World.cell?_of_block (w := w9) (w' := w10) (a := ⟨w.heap.size, _, none⟩) (hm10.block _ (by simp; omega) (Or.inl (by simp; omega)))] at x0 x1
    have hnz : ¬ z < 0 := by omega
    clear y0 y1 HB9 HO9 HP9 HN9 HM9 HG9 HH9 hm10 hm10B HMC hgs hz1
    go_wp2_with fail
    refine (eqBoolS_same ga oa m gc oc w10 (bools_at (unhide HG10) (by omega)) (bools_at (unhide HO10) (by omega))).mono ?_
    rintro e w11 ⟨rfl, b11⟩
    have HB11 := hide ((unhide HB10).trans (b11.mono (unhide HB10).size))
    have HO11 := hide (ownsRow_on (unhide HO10) b11)
    have HP11 := hide ((unhide HP10).on b11)
    have HG11 := hide (ownsRow_on (unhide HG10) b11)
    have HH11 := hide ((unhide HH10).on b11)
    have hz11 := b11.size
    rw [← b11.cell (p := ⟨w.heap.size, _, none⟩) (by simp; omega)] at x0 x1
    clear HB10 HO10 HP10 HG10 HH10 b11
    go_wp2_with fail
    refine (eqIntSS_any _ _ pv1 pv0 p vs1 vs0 w11 (unhide HH11) (unhide HP11) (by omega) (unhide HPG)).mono ?_
    rintro e w12 ⟨rfl, b12⟩
    have HB12 := hide ((unhide HB11).trans (b12.mono (unhide HB11).size))
    have HO12 := hide (ownsRow_on (unhide HO11) b12)
    have HP12 := hide ((unhide HP11).on b12)
    have HG12 := hide (ownsRow_on (unhide HG11) b12)
    have HH12 := hide ((unhide HH11).on b12)
    have hz12 := b12.size
    rw [← b12.cell (p := ⟨w.heap.size, _, none⟩) (by simp; omega)] at x0 x1
    clear HB11 HO11 HP11 HG11 HH11 b12
    have HMG := hide (markBoolS_k 1 _ _ m w12 (unhide HG12) (by omega) (by omega) (by omega))
    go_wp2_with fail
    refine (unhide HMG).mono ?_
    rintro e w13 ⟨rfl, hg13, hK⟩
    have hbG : Below w3.heap.size w12 w13 := ⟨hg13.os, hg13.tape, hg13.output, hg13.size, fun k hk => hg13.block k (by omega) (fun e => by have := (World.ownsRow.lt (unhide HG12) k e.symm).1; omega)⟩
    have HB13 := hide ((unhide HB12).trans (hbG.mono (by omega)))
    rw [← hbG.cell (p := ⟨w.heap.size, _, none⟩) (by simp; omega)] at x0 x1
    have HO13 := hide (row_apartF (unhide HO12) hg13 (fun j hj e => by
      have h1 := unhide HOlt j hj
      have h2 := (World.ownsRow.lt (unhide HG12) j e).1
      omega))
    have HP13 := hide (lst_keptF (unhide HP12) (unhide HG12) hg13)
    have HH13 := hide (lst_keptF (unhide HH12) (unhide HG12) hg13)
    have HR13 := hide hK
    have hz13 := hg13.size
    clear HB12 HO12 HP12 HG12 HH12 HMG hg13 hbG hK
    have HE1 := hide (fun W (hW : BoolsAt W ga (upsB 1 m.length)) => heldBoolS_k 1 ga m.length gc W hW (by omega) (by omega))
    have hpos1 : ¬ (1 + (m.length : Int) < 0) := by omega
    have HMI := hide (markIntSS_kept w5.heap.size pv1 p vs1 (1 + (m.length : Int)) w13 (unhide HH13) (by omega) (by omega) (unhide HPR) (by omega) (by omega))
    have hend := endK_bound (1 + (m.length : Int)) p (by omega) (unhide HPR)
    have HE2 := hide (fun W (hW : LstI w5.heap.size W pv1 (markL (1 + (m.length : Int)) p) vs1) => heldIntSS_any w5.heap.size pv1 p vs1 (1 + (m.length : Int)) W hW (by omega) (unhide HPR) (by omega) (by omega))
    generalize hek : endK (1 + (m.length : Int)) p = ek at hend HE2 HMI
    have hpos2 : ¬ (ek < 0) := by omega
    clear hend hek
    generalize hk1 : 1 + (m.length : Int) = k1 at hpos1 HMI HE1 HE2 ⊢
    clear hk1
    go_wp2_with fail
    refine (unhide HMI).mono ?_
    rintro e w14 ⟨rfl, b14, hS, hq⟩
    rw [← b14.cell (p := ⟨w.heap.size, _, none⟩) (by simp; omega)] at x0 x1
    have HB14 := hide ((unhide HB13).trans (b14.mono (by omega)))
    have HO14 := hide (own_keptF (unhide HO13) hq)
    have HR14 := hide (own_keptF (unhide HR13) hq)
    have HP14 := hide ((unhide HP13).far b14 (fun j hj => by have := (unhide HPlt).1 j hj; omega) (fun i j hi hj => by have := (unhide HPlt).2 i j hi hj; omega))
    have HS14 := hide hS
    have hz14 := b14.size
    clear HB13 HO13 HP13 HR13 HH13 HMI b14 hS hq
    go_wp2_with fail
    refine (unhide HE1 _ (row_up (unhide HR14) (by omega))).mono ?_
    rintro e w15 ⟨rfl, b15⟩
    have HB15 := hide ((unhide HB14).trans (b15.mono (unhide HB14).size))
    have HO15 := hide (ownsRow_on (unhide HO14) b15)
    have HP15 := hide ((unhide HP14).on b15)
    have HR15 := hide (ownsRow_on (unhide HR14) b15)
    have HS15 := hide ((unhide HS14).on b15)
    have hz15 := b15.size
    rw [← b15.cell (p := ⟨w.heap.size, _, none⟩) (by simp; omega)] at x0 x1
    clear HB14 HO14 HP14 HR14 HS14 b15
    go_wp2_with fail
    refine (unhide HE2 _ (unhide HS15)).mono ?_
    rintro e w16 ⟨rfl, b16⟩
    have HB16 := hide ((unhide HB15).trans (b16.mono (unhide HB15).size))
    have HO16 := hide (ownsRow_on (unhide HO15) b16)
    have HP16 := hide ((unhide HP15).on b16)
    have HR16 := hide (ownsRow_on (unhide HR15) b16)
    have HS16 := hide ((unhide HS15).on b16)
    have hz16 := b16.size
    rw [← b16.cell (p := ⟨w.heap.size, _, none⟩) (by simp; omega)] at x0 x1
    clear HB15 HO15 HP15 HR15 HS15 b16
    go_wp2_with fail
    refine (toCnf_any vars a l cap _ ((unhide HC).on (unhide HB16))).mono ?_
    rintro e w17 ⟨g7, rfl, b17, hn⟩
    have HN17 := hide hn.cls
    clear hn
    have HB17 := hide ((unhide HB16).trans (b17.mono (unhide HB16).size))
    have HO17 := hide (ownsRow_on (unhide HO16) b17)
    have HP17 := hide ((unhide HP16).on b17)
    have HR17 := hide (ownsRow_on (unhide HR16) b17)
    have HS17 := hide ((unhide HS16).on b17)
    have hz17 := b17.size
    rw [← b17.cell (p := ⟨w.heap.size, _, none⟩) (by simp; omega)] at x0 x1
    clear HB16 HO16 HP16 HR16 HS16 b17
    have HCX := hide (implSatFind_any vars _ l l.length most w17 (unhide HN17))
    rw [unhide HR] at HCX
    go_wp2_with fail
    refine (unhide HCX).mono ?_
    rintro e w18 ⟨⟨mv2, pv2, vs2, rfl, hG, hH⟩, b18⟩
    simp only [] at hG hH
    obtain ⟨ha2, hc2, hmv, _⟩ := bools_of hG (by omega)
    subst hmv
    have HG18 := hide hG
    have HH18 := hide hH
    clear hG hH HCX HN17
    have HB18 := hide ((unhide HB17).trans (b18.mono (unhide HB17).size))
    have HO18 := hide (ownsRow_on (unhide HO17) b18)
    have HP18 := hide ((unhide HP17).on b18)
    have HR18 := hide (ownsRow_on (unhide HR17) b18)
    have HS18 := hide ((unhide HS17).on b18)
    have hz18 := b18.size
    rw [← b18.cell (p := ⟨w.heap.size, _, none⟩) (by simp; omega)] at x0 x1
    clear HB17 HO17 HP17 HR17 HS17 b18
    go_wp2_with fail
    refine (eqBoolS_same ha2 oa m hc2 oc w18 (bools_at (unhide HG18) (by omega)) (bools_at (unhide HO18) (by omega))).mono ?_
    rintro e w19 ⟨rfl, b19⟩
    have HB19 := hide ((unhide HB18).trans (b19.mono (unhide HB18).size))
    have HO19 := hide (ownsRow_on (unhide HO18) b19)
    have HP19 := hide ((unhide HP18).on b19)
    have HR19 := hide (ownsRow_on (unhide HR18) b19)
    have HS19 := hide ((unhide HS18).on b19)
    have HH19 := hide ((unhide HH18).on b19)
    have hz19 := b19.size
    rw [← b19.cell (p := ⟨w.heap.size, _, none⟩) (by simp; omega)] at x0 x1
    clear HG18 HB18 HO18 HP18 HR18 HS18 HH18 b19
    go_wp2_with fail
    refine (eqIntSS_any _ _ pv2 pv0 p vs2 vs0 w19 (unhide HH19) (unhide HP19) (by omega) (unhide HPG)).mono ?_
    rintro e w20 ⟨rfl, b20⟩
    have HB20 := hide ((unhide HB19).trans (b20.mono (unhide HB19).size))
    have HO20 := hide (ownsRow_on (unhide HO19) b20)
    have HP20 := hide ((unhide HP19).on b20)
    have HR20 := hide (ownsRow_on (unhide HR19) b20)
    have HS20 := hide ((unhide HS19).on b20)
    have hz20 := b20.size
    rw [← b20.cell (p := ⟨w.heap.size, _, none⟩) (by simp; omega)] at x0 x1
    clear HH19 HB19 HO19 HP19 HR19 HS19 b20
    go_wp2_with fail
    refine (unhide HE1 _ (row_up (unhide HR20) (by omega))).mono ?_
    rintro e w21 ⟨rfl, b21⟩
    have HB21 := hide ((unhide HB20).trans (b21.mono (unhide HB20).size))
    have HO21 := hide (ownsRow_on (unhide HO20) b21)
    have HP21 := hide ((unhide HP20).on b21)
    have HR21 := hide (ownsRow_on (unhide HR20) b21)
    have HS21 := hide ((unhide HS20).on b21)
    have hz21 := b21.size
    rw [← b21.cell (p := ⟨w.heap.size, _, none⟩) (by simp; omega)] at x0 x1
    clear HB20 HO20 HP20 HR20 HS20 b21
    go_wp2_with fail
    refine (unhide HE2 _ (unhide HS21)).mono ?_
    rintro e w22 ⟨rfl, b22⟩
    have HB22 := hide ((unhide HB21).trans (b22.mono (unhide HB21).size))
    have HO22 := hide (ownsRow_on (unhide HO21) b22)
    have HP22 := hide ((unhide HP21).on b22)
    have HR22 := hide (ownsRow_on (unhide HR21) b22)
    have HS22 := hide ((unhide HS21).on b22)
    have hz22 := b22.size
    rw [← b22.cell (p := ⟨w.heap.size, _, none⟩) (by simp; omega)] at x0 x1
    clear HB21 HO21 HP21 HR21 HS21 b22
    go_wp2_with fail
    go_ret
    exact ⟨rfl, unhide HB22⟩
end Go.Proofs.Ytgolmagpdbmahat
