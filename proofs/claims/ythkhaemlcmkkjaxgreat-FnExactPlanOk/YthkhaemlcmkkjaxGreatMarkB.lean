/- The law's own marks of requests, rows and packs. -/
import Derived.Test.YthkhaemlcmkkjaxGreatMark
namespace Go.Proofs.YthkhaemlcmkkjaxGreat
set_option linter.unusedVariables false
set_option linter.unusedSimpArgs false
open Go.RowKit Go.Deep

abbrev isReq : TypeId → Prop := fun t => t = 125
abbrev isAny : TypeId → Prop := fun t => t = 125 ∨ t = 68

/-- Requests that may be marked. -/
def MReqs (B : Nat) (w : World) (a : Option Addr) (n : Nat) : Prop := n = 0 ∨ ∃ b o m, a = some ⟨b, o, none⟩ ∧ B ≤ b ∧ Row w b 125 m ∧ o + n * 3 ≤ m
def MRows (B : Nat) (w : World) (a : Option Addr) (l : List (List ReqD)) : Prop :=
  l = [] ∨ ∃ b o, a = some ⟨b, o, none⟩ ∧ CellsOf w b 66 ∧ ∀ i, i < l.length → ∃ a' c, w.cell? ⟨b, o + i, none⟩ = some (.slice a' (l.getD i []).length c) ∧ MReqs B w a' (l.getD i []).length

theorem MReqs.on {B : Nat} {ts : TypeId → Prop} {w w' : World} {a : Option Addr} {n : Nat} (h : MReqs B w a n) (hw : Wrote B ts w w') : MReqs B w' a n :=
  h.imp id fun ⟨b, o, m, ha, hB, hr, hm⟩ => ⟨b, o, m, ha, hB, hw.shape _ _ _ hr, hm⟩
theorem MRows.on {B : Nat} {ts : TypeId → Prop} {w w' : World} {a : Option Addr} {l : List (List ReqD)} (h : MRows B w a l) (hw : Wrote B ts w w') (ht : ¬ ts 66) : MRows B w' a l := by
  rcases h with h | ⟨b, o, ha, hc, h⟩
  · exact Or.inl h
  · refine Or.inr ⟨b, o, ha, hw.cells hc, fun i hi => ?_⟩
    obtain ⟨a', c, h1, h2⟩ := h i hi
    exact ⟨a', c, (World.cell?_of_block (w := w) (a := ⟨b, o + i, none⟩) (hw.other hc ht)).trans h1, h2.on hw⟩

theorem cell_in {w : World} {b i : Nat} {t : TypeId} {C : Array Value} {v : Value} (hC : w.heap[b]? = some (.cells C t (0, 0))) (h : w.cell? ⟨b, i, none⟩ = some v) : i < C.size := by
  simp only [World.cell?, hC] at h
  exact (Array.getElem?_eq_some_iff.1 (by simpa using h)).1

theorem ReqsAt.marks {w w' : World} {a : Option Addr} {l : List ReqD} (h : ReqsAt (New w w') w' a l) : MReqs w.heap.size w' a l.length := by
  obtain ⟨_, h⟩ := h
  rcases h with h | ⟨b, o, ha, hS, h⟩
  · exact Or.inl (by rw [h]; rfl)
  · by_cases h0 : l.length = 0
    · exact Or.inl h0
    · obtain ⟨hB, C, hC⟩ := hS
      refine Or.inr ⟨b, o, C.size, ha, hB, ⟨C, hC, rfl⟩, ?_⟩
      have hq := (h (l.length - 1) (by omega)).high
      have := cell_in hC hq
      omega
theorem RowsAt.marks {w w' : World} {a : Option Addr} {l : List (List ReqD)} (h : RowsAt (New w w') w' a l) : MRows w.heap.size w' a l := by
  obtain ⟨_, h⟩ := h
  rcases h with h | ⟨b, o, ha, hS, h⟩
  · exact Or.inl h
  · refine Or.inr ⟨b, o, ha, hS.2, fun i hi => ?_⟩
    obtain ⟨a', c, h1, h2⟩ := h i hi
    exact ⟨a', c, h1, h2.marks⟩

set_option maxHeartbeats 1000000 in
theorem markReqS_any (B : Nat) (a : Option Addr) (n cap : Nat) (k : Int) (w : World) (h : MReqs B w a n) (hn : n ≤ 1048576) (h0 : 0 ≤ k) (h1 : k ≤ 4611686018420000000) :
    Calls Tryz.prog 68 #[.slice a n cap, .int .i64 k] w fun e w' => (∃ r : Int, e = .returned (.int .i64 r) ∧ k ≤ r ∧ r ≤ k + 3145728) ∧ Wrote B isReq w w' := by
  go_enter Tryz.func68, Tryz.ntmps68
  go_wp2
  go_loopw [1, 5] (fun z i wr => ∃ (j : Nat) (y : Int), j ≤ n ∧ i = .int .i64 j ∧ z = .int .i64 y ∧ k ≤ y ∧ y ≤ k + 3 * j ∧ Wrote B isReq w wr) (fun _ i _ => n - (intOf i).toNat)
  case atStart => exact ⟨0, k, Nat.zero_le _, rfl, rfl, by omega, by omega, Wrote.refl _ _ _⟩
  case round =>
    rename World => wo
    obtain ⟨j, y, hj, rfl, rfl, hy0, hy1, hw⟩ := hrel
    by_cases hlt : j < n
    · rcases h with h | ⟨b, o, m, rfl, hB, hr, hm⟩
      · omega
      · have HR := hide (hw.shape _ _ _ hr)
        have HW := hide hw
        clear hw hr
        go_wp2_with fail
        refine (markText_any y _ (by omega) (by omega)).mono ?_
        rintro e w1 ⟨⟨s, rfl⟩, hb⟩
        have hr1 : Row w1 b 125 m := (unhide HR).of_block (hb.block _ (unhide HR).lt)
        obtain ⟨v0, x0⟩ := hr1.cell (i := o + j * 3) (by omega)
        obtain ⟨v1, x1⟩ := hr1.cell (i := o + j * 3 + 1) (by omega)
        obtain ⟨v2, x2⟩ := hr1.cell (i := o + j * 3 + 2) (by omega)
        have f0 := hr1.frozen
        have HW1 := hide ((unhide HW).trans (Wrote.of_below hb))
        have HR1 := hide hr1
        clear hb hr1
        go_wp2_with fail
        go_roundw
        case rel =>
          refine ⟨j + 1, y + 1 + 1 + 1, by omega, by go_num, rfl, by omega, by omega, ?_⟩
          have c1 := (unhide HR1)
          exact (((unhide HW1).set hB c1.cells rfl _ _).set hB (c1.set _ _ _).cells rfl _ _).set hB ((c1.set _ _ _).set _ _ _).cells rfl _ _
        case measure => simp [intOf]; omega
    · go_wp2_with fail
      go_ret
      exact ⟨⟨y, rfl, by omega, by omega⟩, hw⟩

set_option maxHeartbeats 1000000 in
theorem markReqSS_any (B : Nat) (a : Option Addr) (l : List (List ReqD)) (cap : Nat) (k : Int) (w : World) (h : MRows B w a l) (hn : l.length ≤ 1048576) (hn' : ∀ i, i < l.length → (l.getD i []).length ≤ 1048576) (h0 : 0 ≤ k) (h1 : k ≤ 4611680000000000000) :
    Calls Tryz.prog 67 #[.slice a l.length cap, .int .i64 k] w fun e w' => (∃ r : Int, e = .returned (.int .i64 r) ∧ k ≤ r ∧ r ≤ k + 3298534883328) ∧ Wrote B isReq w w' := by
  have HS := hide hn'
  clear hn'
  go_enter Tryz.func67, Tryz.ntmps67
  go_wp2
  go_loopw [1, 5] (fun z i wr => ∃ (j : Nat) (y : Int), j ≤ l.length ∧ i = .int .i64 j ∧ z = .int .i64 y ∧ k ≤ y ∧ y ≤ k + 3145728 * j ∧ Wrote B isReq w wr) (fun _ i _ => l.length - (intOf i).toNat)
  case atStart => exact ⟨0, k, Nat.zero_le _, rfl, rfl, by omega, by omega, Wrote.refl _ _ _⟩
  case round =>
    rename World => wo
    obtain ⟨j, y, hj, rfl, rfl, hy0, hy1, hw⟩ := hrel
    by_cases hlt : j < l.length
    · have h' := h.on hw (by decide)
      rcases h' with h' | ⟨b, o, rfl, hc, h'⟩
      · rw [h'] at hlt; simp at hlt
      · obtain ⟨a', c', hcell, hm⟩ := h' j hlt
        have hs := unhide HS j hlt
        clear h'
        generalize l.getD j [] = r at hcell hm hs
        have HW := hide hw
        clear hw
        go_wp2_with fail
        refine (markReqS_any B a' r.length c' y _ hm hs (by omega) (by omega)).mono ?_
        rintro e w1 ⟨⟨r1, rfl, hr1, hr2⟩, hb⟩
        have HW1 := hide ((unhide HW).trans hb)
        clear hb
        go_wp2_with fail
        go_roundw
        case rel => exact ⟨j + 1, r1, by omega, by go_num, rfl, by omega, by omega, unhide HW1⟩
        case measure => simp [intOf]; omega
    · go_wp2_with fail
      go_ret
      exact ⟨⟨y, rfl, by omega, by omega⟩, hw⟩

/-- Packs that may be marked, in world w; their block's cells of lists are those of l. -/
structure MPack (B : Nat) (w : World) (b o : Nat) (p : PackD) : Prop where
  slices : ∃ a1 c1 a2 c2 a3 c3, w.cell? ⟨b, o + 3, none⟩ = some (.slice a1 p.deps.length c1) ∧ w.cell? ⟨b, o + 4, none⟩ = some (.slice a2 p.pres.length c2) ∧ w.cell? ⟨b, o + 5, none⟩ = some (.slice a3 p.bans.length c3) ∧
    MRows B w a1 p.deps ∧ MReqs B w a2 p.pres.length ∧ MReqs B w a3 p.bans.length

def MPacks (B : Nat) (w : World) (b o m : Nat) (l : List PackD) : Prop :=
  B ≤ b ∧ Row w b 68 m ∧ o + l.length * 6 ≤ m ∧ ∀ i, i < l.length → MPack B w b (o + i * 6) (l.getD i dPack)

theorem MPack.on {B : Nat} {w w' : World} {b o : Nat} {p : PackD} (h : MPack B w b o p) (hc : CellsOf w b 68) (hw : Wrote B isReq w w') : MPack B w' b o p := by
  obtain ⟨a1, c1, a2, c2, a3, c3, h3, h4, h5, m1, m2, m3⟩ := h.slices
  have e : ∀ k, w'.cell? ⟨b, k, none⟩ = w.cell? ⟨b, k, none⟩ := fun k => World.cell?_of_block (w := w) (a := ⟨b, k, none⟩) (hw.other hc (by decide))
  exact ⟨a1, c1, a2, c2, a3, c3, by rw [e]; exact h3, by rw [e]; exact h4, by rw [e]; exact h5, m1.on hw (by decide), m2.on hw, m3.on hw⟩

theorem MPacks.on {B : Nat} {w w' : World} {b o m : Nat} {l : List PackD} (h : MPacks B w b o m l) (hw : Wrote B isReq w w') : MPacks B w' b o m l :=
  ⟨h.1, hw.shape _ _ _ h.2.1, h.2.2.1, fun i hi => (h.2.2.2 i hi).on h.2.1.cells hw⟩

/-- A store into one of the three plain cells of a pack leaves the lists of all packs as they were. -/
theorem MPacks.set {B : Nat} {w : World} {b o m : Nat} {l : List PackD} (h : MPacks B w b o m l) (j d : Nat) (hd : d < 3) (v : Value) : MPacks B (w.setCell ⟨b, o + j * 6 + d, none⟩ v) b o m l := by
  have hw : Wrote B isAny w (w.setCell ⟨b, o + j * 6 + d, none⟩ v) := (Wrote.refl B isAny w).set h.1 h.2.1.cells (Or.inr rfl) _ v
  refine ⟨h.1, h.2.1.set _ _ _, h.2.2.1, fun i hi => ?_⟩
  obtain ⟨a1, c1, a2, c2, a3, c3, h3, h4, h5, m1, m2, m3⟩ := (h.2.2.2 i hi).slices
  have e : ∀ k, 3 ≤ k → k < 6 → (w.setCell ⟨b, o + j * 6 + d, none⟩ v).cell? ⟨b, o + i * 6 + k, none⟩ = w.cell? ⟨b, o + i * 6 + k, none⟩ := fun k hk hk' => World.cell?_setCell_other _ _ _ _ (by intro hh; have := congrArg Addr.off hh; simp only at this; omega)
  exact ⟨a1, c1, a2, c2, a3, c3, by rw [e 3 (by omega) (by omega)]; exact h3, by rw [e 4 (by omega) (by omega)]; exact h4, by rw [e 5 (by omega) (by omega)]; exact h5, m1.on hw (by decide), m2.on hw, m3.on hw⟩

theorem PacksAt.marks {w w' : World} {g : Nat} {l : List PackD} (h : PacksAt (New w w') w' (some ⟨g, 0, none⟩) l) (h0 : 0 < l.length) : ∃ m, MPacks w.heap.size w' g 0 m l := by
  obtain ⟨_, h⟩ := h
  rcases h with h | ⟨b, o, ha, hS, h⟩
  · rw [h] at h0; simp at h0
  · simp at ha
    obtain ⟨rfl, rfl⟩ := ha
    obtain ⟨hB, C, hC⟩ := hS
    refine ⟨C.size, hB, ⟨C, hC, rfl⟩, ?_, fun i hi => ?_⟩
    · obtain ⟨a1, c1, a2, c2, a3, c3, hp, _⟩ := h (l.length - 1) (by omega)
      have := cell_in hC hp.bans
      omega
    · obtain ⟨a1, c1, a2, c2, a3, c3, hp, hv⟩ := h i hi
      exact ⟨a1, c1, a2, c2, a3, c3, hp.deps, hp.pres, hp.bans, hv.deps.marks, hv.pres.marks, hv.bans.marks⟩

set_option maxHeartbeats 2000000 in
theorem markPackS_any (B b m : Nat) (l : List PackD) (cap : Nat) (k : Int) (w : World) (h : MPacks B w b 0 m l) (hn : SmallPacks l) (h0 : 0 ≤ k) (h1 : k ≤ 1000) :
    Calls Tryz.prog 44 #[.slice (some ⟨b, 0, none⟩) l.length cap, .int .i64 k] w fun e w' => (∃ r : Int, e = .returned (.int .i64 r) ∧ k ≤ r ∧ r ≤ 3458800000000000000) ∧ Wrote B isAny w w' := by
  have HS := hide hn
  have hll := hn.len
  have HM := hide h
  clear hn h
  go_enter Tryz.func44, Tryz.ntmps44
  go_wp2
  go_loopw [1, 5] (fun z i wr => ∃ (j : Nat) (y : Int), j ≤ l.length ∧ i = .int .i64 j ∧ z = .int .i64 y ∧ k ≤ y ∧ y ≤ k + 3298541174787 * j ∧ Wrote B isAny w wr ∧ MPacks B wr b 0 m l) (fun _ i _ => l.length - (intOf i).toNat)
  case atStart => exact ⟨0, k, Nat.zero_le _, rfl, rfl, by omega, by omega, Wrote.refl _ _ _, unhide HM⟩
  case round =>
    rename World => wo
    obtain ⟨j, y, hj, rfl, rfl, hy0, hy1, hw, hM⟩ := hrel
    by_cases hlt : j < l.length
    · have hsm := (unhide HS).each j hlt
      have HW := hide hw
      have HMo := hide hM
      clear hw hM
      go_wp2_with fail
      refine (markText_any y _ (by omega) (by omega)).mono ?_
      rintro e w1 ⟨⟨s, rfl⟩, hb⟩
      have hM1 := (unhide HMo).on (Wrote.of_below hb)
      have hmm := hM1.2.2.1
      obtain ⟨v0, x0⟩ := hM1.2.1.cell (i := j * 6) (by omega)
      obtain ⟨v1, x1⟩ := hM1.2.1.cell (i := j * 6 + 1) (by omega)
      obtain ⟨v2, x2⟩ := hM1.2.1.cell (i := j * 6 + 2) (by omega)
      have f0 := hM1.2.1.frozen
      obtain ⟨p, hpe⟩ : ∃ p, p = l.getD j dPack := ⟨_, rfl⟩
      have hMp := hM1.2.2.2 j hlt
      rw [← hpe] at hMp hsm
      have HP := hide hpe
      obtain ⟨a1, c1, a2, c2, a3, c3, x3, x4, x5, _, _, _⟩ := hMp.slices
      rw [Nat.zero_add] at x3 x4 x5
      have HW1 := hide ((unhide HW).trans (Wrote.of_below hb))
      have HM1 := hide hM1
      clear hb hM1 hMp hpe
      have hM3 : MPacks B (((w1.setCell ⟨b, j * 6, none⟩ (.string s)).setCell ⟨b, j * 6 + 1, none⟩ (.int .i64 (y + 1))).setCell ⟨b, j * 6 + 2, none⟩ (.int .i64 (y + 1 + 1))) b 0 m l := by
        have := (((unhide HM1).set j 0 (by omega) (.string s)).set j 1 (by omega) (.int .i64 (y + 1))).set j 2 (by omega) (.int .i64 (y + 1 + 1))
        simpa using this
      have hW3 : Wrote B isAny w (((w1.setCell ⟨b, j * 6, none⟩ (.string s)).setCell ⟨b, j * 6 + 1, none⟩ (.int .i64 (y + 1))).setCell ⟨b, j * 6 + 2, none⟩ (.int .i64 (y + 1 + 1))) :=
        (((unhide HW1).set (unhide HM1).1 (unhide HM1).2.1.cells (Or.inr rfl) _ _).set (unhide HM1).1 ((unhide HM1).2.1.set _ _ _).cells (Or.inr rfl) _ _).set (unhide HM1).1 (((unhide HM1).2.1.set _ _ _).set _ _ _).cells (Or.inr rfl) _ _
      have HM3 := hide hM3
      have HW3 := hide hW3
      clear hM3 hW3
      go_wp2_with fail
      have hd3 : MRows B (((w1.setCell ⟨b, j * 6, none⟩ (.string s)).setCell ⟨b, j * 6 + 1, none⟩ (.int .i64 (y + 1))).setCell ⟨b, j * 6 + 2, none⟩ (.int .i64 (y + 1 + 1))) a1 p.deps := by
        obtain ⟨u1, e1, u2, e2, u3, e3, z3, _, _, m1, _, _⟩ := ((unhide HM3).2.2.2 j hlt).slices
        rw [← unhide HP, Nat.zero_add] at z3
        have z3' : w1.cell? ⟨b, j * 6 + 3, none⟩ = some (.slice u1 p.deps.length e1) := by
          rw [← z3, World.cell?_setCell_other _ _ _ _ (by intro hh; have := congrArg Addr.off hh; simp only at this; omega), World.cell?_setCell_other _ _ _ _ (by intro hh; have := congrArg Addr.off hh; simp only at this; omega), World.cell?_setCell_other _ _ _ _ (by intro hh; have := congrArg Addr.off hh; simp only at this; omega)]
        rw [x3] at z3'
        simp at z3'
        rw [z3'.1, unhide HP]
        exact m1
      refine (markReqSS_any B a1 p.deps c1 (y + 1 + 1 + 1) _ hd3 hsm.deps hsm.rows (by omega) (by omega)).mono ?_
      rintro e w2 ⟨⟨r2, rfl, hr20, hr21⟩, hb⟩
      have hM4 := (unhide HM3).on hb
      have HW4 := hide ((unhide HW3).trans (hb.more (fun _ h => Or.inl h)))
      clear hb hd3 x0 x1 x2 x3 x4 x5 f0 HM1 HW1 HM3 HW3
      obtain ⟨u1, e1, u2, e2, u3, e3, _, x4, _, _, m2, _⟩ := (hM4.2.2.2 j hlt).slices
      rw [← unhide HP] at x4 m2
      rw [Nat.zero_add] at x4
      have HM4 := hide hM4
      clear hM4
      go_wp2_with fail
      refine (markReqS_any B u2 p.pres.length e2 r2 _ m2 hsm.pres (by omega) (by omega)).mono ?_
      rintro e w3 ⟨⟨r3, rfl, hr30, hr31⟩, hb⟩
      have hM5 := (unhide HM4).on hb
      have HW5 := hide ((unhide HW4).trans (hb.more (fun _ h => Or.inl h)))
      clear hb m2 x4 HM4 HW4
      obtain ⟨y1, f1, y2, f2, y3, f3, _, _, x5, _, _, m3⟩ := (hM5.2.2.2 j hlt).slices
      rw [← unhide HP] at x5 m3
      rw [Nat.zero_add] at x5
      have HM5 := hide hM5
      clear hM5
      go_wp2_with fail
      refine (markReqS_any B y3 p.bans.length f3 r3 _ m3 hsm.bans (by omega) (by omega)).mono ?_
      rintro e w4 ⟨⟨r4, rfl, hr40, hr41⟩, hb⟩
      have HM6 := hide ((unhide HM5).on hb)
      have HW6 := hide ((unhide HW5).trans (hb.more (fun _ h => Or.inl h)))
      clear hb m3 x5 HM5 HW5
      go_wp2_with fail
      go_roundw
      case rel => exact ⟨j + 1, r4, by omega, by go_num, rfl, by omega, by omega, unhide HW6, unhide HM6⟩
      case measure => simp [intOf]; omega
    · go_wp2_with fail
      go_ret
      exact ⟨⟨y, rfl, by omega, by omega⟩, hw⟩

set_option maxHeartbeats 1000000 in
theorem markNone_any (a : Option Addr) (cap : Nat) (k : Int) (w : World) :
    Calls Tryz.prog 44 #[.slice a 0 cap, .int .i64 k] w fun e w' => e = .returned (.int .i64 k) ∧ w' = w := by
  go_enter Tryz.func44, Tryz.ntmps44
  go_wp2
  refine wp_loop_rounds 1 ?_
  rw [rounds_succ]
  go_wp2
  go_ret
  exact ⟨rfl, rfl⟩

set_option maxHeartbeats 1000000 in
theorem markRepo_any (w0 w : World) (g : Nat) (l : List PackD) (cap : Nat) (room : Int) (h : PacksAt (New w0 w) w (some ⟨g, 0, none⟩) l) (hn : SmallPacks l) :
    Calls Tryz.prog 15 #[.agg #[.slice (some ⟨g, 0, none⟩) l.length cap, .int .i64 room], .int .i64 1] w fun e w' => (∃ r : Int, e = .returned (.int .i64 r) ∧ 1 ≤ r ∧ r ≤ 3458800000000000000) ∧ Wrote w0.heap.size isAny w w' := by
  rcases l with _ | ⟨p, l⟩
  · go_enter Tryz.func15, Tryz.ntmps15
    go_wp2_with fail
    refine (markNone_any _ cap 1 _).mono ?_
    rintro e w1 ⟨rfl, hww⟩
    obtain rfl := hww.symm
    go_wp2_with fail
    go_ret
    exact ⟨⟨1, rfl, by omega, by omega⟩, Wrote.of_below ((Below.refl _ _).alloc (Nat.le_refl _) _)⟩
  · generalize hl : p :: l = l' at h hn
    have h0 : 0 < l'.length := by rw [← hl]; simp
    obtain ⟨m, hM⟩ := h.marks h0
    have HM := hide hM
    have HN := hide hn
    clear h hM hn h0 hl
    go_enter Tryz.func15, Tryz.ntmps15
    go_wp2_with fail
    have e0 : Wrote w0.heap.size isAny w (w.alloc (.cells #[.slice (some ⟨g, 0, none⟩) l'.length cap, .int .i64 room] 33)) := Wrote.of_below ((Below.refl _ _).alloc (Nat.le_refl _) _)
    refine (markPackS_any w0.heap.size g m l' cap 1 _ ((unhide HM).on (Wrote.of_below ((Below.refl _ _).alloc (Nat.le_refl _) _))) (unhide HN) (by omega) (by omega)).mono ?_
    rintro e w1 ⟨⟨r, rfl, hr⟩, hb⟩
    have HB := hide (e0.trans hb)
    clear hb e0
    go_wp2_with fail
    go_ret
    exact ⟨⟨r, rfl, hr⟩, unhide HB⟩
end Go.Proofs.YthkhaemlcmkkjaxGreat
