/- How much packs hold: within the law's own bound, or it says so. -/
import Derived.Test.YthkhaemlcmkkjaxGreatGTo
namespace Go.Proofs.YthkhaemlcmkkjaxGreat
set_option linter.unusedVariables false
set_option linter.unusedSimpArgs false
open Go.RowKit Go.Deep

/-- What a count says: too much, or so much is left and it is small. -/
def Left (left r : Int) (small : Prop) : Prop := r < 0 ∨ (0 ≤ r ∧ r ≤ left ∧ small)

set_option maxHeartbeats 400000 in
theorem szReq_any (q : ReqD) (left : Int) (w : World) (hs : q.name.size ≤ maxLen) (h0 : 0 ≤ left) (h1 : left ≤ 1048576) :
    Calls Tryz.prog 98 #[.agg #[.string q.name, .int .i64 q.low, .int .i64 q.high], .int .i64 left] w fun e w' => (∃ r : Int, e = .returned (.int .i64 r) ∧ Left left r True) ∧ Below w.heap.size w w' := by
  unfold maxLen at hs
  by_cases h : (q.name.size : Int) ≤ left
  · have hn : ¬ (left - q.name.size < 0) := by omega
    go_enter Tryz.func98, Tryz.ntmps98
    go_wp2
    go_ret
    exact ⟨⟨_, rfl, Or.inr ⟨by omega, by omega, trivial⟩⟩, (Below.refl _ _).alloc (Nat.le_refl _) _⟩
  · have hn : (left - q.name.size < 0) := by omega
    go_enter Tryz.func98, Tryz.ntmps98
    go_wp2
    go_ret
    exact ⟨⟨_, rfl, Or.inl (by decide)⟩, (Below.refl _ _).alloc (Nat.le_refl _) _⟩

theorem each_step {α : Type} {l : List α} {d q : α} {P : α → Prop} {k : Nat} (h : ∀ i, i < k → P (l.getD i d)) (hq : q = l.getD k d) (hp : P q) : ∀ i, i < k + 1 → P (l.getD i d) := by
  intro i hi
  by_cases e : i = k
  · subst e; rw [← hq]; exact hp
  · exact h i (by omega)

set_option maxHeartbeats 1000000 in
theorem szReqS_any (a : Option Addr) (l : List ReqD) (cap : Nat) (left : Int) (w : World) (h : ReqsAt (Old w) w a l) (h0 : 0 ≤ left) (h1 : left ≤ 1048576) :
    Calls Tryz.prog 76 #[.slice a l.length cap, .int .i64 left] w fun e w' => (∃ r : Int, e = .returned (.int .i64 r) ∧ Left left r (l.length ≤ 1048576 ∧ ∀ i, i < l.length → True)) ∧ Below w.heap.size w w' := by
  obtain ⟨hm, h⟩ := h
  unfold maxLen at hm
  by_cases hbig : (left : Int) < (l.length : Int)
  · have hn : left - (l.length : Int) < 0 := by omega
    go_enter Tryz.func76, Tryz.ntmps76
    go_wp2
    go_ret
    exact ⟨⟨_, rfl, Or.inl (by decide)⟩, Below.refl _ _⟩
  · have hn : ¬ (left - (l.length : Int) < 0) := by omega
    go_enter Tryz.func76, Tryz.ntmps76
    go_wp2
    go_loopw [1, 5] (fun z i wr => ∃ (k : Nat) (y : Int), k ≤ l.length ∧ i = .int .i64 k ∧ z = .int .i64 y ∧ 0 ≤ y ∧ y ≤ left ∧ Hid (∀ i, i < k → True) ∧ Below w.heap.size w wr) (fun _ i _ => l.length - (intOf i).toNat)
    case atStart => exact ⟨0, _, Nat.zero_le _, rfl, rfl, by omega, by omega, fun i hi => absurd hi (Nat.not_lt_zero _), Below.refl _ _⟩
    case round =>
      rename World => wo
      obtain ⟨k, y, hk, rfl, rfl, hy0, hy1, hl, hw⟩ := hrel
      by_cases hlt : k < l.length
      · rcases h with h | ⟨b, o, rfl, hSb, h⟩
        · subst h; simp at hlt
        · have hq := h k hlt
          clear h
          obtain ⟨q, hqe⟩ : ∃ q, q = l.getD k dReq := ⟨_, rfl⟩
          rw [← hqe] at hq
          have HQ := hide hqe
          clear hqe
          obtain ⟨c0, c1, c2, hn'⟩ := hq
          rw [← hw.cell (p := ⟨b, _, none⟩) hSb] at c0 c1 c2
          have HW := hide hw
          clear hw
          go_wp2_with fail
          refine (szReq_any q y _ hn' hy0 (by omega)).mono ?_
          rintro e w1 ⟨⟨r, rfl, hr⟩, hb⟩
          have HB := hide ((unhide HW).trans (hb.mono (unhide HW).size))
          clear hb
          rcases hr with hr | ⟨hr0, hr1, hrs⟩
          · go_wp2_with fail
            go_ret
            exact ⟨⟨_, rfl, Or.inl (by decide)⟩, unhide HB⟩
          · have hnn : ¬ r < 0 := by omega
            go_wp2_with fail
            go_roundw
            case rel => exact ⟨k + 1, r, by omega, by go_num, rfl, hr0, by omega, each_step (P := fun q : ReqD => True) hl.out (unhide HQ) hrs, unhide HB⟩
            case measure => simp [intOf]; omega
      · go_wp2_with fail
        go_ret
        refine ⟨⟨y, rfl, Or.inr ⟨hy0, hy1, ?_⟩⟩, hw⟩
        exact ⟨by omega, fun i hi => hl.out i (by omega)⟩

theorem szReqS_len (a : Option Addr) (l : List ReqD) (cap : Nat) (left : Int) (w : World) (h : ReqsAt (Old w) w a l) (h0 : 0 ≤ left) (h1 : left ≤ 1048576) :
    Calls Tryz.prog 76 #[.slice a l.length cap, .int .i64 left] w fun e w' => (∃ r : Int, e = .returned (.int .i64 r) ∧ Left left r (l.length ≤ 1048576)) ∧ Below w.heap.size w w' := by
  refine (szReqS_any a l cap left w h h0 h1).mono ?_
  rintro e w1 ⟨⟨r, he, hr⟩, hb⟩
  refine ⟨⟨r, he, ?_⟩, hb⟩
  rcases hr with hr | ⟨x0, x1, x2⟩
  · exact Or.inl hr
  · exact Or.inr ⟨x0, x1, x2.1⟩

set_option maxHeartbeats 1000000 in
theorem szReqSS_any (a : Option Addr) (l : List (List ReqD)) (cap : Nat) (left : Int) (w : World) (h : RowsAt (Old w) w a l) (h0 : 0 ≤ left) (h1 : left ≤ 1048576) :
    Calls Tryz.prog 75 #[.slice a l.length cap, .int .i64 left] w fun e w' => (∃ r : Int, e = .returned (.int .i64 r) ∧ Left left r (l.length ≤ 1048576 ∧ ∀ i, i < l.length → (l.getD i []).length ≤ 1048576)) ∧ Below w.heap.size w w' := by
  obtain ⟨hm, h⟩ := h
  unfold maxLen at hm
  by_cases hbig : (left : Int) < (l.length : Int)
  · have hn : left - (l.length : Int) < 0 := by omega
    go_enter Tryz.func75, Tryz.ntmps75
    go_wp2
    go_ret
    exact ⟨⟨_, rfl, Or.inl (by decide)⟩, Below.refl _ _⟩
  · have hn : ¬ (left - (l.length : Int) < 0) := by omega
    go_enter Tryz.func75, Tryz.ntmps75
    go_wp2
    go_loopw [1, 5] (fun z i wr => ∃ (k : Nat) (y : Int), k ≤ l.length ∧ i = .int .i64 k ∧ z = .int .i64 y ∧ 0 ≤ y ∧ y ≤ left ∧ Hid (∀ i, i < k → (l.getD i []).length ≤ 1048576) ∧ Below w.heap.size w wr) (fun _ i _ => l.length - (intOf i).toNat)
    case atStart => exact ⟨0, _, Nat.zero_le _, rfl, rfl, by omega, by omega, fun i hi => absurd hi (Nat.not_lt_zero _), Below.refl _ _⟩
    case round =>
      rename World => wo
      obtain ⟨k, y, hk, rfl, rfl, hy0, hy1, hl, hw⟩ := hrel
      by_cases hlt : k < l.length
      · rcases h with h | ⟨b, o, rfl, hSb, h⟩
        · subst h; simp at hlt
        · have hq := h k hlt
          clear h
          obtain ⟨q, hqe⟩ : ∃ q, q = l.getD k [] := ⟨_, rfl⟩
          rw [← hqe] at hq
          have HQ := hide hqe
          clear hqe
          obtain ⟨a', c', hc, hrow⟩ := hq
          rw [← hw.cell (p := ⟨b, _, none⟩) hSb] at hc
          have hrow' := hide (hrow.on hw)
          clear hrow
          have HW := hide hw
          clear hw
          go_wp2_with fail
          refine (szReqS_len a' q c' y _ (unhide hrow') hy0 (by omega)).mono ?_
          rintro e w1 ⟨⟨r, rfl, hr⟩, hb⟩
          have HB := hide ((unhide HW).trans (hb.mono (unhide HW).size))
          clear hb
          rcases hr with hr | ⟨hr0, hr1, hrs⟩
          · go_wp2_with fail
            go_ret
            exact ⟨⟨_, rfl, Or.inl (by decide)⟩, unhide HB⟩
          · have hnn : ¬ r < 0 := by omega
            go_wp2_with fail
            go_roundw
            case rel => exact ⟨k + 1, r, by omega, by go_num, rfl, hr0, by omega, each_step (P := fun q : (List ReqD) => (q).length ≤ 1048576) hl.out (unhide HQ) hrs, unhide HB⟩
            case measure => simp [intOf]; omega
      · go_wp2_with fail
        go_ret
        refine ⟨⟨y, rfl, Or.inr ⟨hy0, hy1, ?_⟩⟩, hw⟩
        exact ⟨by omega, fun i hi => hl.out i (by omega)⟩

set_option maxHeartbeats 2000000 in
theorem szPack_any (p : PackD) (a1 : Option Addr) (c1 : Nat) (a2 : Option Addr) (c2 : Nat) (a3 : Option Addr) (c3 : Nat) (left : Int) (w : World) (h : PackVal (Old w) w a1 a2 a3 p) (h0 : 0 ≤ left) (h1 : left ≤ 1048576) :
    Calls Tryz.prog 54 #[.agg #[.string p.name, .int .i64 p.ver, .int .i64 p.size, .slice a1 p.deps.length c1, .slice a2 p.pres.length c2, .slice a3 p.bans.length c3], .int .i64 left] w fun e w' => (∃ r : Int, e = .returned (.int .i64 r) ∧ Left left r (SmallPack p)) ∧ Below w.heap.size w w' := by
  have hs := h.len
  unfold maxLen at hs
  have HV := hide h
  clear h
  by_cases hbig : left < (p.name.size : Int)
  · have hn : left - (p.name.size : Int) < 0 := by omega
    go_enter Tryz.func54, Tryz.ntmps54
    go_wp2_with fail
    go_ret
    exact ⟨⟨_, rfl, Or.inl (by decide)⟩, (Below.refl _ _).alloc (Nat.le_refl _) _⟩
  have hn : ¬ (left - (p.name.size : Int) < 0) := by omega
  go_enter Tryz.func54, Tryz.ntmps54
  go_wp2_with fail
  refine (szReqSS_any a1 p.deps c1 _ _ ((unhide HV).deps.on ((Below.refl _ _).alloc (Nat.le_refl _) _)) (by omega) (by omega)).mono ?_
  rintro e w1 ⟨⟨r1, rfl, hr1⟩, hb⟩
  have x4 := hb.cell (p := ⟨w.heap.size, 4, none⟩) (by simp)
  have x5 := hb.cell (p := ⟨w.heap.size, 5, none⟩) (by simp)
  have hz := hb.size
  simp at x4 x5 hz
  have HB := hide (((Below.refl w.heap.size w).alloc (Nat.le_refl _) _).trans (hb.mono (by simp)))
  clear hb
  rcases hr1 with hr1 | ⟨hr10, hr11, hrs1⟩
  · go_wp2_with fail
    go_ret
    exact ⟨⟨_, rfl, Or.inl (by decide)⟩, unhide HB⟩
  have hn1 : ¬ r1 < 0 := by omega
  go_wp2_with fail
  refine (szReqS_any a2 p.pres c2 r1 _ ((unhide HV).pres.on (unhide HB)) (by omega) (by omega)).mono ?_
  rintro e w2 ⟨⟨r2, rfl, hr2⟩, hb⟩
  rw [← hb.cell (p := ⟨w.heap.size, _, none⟩) (by simp; omega)] at x5
  have hz2 := hb.size
  have hb2 := (unhide HB).trans (hb.mono (unhide HB).size)
  clear HB x4
  have HB := hide hb2
  clear hb hb2
  rcases hr2 with hr2 | ⟨hr20, hr21, hrs2⟩
  · go_wp2_with fail
    go_ret
    exact ⟨⟨_, rfl, Or.inl (by decide)⟩, unhide HB⟩
  have hn2 : ¬ r2 < 0 := by omega
  go_wp2_with fail
  refine (szReqS_any a3 p.bans c3 r2 _ ((unhide HV).bans.on (unhide HB)) (by omega) (by omega)).mono ?_
  rintro e w3 ⟨⟨r3, rfl, hr3⟩, hb⟩
  have hb2 := (unhide HB).trans (hb.mono (unhide HB).size)
  clear HB x5
  have HB := hide hb2
  clear hb hb2
  rcases hr3 with hr3 | ⟨hr30, hr31, hrs3⟩
  · go_wp2_with fail
    go_ret
    exact ⟨⟨_, rfl, Or.inl (by decide)⟩, unhide HB⟩
  have hn3 : ¬ r3 < 0 := by omega
  go_wp2_with fail
  go_ret
  exact ⟨⟨r3, rfl, Or.inr ⟨by omega, by omega, ⟨hrs1.1, hrs1.2, hrs2.1, hrs3.1⟩⟩⟩, unhide HB⟩

set_option maxHeartbeats 1000000 in
theorem szPackS_any (a : Option Addr) (l : List PackD) (cap : Nat) (left : Int) (w : World) (h : PacksAt (Old w) w a l) (h0 : 0 ≤ left) (h1 : left ≤ 1048576) :
    Calls Tryz.prog 31 #[.slice a l.length cap, .int .i64 left] w fun e w' => (∃ r : Int, e = .returned (.int .i64 r) ∧ Left left r (l.length ≤ 1048576 ∧ ∀ i, i < l.length → SmallPack (l.getD i dPack))) ∧ Below w.heap.size w w' := by
  obtain ⟨hm, h⟩ := h
  unfold maxLen at hm
  by_cases hbig : (left : Int) < (l.length : Int)
  · have hn : left - (l.length : Int) < 0 := by omega
    go_enter Tryz.func31, Tryz.ntmps31
    go_wp2
    go_ret
    exact ⟨⟨_, rfl, Or.inl (by decide)⟩, Below.refl _ _⟩
  · have hn : ¬ (left - (l.length : Int) < 0) := by omega
    go_enter Tryz.func31, Tryz.ntmps31
    go_wp2
    go_loopw [1, 5] (fun z i wr => ∃ (k : Nat) (y : Int), k ≤ l.length ∧ i = .int .i64 k ∧ z = .int .i64 y ∧ 0 ≤ y ∧ y ≤ left ∧ Hid (∀ i, i < k → SmallPack (l.getD i dPack)) ∧ Below w.heap.size w wr) (fun _ i _ => l.length - (intOf i).toNat)
    case atStart => exact ⟨0, _, Nat.zero_le _, rfl, rfl, by omega, by omega, fun i hi => absurd hi (Nat.not_lt_zero _), Below.refl _ _⟩
    case round =>
      rename World => wo
      obtain ⟨k, y, hk, rfl, rfl, hy0, hy1, hl, hw⟩ := hrel
      by_cases hlt : k < l.length
      · rcases h with h | ⟨b, o, rfl, hSb, h⟩
        · subst h; simp at hlt
        · have hq := h k hlt
          clear h
          obtain ⟨q, hqe⟩ : ∃ q, q = l.getD k dPack := ⟨_, rfl⟩
          rw [← hqe] at hq
          have HQ := hide hqe
          clear hqe
          obtain ⟨a1, c1, a2, c2, a3, c3, ⟨p0, p1, p2, p3, p4, p5⟩, hv⟩ := hq
          rw [← hw.cell (p := ⟨b, _, none⟩) hSb] at p0 p1 p2 p3 p4 p5
          have hv' := hide (hv.on hw)
          clear hv
          have HW := hide hw
          clear hw
          go_wp2_with fail
          refine (szPack_any q a1 c1 a2 c2 a3 c3 y _ (unhide hv') hy0 (by omega)).mono ?_
          rintro e w1 ⟨⟨r, rfl, hr⟩, hb⟩
          have HB := hide ((unhide HW).trans (hb.mono (unhide HW).size))
          clear hb
          rcases hr with hr | ⟨hr0, hr1, hrs⟩
          · go_wp2_with fail
            go_ret
            exact ⟨⟨_, rfl, Or.inl (by decide)⟩, unhide HB⟩
          · have hnn : ¬ r < 0 := by omega
            go_wp2_with fail
            go_roundw
            case rel => exact ⟨k + 1, r, by omega, by go_num, rfl, hr0, by omega, each_step (P := fun q : PackD => SmallPack (q)) hl.out (unhide HQ) hrs, unhide HB⟩
            case measure => simp [intOf]; omega
      · go_wp2_with fail
        go_ret
        refine ⟨⟨y, rfl, Or.inr ⟨hy0, hy1, ?_⟩⟩, hw⟩
        exact ⟨by omega, fun i hi => hl.out i (by omega)⟩

set_option maxHeartbeats 1000000 in
theorem szRepo_any (a : Option Addr) (l : List PackD) (cap : Nat) (room left : Int) (w : World) (h : PacksAt (Old w) w a l) (h0 : 0 ≤ left) (h1 : left ≤ 1048576) :
    Calls Tryz.prog 7 #[.agg #[.slice a l.length cap, .int .i64 room], .int .i64 left] w fun e w' => (∃ r : Int, e = .returned (.int .i64 r) ∧ Left left r (SmallPacks l)) ∧ Below w.heap.size w w' := by
  have HV := hide h
  clear h
  go_enter Tryz.func7, Tryz.ntmps7
  go_wp2_with fail
  refine (szPackS_any a l cap left _ ((unhide HV).on ((Below.refl _ _).alloc (Nat.le_refl _) _)) h0 h1).mono ?_
  rintro e w1 ⟨⟨r1, rfl, hr1⟩, hb⟩
  have HB := hide (((Below.refl w.heap.size w).alloc (Nat.le_refl _) _).trans (hb.mono (by simp)))
  clear hb
  rcases hr1 with hr1 | ⟨hr10, hr11, hrs1⟩
  · go_wp2_with fail
    go_ret
    exact ⟨⟨_, rfl, Or.inl (by decide)⟩, unhide HB⟩
  have hn1 : ¬ r1 < 0 := by omega
  go_wp2_with fail
  go_ret
  exact ⟨⟨r1, rfl, Or.inr ⟨by omega, by omega, ⟨hrs1.1, hrs1.2⟩⟩⟩, unhide HB⟩
end Go.Proofs.YthkhaemlcmkkjaxGreat
