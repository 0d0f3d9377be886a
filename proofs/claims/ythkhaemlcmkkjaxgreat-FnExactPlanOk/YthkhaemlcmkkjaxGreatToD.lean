/- Copies of packs: the room of their rows. -/
import Derived.Test.YthkhaemlcmkkjaxGreatGTo
import Derived.Test.YthkhaemlcmkkjaxGreatGSp
namespace Go.Proofs.YthkhaemlcmkkjaxGreat
set_option linter.unusedVariables false
set_option linter.unusedSimpArgs false
open Go.RowKit Go.Deep

/-- The room of the rows of the first packs. -/
def CapTo (w : World) (H : Nat) (l : List PackD) (k : Nat) : Prop := ∀ i, i < k → ∃ a2, w.cell? ⟨H, i * 6 + 4, none⟩ = some (.slice a2 (l.getD i dPack).pres.length (l.getD i dPack).pres.length)
theorem CapTo.on {w w' : World} {H k : Nat} {l : List PackD} (h : CapTo w H l k) (hH : H < w.heap.size) (hb : Below w.heap.size w w') : CapTo w' H l k := fun i hi => by
  obtain ⟨a2, h2⟩ := h i hi
  exact ⟨a2, (hb.cell (p := ⟨H, i * 6 + 4, none⟩) hH).trans h2⟩
theorem CapTo.step {w1 : World} {H n k : Nat} {t : TypeId} {l : List PackD} {q : PackD} {a1 : Option Addr} {c1 : Nat} {a2 : Option Addr} {a3 : Option Addr} {c3 : Nat} (hr : Row w1 H t n) (hk : k * 6 + 6 ≤ n) (hl : CapTo w1 H l k) (hq : q = l.getD k dPack) :
    CapTo (w1.setCells H (k * 6) [.string q.name, .int .i64 q.ver, .int .i64 q.size, .slice a1 q.deps.length c1, .slice a2 q.pres.length q.pres.length, .slice a3 q.bans.length c3]) H l (k + 1) := by
  intro i hi
  by_cases e : i = k
  · subst e
    rw [← hq]
    exact ⟨a2, World.rangeAt_setCells_same w1 H (i * 6) [.string q.name, .int .i64 q.ver, .int .i64 q.size, .slice a1 q.deps.length c1, .slice a2 q.pres.length q.pres.length, .slice a3 q.bans.length c3] (hr.there hk) 4 _ rfl⟩
  · obtain ⟨z2, h2⟩ := hl i (by omega)
    have hrg : w1.rangeAt H (i * 6 + 4) [.slice z2 (l.getD i dPack).pres.length (l.getD i dPack).pres.length] := fun j v hv => by
      match j, hv with
      | 0, hv => simp at hv; subst hv; exact h2
    exact ⟨z2, World.rangeAt_setCells_apart hrg H (k * 6) _ (Or.inr (Or.inl (by simp; omega))) 0 _ rfl⟩

set_option maxHeartbeats 1000000 in
theorem toPackS_caps (a : Option Addr) (l : List PackD) (cap : Nat) (w : World) (h : PacksAt (Old w) w a l) (hsm : SmallPacks l) :
    Calls Tryz.prog 39 #[.slice a l.length cap] w fun e w' => ∃ g : Nat, e = .returned (.slice (some ⟨g, 0, none⟩) l.length l.length) ∧ Below w.heap.size w w' ∧ PacksAt (New w w') w' (some ⟨g, 0, none⟩) l ∧ CapsAt w' (some ⟨g, 0, none⟩) l := by
  obtain ⟨hm, h⟩ := h
  unfold maxLen at hm
  have hsl := hsm.len
  have hmk := make_eq (P := Tryz.prog) 31 68 _ 6 104 Tryz.underlying31 Tryz.cellsPack l.length (by omega) (by omega)
  have HS := hide hsm
  clear hsm
  go_enter Tryz.func39, Tryz.ntmps39
  go_wp2
  go_loopw [4] (fun i wr => ∃ k : Nat, k ≤ l.length ∧ i = .int .i64 k ∧ Below w.heap.size w wr ∧ Row wr w.heap.size 68 (l.length * 6) ∧ Hid (∀ i, i < k → PackAt (Above w.heap.size wr) wr w.heap.size (i * 6) (l.getD i dPack)) ∧ Hid (CapTo wr w.heap.size l k)) (fun i _ => l.length - (intOf i).toNat)
  case atStart => exact ⟨0, Nat.zero_le _, rfl, (Below.refl _ _).alloc (Nat.le_refl _) _, row_made _ _ _ _, fun i hi => absurd hi (Nat.not_lt_zero _), fun i hi => absurd hi (Nat.not_lt_zero _)⟩
  case round =>
    rename World => wo
    obtain ⟨k, hk, rfl, hw, hrow, hl, HCP⟩ := hrel
    by_cases hlt : k < l.length
    · rcases h with h | ⟨b, o, rfl, hSb, h⟩
      · subst h; simp at hlt
      · have hq := h k hlt
        have hs' := (unhide HS).each k hlt
        clear h
        obtain ⟨q, hqe⟩ : ∃ q, q = l.getD k dPack := ⟨_, rfl⟩
        rw [← hqe] at hq hs'
        have HQ := hide hqe
        clear hqe
        obtain ⟨a1, c1, a2, c2, a3, c3, ⟨p0, p1, p2, p3, p4, p5⟩, hv⟩ := hq
        rw [← hw.cell (p := ⟨b, _, none⟩) hSb] at p0 p1 p2 p3 p4 p5
        have HC := hide (toPack_any q a1 c1 a2 c2 a3 c3 wo (hv.on hw) hs')
        have HW := hide hw
        have HR := hide hrow
        clear hw hrow hv hs'
        go_wp2_with fail
        refine (unhide HC).mono ?_
        rintro e w1 ⟨g1, g2, g3, rfl, hb, hnew⟩
        have hr1 : Row w1 w.heap.size 68 (l.length * 6) := (unhide HR).of_block (hb.block _ (unhide HR).lt)
        obtain ⟨y0, x0⟩ := hr1.cell (i := k * 6) (by omega)
        obtain ⟨y1, x1⟩ := hr1.cell (i := k * 6 + 1) (by omega)
        obtain ⟨y2, x2⟩ := hr1.cell (i := k * 6 + 2) (by omega)
        obtain ⟨y3, x3⟩ := hr1.cell (i := k * 6 + 3) (by omega)
        obtain ⟨y4, x4⟩ := hr1.cell (i := k * 6 + 4) (by omega)
        obtain ⟨y5, x5⟩ := hr1.cell (i := k * 6 + 5) (by omega)
        have f0 := hr1.frozen
        have HB := hide hb
        have HR1 := hide hr1
        have HN := hide hnew
        clear hb hr1 hnew
        go_wp2_with fail
        go_roundw
        case rel =>
          exact ⟨k + 1, by omega, by go_num, below_sets w.heap.size (Nat.le_refl _) [.string q.name, .int .i64 q.ver, .int .i64 q.size, .slice (some ⟨g1, 0, none⟩) q.deps.length q.deps.length, .slice (some ⟨g2, 0, none⟩) q.pres.length q.pres.length, .slice (some ⟨g3, 0, none⟩) q.bans.length q.bans.length] (k * 6) w w1 ((unhide HW).trans ((unhide HB).mono (unhide HW).size)),
            Row.sets _ [.string q.name, .int .i64 q.ver, .int .i64 q.size, .slice (some ⟨g1, 0, none⟩) q.deps.length q.deps.length, .slice (some ⟨g2, 0, none⟩) q.pres.length q.pres.length, .slice (some ⟨g3, 0, none⟩) q.bans.length q.bans.length] (k * 6) w1 (unhide HR1),
            packs_step (unhide HR1) (by omega) (fun i hi => (hl.out i hi).on (unhide HR).lt (unhide HB)) (unhide HQ) ((unhide HN).wider (fun _ b hb => hb.above (unhide HR).lt)),
            CapTo.step (unhide HR1) (by omega) ((unhide HCP).on (unhide HR).lt (unhide HB)) (unhide HQ)⟩
        case measure => simp [intOf]; omega
    · go_wp2_with fail
      go_ret
      refine ⟨w.heap.size, rfl, hw, ⟨hm, Or.inr ⟨w.heap.size, 0, rfl, ⟨Nat.le_refl _, hrow.cells⟩, fun i hi => ?_⟩⟩, fun b' o' ha i hi => ?_⟩
      · rw [Nat.zero_add]
        exact (hl.out i (by omega)).wider (fun _ b hb => hb.new)
      · simp at ha
        obtain ⟨rfl, rfl⟩ := ha
        obtain ⟨a2, h2⟩ := unhide HCP i (by omega)
        exact ⟨hrow.lt, a2, _, by rw [Nat.zero_add]; exact h2, Nat.le_refl _, by have := ((unhide HS).each i hi).pres; unfold maxLen; omega⟩

set_option maxHeartbeats 1000000 in
theorem toRepo_caps (a : Option Addr) (l : List PackD) (cap : Nat) (room : Int) (w : World) (h : PacksAt (Old w) w a l) (hsm : SmallPacks l) :
    Calls Tryz.prog 9 #[.agg #[.slice a l.length cap, .int .i64 room]] w fun e w' => ∃ g : Nat, e = .returned (.agg #[.slice (some ⟨g, 0, none⟩) l.length l.length, .int .i64 room]) ∧ Below w.heap.size w w' ∧ PacksAt (New w w') w' (some ⟨g, 0, none⟩) l ∧ CapsAt w' (some ⟨g, 0, none⟩) l := by
  have HV := hide h
  clear h
  go_enter Tryz.func9, Tryz.ntmps9
  go_wp2_with fail
  have e0 : Below w.heap.size w (((w.alloc (.cells #[.slice a l.length cap, .int .i64 room] 24 (0, 0))).alloc (.cells #[.slice none 0 0, .int .i64 0] 33 (0, 0))).alloc (.cells #[.slice none 0 0, .int .i64 0] 33 (0, 0))) :=
    (((Below.refl _ _).alloc (Nat.le_refl _) _).alloc (by simp) _).alloc (by simp; omega) _
  refine (toPackS_caps a l cap _ ((unhide HV).on e0) hsm).mono ?_
  rintro e w1 ⟨g, rfl, hb, hn, hcp⟩
  have bA : w1.heap[w.heap.size]? = some (.cells #[.slice a l.length cap, .int .i64 room] 24 (0, 0)) := (hb.block _ (by simp; omega)).trans (three_alloc _ _ _ _).1
  have bR : w1.heap[w.heap.size + 1]? = some (.cells #[.slice none 0 0, .int .i64 0] 33 (0, 0)) := (hb.block _ (by simp)).trans (three_alloc _ _ _ _).2.1
  have bO : w1.heap[w.heap.size + 1 + 1]? = some (.cells #[.slice none 0 0, .int .i64 0] 33 (0, 0)) := (hb.block _ (by simp)).trans (three_alloc _ _ _ _).2.2
  have hz := hb.size
  simp at hz
  have hb1 := e0.trans (hb.mono (by simp; omega))
  have HB := hide hb1
  have HN := hide (hn.wider (T := Above (w.heap.size + 1 + 1) w1) (fun _ b hb' => ⟨by have := hb'.1; simp at this; omega, hb'.2⟩))
  have HCP := hide hcp
  clear hb hb1 e0 hn hcp
  obtain ⟨A0, A1, fA⟩ := two bA
  obtain ⟨O0, O1, fO⟩ := two bO
  obtain ⟨R0, R1, fR⟩ := two bR
  clear bA bR bO
  go_wp2_with fail
  refine bodyPost_ret (v := .agg #[.slice (some ⟨g, 0, none⟩) l.length l.length, .int .i64 room]) (by simp [results, Tryz.results9, go_sem, R0, R1]) rfl ⟨g, rfl, ?_, ?_, ?_⟩
  · exact below_sets (w.heap.size + 1) (by omega) [.slice (some ⟨g, 0, none⟩) l.length l.length, .int .i64 room] 0 w _ (below_sets (w.heap.size + 1 + 1) (by omega) [.slice (some ⟨g, 0, none⟩) l.length l.length, .int .i64 room] 0 w _ (unhide HB))
  · show PacksAt (New w ((w1.setCells (w.heap.size + 1 + 1) 0 [.slice (some ⟨g, 0, none⟩) l.length l.length, .int .i64 room]).setCells (w.heap.size + 1) 0 [.slice (some ⟨g, 0, none⟩) l.length l.length, .int .i64 room])) ((w1.setCells (w.heap.size + 1 + 1) 0 [.slice (some ⟨g, 0, none⟩) l.length l.length, .int .i64 room]).setCells (w.heap.size + 1) 0 [.slice (some ⟨g, 0, none⟩) l.length l.length, .int .i64 room]) _ l
    have hbl : ∀ k b, Above (w.heap.size + 1 + 1) w1 k b → ((w1.setCells (w.heap.size + 1 + 1) 0 [.slice (some ⟨g, 0, none⟩) l.length l.length, .int .i64 room]).setCells (w.heap.size + 1) 0 [.slice (some ⟨g, 0, none⟩) l.length l.length, .int .i64 room]).heap[b]? = w1.heap[b]? := fun _ b hb => (blk_sets _ _ _ _ _ (by have := hb.1; omega)).trans (blk_sets _ _ _ _ _ (by have := hb.1; omega))
    have hsz : ((w1.setCells (w.heap.size + 1 + 1) 0 [.slice (some ⟨g, 0, none⟩) l.length l.length, .int .i64 room]).setCells (w.heap.size + 1) 0 [.slice (some ⟨g, 0, none⟩) l.length l.length, .int .i64 room]).heap.size = w1.heap.size := (size_sets _ _ _ _).trans (size_sets _ _ _ _)
    exact ((unhide HN).stay hbl).wider (fun k b hb => ⟨by have := hb.1; omega, hb.2.of_block (hbl k b hb)⟩)
  · show CapsAt ((w1.setCells (w.heap.size + 1 + 1) 0 [.slice (some ⟨g, 0, none⟩) l.length l.length, .int .i64 room]).setCells (w.heap.size + 1) 0 [.slice (some ⟨g, 0, none⟩) l.length l.length, .int .i64 room]) _ l
    intro b' o' ha i hi
    simp at ha
    obtain ⟨rfl, rfl⟩ := ha
    rcases (unhide HN).2 with hnil | ⟨b2, o2, e2, hS, _⟩
    · rw [hnil] at hi; simp at hi
    simp at e2
    obtain ⟨rfl, rfl⟩ := e2
    have hbl : ((w1.setCells (w.heap.size + 1 + 1) 0 [.slice (some ⟨g, 0, none⟩) l.length l.length, .int .i64 room]).setCells (w.heap.size + 1) 0 [.slice (some ⟨g, 0, none⟩) l.length l.length, .int .i64 room]).heap[g]? = w1.heap[g]? := (blk_sets _ _ _ _ _ (by have := hS.1; omega)).trans (blk_sets _ _ _ _ _ (by have := hS.1; omega))
    obtain ⟨h1, a2, c2, h2, h3⟩ := unhide HCP g 0 rfl i hi
    refine ⟨by rw [show ((w1.setCells (w.heap.size + 1 + 1) 0 [.slice (some ⟨g, 0, none⟩) l.length l.length, .int .i64 room]).setCells (w.heap.size + 1) 0 [.slice (some ⟨g, 0, none⟩) l.length l.length, .int .i64 room]).heap.size = w1.heap.size from (size_sets _ _ _ _).trans (size_sets _ _ _ _)]; exact h1, a2, c2, ?_, h3⟩
    exact (World.cell?_of_block (w := w1) (a := ⟨g, 0 + i * 6 + 4, none⟩) hbl).trans h2
end Go.Proofs.YthkhaemlcmkkjaxGreat
