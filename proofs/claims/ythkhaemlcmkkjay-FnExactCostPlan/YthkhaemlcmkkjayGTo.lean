/- The law's own copies: requests and rows of such, laid anew. The law's own copies: rows, packs, all packs, laid anew. The law's own copies: all packs, laid anew. -/
import Derived.Test.YthkhaemlcmkkjayGBase
import Derived.Deep.OwnRows
import Derived.Deep.MidRow
import Derived.Laws.IdiomCopy
namespace Go.Proofs.Ythkhaemlcmkkjay
set_option linter.unusedVariables false
set_option linter.unusedSimpArgs false
open Go.RowKit Go.Deep

theorem Try.cellsReq : (Try.prog.info? 90).map (fun i => (i.zero, i.size, i.bytes)) = some (some (.agg #[.string ByteArray.empty, .int .i64 0, .int .i64 0]), 3, 32) := by kernel_rfl

set_option maxHeartbeats 400000 in
theorem toReq_any (q : ReqD) (w : World) :
    Calls Try.prog 90 #[.agg #[.string q.name, .int .i64 q.low, .int .i64 q.high]] w fun e w' => e = .returned (.agg #[.string q.name, .int .i64 q.low, .int .i64 q.high]) ∧ Below w.heap.size w w' := by
  go_enter Try.func90, Try.ntmps90
  go_wp2
  refine bodyPost_ret (v := .agg #[.string q.name, .int .i64 q.low, .int .i64 q.high]) (by simp [results, Try.results90, go_sem]) rfl ⟨rfl, ?_⟩
  exact (((Below.refl _ _).alloc (Nat.le_refl _) _).alloc (by simp) _).alloc (by simp; omega) _

/-- One request more is laid. -/
theorem reqs_step {w1 : World} {H n k : Nat} {t : TypeId} {l : List ReqD} {q : ReqD} (hr : Row w1 H t n) (hk : k * 3 + 3 ≤ n) (hl : ∀ i, i < k → ReqAt w1 H (i * 3) (l.getD i dReq)) (hq : q = l.getD k dReq) (hn : q.name.size ≤ maxLen) :
    ∀ i, i < k + 1 → ReqAt (w1.setCells H (k * 3) [.string q.name, .int .i64 q.low, .int .i64 q.high]) H (i * 3) (l.getD i dReq) := by
  intro i hi
  by_cases e : i = k
  · subst e
    rw [← hq]
    exact ReqAt.of_range (World.rangeAt_setCells_same w1 H (i * 3) _ (hr.there hk)) hn
  · have h := hl i (by omega)
    exact ReqAt.of_range (World.rangeAt_setCells_apart h.range H (k * 3) _ (Or.inr (Or.inl (by simp; omega)))) h.len

set_option maxHeartbeats 1000000 in
theorem toReqS_any (a : Option Addr) (l : List ReqD) (cap : Nat) (w : World) (h : ReqsAt (Old w) w a l) (hsm : l.length ≤ 1048576) :
    Calls Try.prog 72 #[.slice a l.length cap] w fun e w' => ∃ g : Nat, e = .returned (.slice (some ⟨g, 0, none⟩) l.length l.length) ∧ Below w.heap.size w w' ∧ ReqsAt (New w w') w' (some ⟨g, 0, none⟩) l := by
  obtain ⟨hm, h⟩ := h
  unfold maxLen at hm
  have hmk := make_eq (P := Try.prog) 60 90 _ 3 32 Try.underlying60 Try.cellsReq l.length (by omega) (by omega)
  go_enter Try.func72, Try.ntmps72
  go_wp2
  go_loopw [4] (fun i wr => ∃ k : Nat, k ≤ l.length ∧ i = .int .i64 k ∧ Below w.heap.size w wr ∧ Row wr w.heap.size 90 (l.length * 3) ∧ Hid (∀ i, i < k → ReqAt wr w.heap.size (i * 3) (l.getD i dReq))) (fun i _ => l.length - (intOf i).toNat)
  case atStart => exact ⟨0, Nat.zero_le _, rfl, (Below.refl _ _).alloc (Nat.le_refl _) _, row_made _ _ _ _, fun i hi => absurd hi (Nat.not_lt_zero _)⟩
  case round =>
    rename World => wo
    obtain ⟨k, hk, rfl, hw, hrow, hl⟩ := hrel
    by_cases hlt : k < l.length
    · rcases h with h | ⟨b, o, rfl, hSb, h⟩
      · subst h; simp at hlt
      · have hq := h k hlt
        clear h
        have hqk : Hid (l.getD k dReq = l.getD k dReq) := rfl
        obtain ⟨q, hqe⟩ : ∃ q, q = l.getD k dReq := ⟨_, rfl⟩
        rw [← hqe] at hq
        have HQ := hide hqe
        clear hqe hqk
        obtain ⟨c0, c1, c2, hn⟩ := hq
        rw [← hw.cell (p := ⟨b, _, none⟩) hSb] at c0 c1 c2
        have HW := hide hw
        have HR := hide hrow
        clear hw hrow
        go_wp2_with fail
        refine (toReq_any q _).mono ?_
        rintro e w1 ⟨rfl, hb⟩
        have hr1 : Row w1 w.heap.size 90 (l.length * 3) := (unhide HR).of_block (hb.block _ (unhide HR).lt)
        obtain ⟨y0, x0⟩ := hr1.cell (i := k * 3) (by omega)
        obtain ⟨y1, x1⟩ := hr1.cell (i := k * 3 + 1) (by omega)
        obtain ⟨y2, x2⟩ := hr1.cell (i := k * 3 + 2) (by omega)
        have f0 := hr1.frozen (k * 3)
        have f1 := hr1.frozen (k * 3 + 1)
        have f2 := hr1.frozen (k * 3 + 2)
        have HB := hide hb
        have HR1 := hide hr1
        clear hb hr1
        go_wp2_with fail
        go_roundw
        case rel =>
          exact ⟨k + 1, by omega, by go_num, below_sets w.heap.size (Nat.le_refl _) [.string q.name, .int .i64 q.low, .int .i64 q.high] (k * 3) w w1 ((unhide HW).trans ((unhide HB).mono (unhide HW).size)),
            Row.sets _ [.string q.name, .int .i64 q.low, .int .i64 q.high] (k * 3) w1 (unhide HR1), reqs_step (unhide HR1) (by omega) (fun i hi => (hl.out i hi).stay ((unhide HB).block _ (unhide HR).lt)) (unhide HQ) hn⟩
        case measure => simp [intOf]; omega
    · go_wp2_with fail
      go_ret
      refine ⟨w.heap.size, rfl, hw, hm, Or.inr ⟨w.heap.size, 0, rfl, ⟨Nat.le_refl _, hrow.cells⟩, fun i hi => ?_⟩⟩
      rw [Nat.zero_add]
      exact hl.out i (by omega)
end Go.Proofs.Ythkhaemlcmkkjay

namespace Go.Proofs.Ythkhaemlcmkkjay
set_option linter.unusedVariables false
set_option linter.unusedSimpArgs false
open Go.RowKit Go.Deep

/-- The blocks of a kind behind a block that may be written. -/
def Above (H : Nat) (w : World) : Nat → Nat → Prop := fun k b => H < b ∧ CellsOf w b (kindTy k)

theorem Above.on {H k : Nat} {w w' : World} (hb : Below w.heap.size w w') {b : Nat} (h : Above H w k b) : Above H w' k b :=
  ⟨h.1, h.2.of_block (hb.block b h.2.lt)⟩
theorem New.above {H k : Nat} {w w' : World} (hH : H < w.heap.size) {b : Nat} (h : New w w' k b) : Above H w' k b := ⟨Nat.lt_of_lt_of_le hH h.1, h.2⟩
theorem Above.new {w w' : World} {b k : Nat} (h : Above w.heap.size w' k b) : New w w' k b := ⟨Nat.le_of_lt h.1, h.2⟩
theorem Above.set {H k c : Nat} {w : World} {b : Nat} (v : Value) (h : Above H w c b) : Above H (w.setCell ⟨H, k, none⟩ v) c b := ⟨h.1, h.2.of_block (blk_setCell_other _ _ _ _ (by have := h.1; show b ≠ H; omega))⟩
theorem Above.sets {H k c : Nat} {w : World} {b : Nat} (vs : List Value) (h : Above H w c b) : Above H (w.setCells H k vs) c b := ⟨h.1, h.2.of_block (blk_sets _ _ _ _ _ (by have := h.1; omega))⟩

theorem Try.cellsReqs : (Try.prog.info? 60).map (fun i => (i.zero, i.size, i.bytes)) = some (some (.slice none 0 0), 1, 24) := by kernel_rfl
theorem Try.cellsPack : (Try.prog.info? 62).map (fun i => (i.zero, i.size, i.bytes)) = some (some (.agg #[.string ByteArray.empty, .int .i64 0, .int .i64 0, .slice none 0 0, .slice none 0 0, .slice none 0 0]), 6, 104) := by kernel_rfl

def RowAt (S : Nat → Nat → Prop) (w : World) (H i : Nat) (r : List ReqD) : Prop := ∃ a' c, w.cell? ⟨H, i, none⟩ = some (.slice a' r.length c) ∧ ReqsAt S w a' r

theorem RowAt.on {w w' : World} {H i : Nat} {r : List ReqD} (h : RowAt (Above H w) w H i r) (hH : H < w.heap.size) (hb : Below w.heap.size w w') : RowAt (Above H w') w' H i r := by
  obtain ⟨a', c, h1, h2⟩ := h
  exact ⟨a', c, (hb.cell (p := ⟨H, i, none⟩) hH).trans h1, (h2.stay (fun _ b hb' => hb.block b hb'.2.lt)).wider (fun _ b hb' => hb'.on hb)⟩

/-- One row more is laid. -/
theorem rows_step {w1 : World} {H n k a' c : Nat} {t : TypeId} {l : List (List ReqD)} (hr : Row w1 H t n) (hk : k < n) (hl : ∀ i, i < k → RowAt (Above H w1) w1 H i (l.getD i []))
    (hq : ReqsAt (Above H w1) w1 (some ⟨a', 0, none⟩) (l.getD k [])) :
    ∀ i, i < k + 1 → RowAt (Above H (w1.setCell ⟨H, k, none⟩ (.slice (some ⟨a', 0, none⟩) (l.getD k []).length c))) (w1.setCell ⟨H, k, none⟩ (.slice (some ⟨a', 0, none⟩) (l.getD k []).length c)) H i (l.getD i []) := by
  intro i hi
  have hz : ∀ v, (w1.setCell ⟨H, k, none⟩ v).heap.size = w1.heap.size := fun v => nblk_setCell _ _ _
  have st : ∀ v a r, ReqsAt (Above H w1) w1 a r → ReqsAt (Above H (w1.setCell ⟨H, k, none⟩ v)) (w1.setCell ⟨H, k, none⟩ v) a r := fun v a r h =>
    (h.stay (fun _ b hb => blk_setCell_other _ _ _ _ (by have := hb.1; show b ≠ H; omega))).wider (fun _ b hb => hb.set _)
  by_cases e : i = k
  · subst e
    obtain ⟨v, hv⟩ := hr.cell hk
    exact ⟨_, c, World.cell?_setCell_same _ _ _ hv, st _ _ _ hq⟩
  · obtain ⟨b', d, h1, h2⟩ := hl i (by omega)
    exact ⟨b', d, (World.cell?_setCell_other _ _ _ _ (by intro h; apply e; simpa using h.symm)).trans h1, st _ _ _ h2⟩

set_option maxHeartbeats 1000000 in
theorem toReqSS_any (a : Option Addr) (l : List (List ReqD)) (cap : Nat) (w : World) (h : RowsAt (Old w) w a l) (hsm : l.length ≤ 1048576) (hsm' : ∀ i, i < l.length → (l.getD i []).length ≤ 1048576) :
    Calls Try.prog 71 #[.slice a l.length cap] w fun e w' => ∃ g : Nat, e = .returned (.slice (some ⟨g, 0, none⟩) l.length l.length) ∧ Below w.heap.size w w' ∧ RowsAt (New w w') w' (some ⟨g, 0, none⟩) l := by
  obtain ⟨hm, h⟩ := h
  unfold maxLen at hm
  have hmk := make_eq (P := Try.prog) 59 60 _ 1 24 Try.underlying59 Try.cellsReqs l.length (by omega) (by omega)
  have HS := hide hsm'
  clear hsm'
  go_enter Try.func71, Try.ntmps71
  go_wp2
  go_loopw [4] (fun i wr => ∃ k : Nat, k ≤ l.length ∧ i = .int .i64 k ∧ Below w.heap.size w wr ∧ Row wr w.heap.size 60 l.length ∧ Hid (∀ i, i < k → RowAt (Above w.heap.size wr) wr w.heap.size i (l.getD i []))) (fun i _ => l.length - (intOf i).toNat)
  case atStart => exact ⟨0, Nat.zero_le _, rfl, (Below.refl _ _).alloc (Nat.le_refl _) _, by simpa using row_made w _ (l.length * 1) _, fun i hi => absurd hi (Nat.not_lt_zero _)⟩
  case round =>
    rename World => wo
    obtain ⟨k, hk, rfl, hw, hrow, hl⟩ := hrel
    by_cases hlt : k < l.length
    · rcases h with h | ⟨b, o, rfl, hSb, h⟩
      · subst h; simp at hlt
      · obtain ⟨a', c', hc, hq⟩ := h k hlt
        clear h
        rw [← hw.cell (p := ⟨b, _, none⟩) hSb] at hc
        have hq' := hq.on hw
        have hs' := unhide HS k hlt
        obtain ⟨r, hre⟩ : ∃ r, r = l.getD k [] := ⟨_, rfl⟩
        rw [← hre] at hc hq' hs'
        have HQ := hide hre
        have HC := hide (toReqS_any a' r c' wo hq' hs')
        have HW := hide hw
        have HR := hide hrow
        clear hre hw hrow hq hq' hs'
        go_wp2_with fail
        refine (unhide HC).mono ?_
        rintro e w1 ⟨g, rfl, hb, hnew⟩
        have hr1 : Row w1 w.heap.size 60 l.length := (unhide HR).of_block (hb.block _ (unhide HR).lt)
        obtain ⟨y0, x0⟩ := hr1.cell (i := k) (by omega)
        have f0 := hr1.frozen k
        have HB := hide hb
        have HR1 := hide hr1
        have HN := hide hnew
        clear hb hr1 hnew
        go_wp2_with fail
        go_roundw
        case rel =>
          refine ⟨k + 1, by omega, by go_num, ((unhide HW).trans ((unhide HB).mono (unhide HW).size)).setCell (Nat.le_refl _) _, (unhide HR1).set _ _ _, ?_⟩
          have hre := unhide HQ
          subst hre
          exact rows_step (unhide HR1) (by omega) (fun i hi => (hl.out i hi).on (unhide HR).lt (unhide HB)) ((unhide HN).wider (fun _ b hb => hb.above (unhide HR).lt))
        case measure => simp [intOf]; omega
    · go_wp2_with fail
      go_ret
      refine ⟨w.heap.size, rfl, hw, hm, Or.inr ⟨w.heap.size, 0, rfl, ⟨Nat.le_refl _, hrow.cells⟩, fun i hi => ?_⟩⟩
      obtain ⟨a', c, h1, h2⟩ := hl.out i (by omega)
      rw [Nat.zero_add]
      exact ⟨a', c, h1, h2.wider (fun _ b hb => hb.new)⟩

structure SmallPack (p : PackD) : Prop where
  deps : p.deps.length ≤ 1048576
  rows : ∀ i, i < p.deps.length → (p.deps.getD i []).length ≤ 1048576
  pres : p.pres.length ≤ 1048576
  bans : p.bans.length ≤ 1048576

set_option maxHeartbeats 1000000 in
theorem toPack_any (p : PackD) (a1 : Option Addr) (c1 : Nat) (a2 : Option Addr) (c2 : Nat) (a3 : Option Addr) (c3 : Nat) (w : World) (h : PackVal (Old w) w a1 a2 a3 p) (hs : SmallPack p) :
    Calls Try.prog 45 #[.agg #[.string p.name, .int .i64 p.ver, .int .i64 p.size, .slice a1 p.deps.length c1, .slice a2 p.pres.length c2, .slice a3 p.bans.length c3]] w
      fun e w' => ∃ b1 b2 b3 : Nat, e = .returned (.agg #[.string p.name, .int .i64 p.ver, .int .i64 p.size, .slice (some ⟨b1, 0, none⟩) p.deps.length p.deps.length, .slice (some ⟨b2, 0, none⟩) p.pres.length p.pres.length, .slice (some ⟨b3, 0, none⟩) p.bans.length p.bans.length]) ∧
        Below w.heap.size w w' ∧ PackVal (New w w') w' (some ⟨b1, 0, none⟩) (some ⟨b2, 0, none⟩) (some ⟨b3, 0, none⟩) p := by
  have HV := hide h
  have HS := hide hs
  clear h hs
  go_enter Try.func45, Try.ntmps45
  go_wp2_with fail
  have e0 : Below w.heap.size w (((w.alloc (.cells #[.string p.name, .int .i64 p.ver, .int .i64 p.size, .slice a1 p.deps.length c1, .slice a2 p.pres.length c2, .slice a3 p.bans.length c3] 86 (0, 0))).alloc (.cells #[.string ⟨#[]⟩, .int .i64 0, .int .i64 0, .slice none 0 0, .slice none 0 0, .slice none 0 0] 62 (0, 0))).alloc (.cells #[.string p.name, .int .i64 p.ver, .int .i64 p.size, .slice none 0 0, .slice none 0 0, .slice none 0 0] 62 (0, 0))) :=
    (((Below.refl _ _).alloc (Nat.le_refl _) _).alloc (by simp) _).alloc (by simp; omega) _
  refine (toReqSS_any a1 p.deps c1 _ ((unhide HV).deps.on e0) (unhide HS).deps (unhide HS).rows).mono ?_
  rintro e w1 ⟨g1, rfl, hb, hn1⟩
  have bA : w1.heap[w.heap.size]? = some (.cells #[.string p.name, .int .i64 p.ver, .int .i64 p.size, .slice a1 p.deps.length c1, .slice a2 p.pres.length c2, .slice a3 p.bans.length c3] 86 (0, 0)) := (hb.block _ (by simp; omega)).trans (three_alloc _ _ _ _).1
  have bR : w1.heap[w.heap.size + 1]? = some (.cells #[.string ⟨#[]⟩, .int .i64 0, .int .i64 0, .slice none 0 0, .slice none 0 0, .slice none 0 0] 62 (0, 0)) := (hb.block _ (by simp)).trans (three_alloc _ _ _ _).2.1
  have bO : w1.heap[w.heap.size + 1 + 1]? = some (.cells #[.string p.name, .int .i64 p.ver, .int .i64 p.size, .slice none 0 0, .slice none 0 0, .slice none 0 0] 62 (0, 0)) := (hb.block _ (by simp)).trans (three_alloc _ _ _ _).2.2
  have hz := hb.size
  simp at hz
  have hb1 := e0.trans (hb.mono (by simp; omega))
  have HB := hide hb1
  have HN1 := hide (hn1.wider (T := Above (w.heap.size + 1 + 1) w1) (fun _ b hb' => ⟨by have := hb'.1; simp at this; omega, hb'.2⟩))
  clear hb hb1 e0 hn1
  obtain ⟨A0, A1, A2, A3, A4, A5, fA⟩ := six bA
  obtain ⟨O0, O1, O2, O3, O4, O5, fO⟩ := six bO
  have KA := hide bA
  have KR := hide bR
  have KO := hide bO
  clear bA bR bO
  go_wp2_with fail
  have e0 : Below w.heap.size w (w1.setCell ⟨w.heap.size + 1 + 1, 3, none⟩ (.slice (some ⟨g1, 0, none⟩) p.deps.length p.deps.length)) := (unhide HB).setCell (by simp; omega) _
  refine (toReqS_any a2 p.pres c2 _ ((unhide HV).pres.on e0) (unhide HS).pres).mono ?_
  rintro e w2 ⟨g2, rfl, hb, hn⟩
  have hz' := hb.size
  rw [nblk_setCell] at hz'
  have bA : w2.heap[w.heap.size]? = some (.cells #[.string p.name, .int .i64 p.ver, .int .i64 p.size, .slice a1 p.deps.length c1, .slice a2 p.pres.length c2, .slice a3 p.bans.length c3] 86 (0, 0)) := (hb.block _ (by rw [nblk_setCell]; omega)).trans ((blk_setCell_other _ _ _ _ (by show _ ≠ w.heap.size + 1 + 1; omega)).trans (unhide KA))
  have bR : w2.heap[w.heap.size + 1]? = some (.cells #[.string ⟨#[]⟩, .int .i64 0, .int .i64 0, .slice none 0 0, .slice none 0 0, .slice none 0 0] 62 (0, 0)) := (hb.block _ (by rw [nblk_setCell]; omega)).trans ((blk_setCell_other _ _ _ _ (by show _ ≠ w.heap.size + 1 + 1; omega)).trans (unhide KR))
  have bO : w2.heap[w.heap.size + 1 + 1]? = some (.cells #[.string p.name, .int .i64 p.ver, .int .i64 p.size, .slice (some ⟨g1, 0, none⟩) p.deps.length p.deps.length, .slice none 0 0, .slice none 0 0] 62 (0, 0)) := (hb.block _ (by rw [nblk_setCell]; omega)).trans (blk_set (unhide KO) 3 _)
  have hz2 : w.heap.size + 1 + 1 + 1 ≤ w2.heap.size := by omega
  have hk1 := ((unhide HN1).stay (w' := w2) (fun _ b hb' => (hb.block b (by rw [nblk_setCell]; exact hb'.2.lt)).trans (blk_setCell_other _ _ _ _ (by have := hb'.1; show b ≠ w.heap.size + 1 + 1; omega)))).wider (T := Above (w.heap.size + 1 + 1) w2) (fun _ b hb' => (hb'.set _).on hb)
  have HN2 := hide (hn.wider (T := Above (w.heap.size + 1 + 1) w2) (fun _ b hb' => ⟨by have := hb'.1; rw [nblk_setCell] at this; omega, hb'.2⟩))
  have hb1 := e0.trans (hb.mono (by rw [nblk_setCell]; omega))
  clear HB KA KR KO HN1 hz hn A0 A1 A2 A3 A4 A5 fA O0 O1 O2 O3 O4 O5 fO
  have HB := hide hb1
  have HN1 := hide hk1
  clear hb hb1 e0 hz' hk1
  have hz := hz2
  clear hz2
  obtain ⟨A0, A1, A2, A3, A4, A5, fA⟩ := six bA
  obtain ⟨O0, O1, O2, O3, O4, O5, fO⟩ := six bO
  have KA := hide bA
  have KR := hide bR
  have KO := hide bO
  clear bA bR bO
  go_wp2_with fail
  have e0 : Below w.heap.size w (w2.setCell ⟨w.heap.size + 1 + 1, 4, none⟩ (.slice (some ⟨g2, 0, none⟩) p.pres.length p.pres.length)) := (unhide HB).setCell (by simp; omega) _
  refine (toReqS_any a3 p.bans c3 _ ((unhide HV).bans.on e0) (unhide HS).bans).mono ?_
  rintro e w3 ⟨g3, rfl, hb, hn⟩
  have hz' := hb.size
  rw [nblk_setCell] at hz'
  have bA : w3.heap[w.heap.size]? = some (.cells #[.string p.name, .int .i64 p.ver, .int .i64 p.size, .slice a1 p.deps.length c1, .slice a2 p.pres.length c2, .slice a3 p.bans.length c3] 86 (0, 0)) := (hb.block _ (by rw [nblk_setCell]; omega)).trans ((blk_setCell_other _ _ _ _ (by show _ ≠ w.heap.size + 1 + 1; omega)).trans (unhide KA))
  have bR : w3.heap[w.heap.size + 1]? = some (.cells #[.string ⟨#[]⟩, .int .i64 0, .int .i64 0, .slice none 0 0, .slice none 0 0, .slice none 0 0] 62 (0, 0)) := (hb.block _ (by rw [nblk_setCell]; omega)).trans ((blk_setCell_other _ _ _ _ (by show _ ≠ w.heap.size + 1 + 1; omega)).trans (unhide KR))
  have bO : w3.heap[w.heap.size + 1 + 1]? = some (.cells #[.string p.name, .int .i64 p.ver, .int .i64 p.size, .slice (some ⟨g1, 0, none⟩) p.deps.length p.deps.length, .slice (some ⟨g2, 0, none⟩) p.pres.length p.pres.length, .slice none 0 0] 62 (0, 0)) := (hb.block _ (by rw [nblk_setCell]; omega)).trans (blk_set (unhide KO) 4 _)
  have hz2 : w.heap.size + 1 + 1 + 1 ≤ w3.heap.size := by omega
  have hk1 := ((unhide HN1).stay (w' := w3) (fun _ b hb' => (hb.block b (by rw [nblk_setCell]; exact hb'.2.lt)).trans (blk_setCell_other _ _ _ _ (by have := hb'.1; show b ≠ w.heap.size + 1 + 1; omega)))).wider (T := Above (w.heap.size + 1 + 1) w3) (fun _ b hb' => (hb'.set _).on hb)
  have hk2 := ((unhide HN2).stay (w' := w3) (fun _ b hb' => (hb.block b (by rw [nblk_setCell]; exact hb'.2.lt)).trans (blk_setCell_other _ _ _ _ (by have := hb'.1; show b ≠ w.heap.size + 1 + 1; omega)))).wider (T := Above (w.heap.size + 1 + 1) w3) (fun _ b hb' => (hb'.set _).on hb)
  have HN3 := hide (hn.wider (T := Above (w.heap.size + 1 + 1) w3) (fun _ b hb' => ⟨by have := hb'.1; rw [nblk_setCell] at this; omega, hb'.2⟩))
  have hb1 := e0.trans (hb.mono (by rw [nblk_setCell]; omega))
  clear HB KA KR KO HN1 HN2 hz hn A0 A1 A2 A3 A4 A5 fA O0 O1 O2 O3 O4 O5 fO
  have HB := hide hb1
  have HN1 := hide hk1
  have HN2 := hide hk2
  clear hb hb1 e0 hz' hk1 hk2
  have hz := hz2
  clear hz2
  obtain ⟨A0, A1, A2, A3, A4, A5, fA⟩ := six bA
  obtain ⟨O0, O1, O2, O3, O4, O5, fO⟩ := six bO
  obtain ⟨R0, R1, R2, R3, R4, R5, fR⟩ := six bR
  clear bA bR bO
  go_wp2_with fail
  refine bodyPost_ret (v := .agg #[.string p.name, .int .i64 p.ver, .int .i64 p.size, .slice (some ⟨g1, 0, none⟩) p.deps.length p.deps.length, .slice (some ⟨g2, 0, none⟩) p.pres.length p.pres.length, .slice (some ⟨g3, 0, none⟩) p.bans.length p.bans.length]) (by simp [results, Try.results45, go_sem, R0, R1, R2, R3, R4, R5]) rfl ⟨g1, g2, g3, rfl, ?_, ?_⟩
  · exact below_sets (w.heap.size + 1) (by omega) [.string p.name, .int .i64 p.ver, .int .i64 p.size, .slice (some ⟨g1, 0, none⟩) p.deps.length p.deps.length, .slice (some ⟨g2, 0, none⟩) p.pres.length p.pres.length, .slice (some ⟨g3, 0, none⟩) p.bans.length p.bans.length] 0 w _ ((unhide HB).setCell (by show _ ≤ w.heap.size + 1 + 1; omega) _)
  · show PackVal (New w ((w3.setCell ⟨w.heap.size + 1 + 1, 5, none⟩ (.slice (some ⟨g3, 0, none⟩) p.bans.length p.bans.length)).setCells (w.heap.size + 1) 0 [.string p.name, .int .i64 p.ver, .int .i64 p.size, .slice (some ⟨g1, 0, none⟩) p.deps.length p.deps.length, .slice (some ⟨g2, 0, none⟩) p.pres.length p.pres.length, .slice (some ⟨g3, 0, none⟩) p.bans.length p.bans.length])) ((w3.setCell ⟨w.heap.size + 1 + 1, 5, none⟩ (.slice (some ⟨g3, 0, none⟩) p.bans.length p.bans.length)).setCells (w.heap.size + 1) 0 [.string p.name, .int .i64 p.ver, .int .i64 p.size, .slice (some ⟨g1, 0, none⟩) p.deps.length p.deps.length, .slice (some ⟨g2, 0, none⟩) p.pres.length p.pres.length, .slice (some ⟨g3, 0, none⟩) p.bans.length p.bans.length]) _ _ _ p
    have hbl : ∀ k b, Above (w.heap.size + 1 + 1) w3 k b → ((w3.setCell ⟨w.heap.size + 1 + 1, 5, none⟩ (.slice (some ⟨g3, 0, none⟩) p.bans.length p.bans.length)).setCells (w.heap.size + 1) 0 [.string p.name, .int .i64 p.ver, .int .i64 p.size, .slice (some ⟨g1, 0, none⟩) p.deps.length p.deps.length, .slice (some ⟨g2, 0, none⟩) p.pres.length p.pres.length, .slice (some ⟨g3, 0, none⟩) p.bans.length p.bans.length]).heap[b]? = w3.heap[b]? := fun _ b hb => (blk_sets _ _ _ _ _ (by have := hb.1; omega)).trans (blk_setCell_other _ _ _ _ (by have := hb.1; show b ≠ w.heap.size + 1 + 1; omega))
    have hsz : ((w3.setCell ⟨w.heap.size + 1 + 1, 5, none⟩ (.slice (some ⟨g3, 0, none⟩) p.bans.length p.bans.length)).setCells (w.heap.size + 1) 0 [.string p.name, .int .i64 p.ver, .int .i64 p.size, .slice (some ⟨g1, 0, none⟩) p.deps.length p.deps.length, .slice (some ⟨g2, 0, none⟩) p.pres.length p.pres.length, .slice (some ⟨g3, 0, none⟩) p.bans.length p.bans.length]).heap.size = w3.heap.size := (size_sets _ _ _ _).trans (nblk_setCell _ _ _)
    have hwd : ∀ k b, Above (w.heap.size + 1 + 1) w3 k b → New w ((w3.setCell ⟨w.heap.size + 1 + 1, 5, none⟩ (.slice (some ⟨g3, 0, none⟩) p.bans.length p.bans.length)).setCells (w.heap.size + 1) 0 [.string p.name, .int .i64 p.ver, .int .i64 p.size, .slice (some ⟨g1, 0, none⟩) p.deps.length p.deps.length, .slice (some ⟨g2, 0, none⟩) p.pres.length p.pres.length, .slice (some ⟨g3, 0, none⟩) p.bans.length p.bans.length]) k b := fun k b hb => ⟨by have := hb.1; omega, hb.2.of_block (hbl k b hb)⟩
    exact ⟨(unhide HV).len, ((unhide HN1).stay hbl).wider hwd, ((unhide HN2).stay hbl).wider hwd, ((unhide HN3).stay hbl).wider hwd⟩

theorem PackCells.range {w : World} {b o : Nat} {p : PackD} {a1 : Option Addr} {c1 : Nat} {a2 : Option Addr} {c2 : Nat} {a3 : Option Addr} {c3 : Nat} (h : PackCells w b o p a1 c1 a2 c2 a3 c3) : w.rangeAt b o [.string p.name, .int .i64 p.ver, .int .i64 p.size, .slice a1 p.deps.length c1, .slice a2 p.pres.length c2, .slice a3 p.bans.length c3] := fun j v hv => by
  match j, hv with
  | 0, hv => simp at hv; subst hv; exact h.name
  | 1, hv => simp at hv; subst hv; exact h.ver
  | 2, hv => simp at hv; subst hv; exact h.size
  | 3, hv => simp at hv; subst hv; exact h.deps
  | 4, hv => simp at hv; subst hv; exact h.pres
  | 5, hv => simp at hv; subst hv; exact h.bans
theorem PackCells.of_range {w : World} {b o : Nat} {p : PackD} {a1 : Option Addr} {c1 : Nat} {a2 : Option Addr} {c2 : Nat} {a3 : Option Addr} {c3 : Nat} (h : w.rangeAt b o [.string p.name, .int .i64 p.ver, .int .i64 p.size, .slice a1 p.deps.length c1, .slice a2 p.pres.length c2, .slice a3 p.bans.length c3]) : PackCells w b o p a1 c1 a2 c2 a3 c3 :=
  ⟨h 0 _ rfl, h 1 _ rfl, h 2 _ rfl, h 3 _ rfl, h 4 _ rfl, h 5 _ rfl⟩

theorem PackAt.on {w w' : World} {H i : Nat} {p : PackD} (h : PackAt (Above H w) w H i p) (hH : H < w.heap.size) (hb : Below w.heap.size w w') : PackAt (Above H w') w' H i p := by
  obtain ⟨a1, c1, a2, c2, a3, c3, h1, h2⟩ := h
  exact ⟨a1, c1, a2, c2, a3, c3, h1.stay (hb.block _ hH), (h2.stay (fun _ b hb' => hb.block b hb'.2.lt)).wider (fun _ b hb' => hb'.on hb)⟩

/-- One pack more is laid. -/
theorem packs_step {w1 : World} {H n k : Nat} {t : TypeId} {l : List PackD} {q : PackD} {a1 : Option Addr} {c1 : Nat} {a2 : Option Addr} {c2 : Nat} {a3 : Option Addr} {c3 : Nat} (hr : Row w1 H t n) (hk : k * 6 + 6 ≤ n) (hl : ∀ i, i < k → PackAt (Above H w1) w1 H (i * 6) (l.getD i dPack))
    (hq : q = l.getD k dPack) (hv : PackVal (Above H w1) w1 a1 a2 a3 q) :
    ∀ i, i < k + 1 → PackAt (Above H (w1.setCells H (k * 6) [.string q.name, .int .i64 q.ver, .int .i64 q.size, .slice a1 q.deps.length c1, .slice a2 q.pres.length c2, .slice a3 q.bans.length c3])) (w1.setCells H (k * 6) [.string q.name, .int .i64 q.ver, .int .i64 q.size, .slice a1 q.deps.length c1, .slice a2 q.pres.length c2, .slice a3 q.bans.length c3]) H (i * 6) (l.getD i dPack) := by
  intro i hi
  have st : ∀ a1 a2 a3 p, PackVal (Above H w1) w1 a1 a2 a3 p → PackVal (Above H (w1.setCells H (k * 6) [.string q.name, .int .i64 q.ver, .int .i64 q.size, .slice a1 q.deps.length c1, .slice a2 q.pres.length c2, .slice a3 q.bans.length c3])) (w1.setCells H (k * 6) [.string q.name, .int .i64 q.ver, .int .i64 q.size, .slice a1 q.deps.length c1, .slice a2 q.pres.length c2, .slice a3 q.bans.length c3]) a1 a2 a3 p := fun a1 a2 a3 p h =>
    (h.stay (fun _ b hb => blk_sets _ _ _ _ _ (by have := hb.1; omega))).wider (fun _ b hb => hb.sets _)
  by_cases e : i = k
  · subst e
    rw [← hq]
    exact ⟨a1, c1, a2, c2, a3, c3, PackCells.of_range (World.rangeAt_setCells_same w1 H (i * 6) _ (hr.there hk)), st _ _ _ _ hv⟩
  · obtain ⟨z1, d1, z2, d2, z3, d3, h1, h2⟩ := hl i (by omega)
    have h2' := (h2.stay (w' := w1.setCells H (k * 6) [.string q.name, .int .i64 q.ver, .int .i64 q.size, .slice a1 q.deps.length c1, .slice a2 q.pres.length c2, .slice a3 q.bans.length c3]) (fun _ b hb => blk_sets _ _ _ _ _ (by have := hb.1; omega)))
    exact ⟨z1, d1, z2, d2, z3, d3, PackCells.of_range (World.rangeAt_setCells_apart h1.range H (k * 6) _ (Or.inr (Or.inl (by simp; omega)))), h2'.wider (fun _ b hb => hb.sets _)⟩
end Go.Proofs.Ythkhaemlcmkkjay

namespace Go.Proofs.Ythkhaemlcmkkjay
set_option linter.unusedVariables false
set_option linter.unusedSimpArgs false
open Go.RowKit Go.Deep

structure SmallPacks (l : List PackD) : Prop where
  len : l.length ≤ 1048576
  each : ∀ i, i < l.length → SmallPack (l.getD i dPack)

set_option maxHeartbeats 1000000 in
theorem toPackS_any (a : Option Addr) (l : List PackD) (cap : Nat) (w : World) (h : PacksAt (Old w) w a l) (hsm : SmallPacks l) :
    Calls Try.prog 30 #[.slice a l.length cap] w fun e w' => ∃ g : Nat, e = .returned (.slice (some ⟨g, 0, none⟩) l.length l.length) ∧ Below w.heap.size w w' ∧ PacksAt (New w w') w' (some ⟨g, 0, none⟩) l := by
  obtain ⟨hm, h⟩ := h
  unfold maxLen at hm
  have hsl := hsm.len
  have hmk := make_eq (P := Try.prog) 29 62 _ 6 104 Try.underlying29 Try.cellsPack l.length (by omega) (by omega)
  have HS := hide hsm
  clear hsm
  go_enter Try.func30, Try.ntmps30
  go_wp2
  go_loopw [4] (fun i wr => ∃ k : Nat, k ≤ l.length ∧ i = .int .i64 k ∧ Below w.heap.size w wr ∧ Row wr w.heap.size 62 (l.length * 6) ∧ Hid (∀ i, i < k → PackAt (Above w.heap.size wr) wr w.heap.size (i * 6) (l.getD i dPack))) (fun i _ => l.length - (intOf i).toNat)
  case atStart => exact ⟨0, Nat.zero_le _, rfl, (Below.refl _ _).alloc (Nat.le_refl _) _, row_made _ _ _ _, fun i hi => absurd hi (Nat.not_lt_zero _)⟩
  case round =>
    rename World => wo
    obtain ⟨k, hk, rfl, hw, hrow, hl⟩ := hrel
    by_cases hlt : k < l.length
    · rcases h with h | ⟨b, o, rfl, hSb, h⟩
      · subst h; simp at hlt
      · have hq := h k hlt
        have hs' := (unhide HS).each k hlt
        clear h
        obtain ⟨q, hqe⟩ : ∃ q, q = l.getD k dPack := ⟨_, rfl⟩
        rw [← hqe] at hq hs'
        have HQ := hide hqe
        clear hqe
        obtain ⟨a1, c1, a2, c2, a3, c3, ⟨p0, p1, p2, p3, p4, p5⟩, hv⟩ := hq
        rw [← hw.cell (p := ⟨b, _, none⟩) hSb] at p0 p1 p2 p3 p4 p5
        have HC := hide (toPack_any q a1 c1 a2 c2 a3 c3 wo (hv.on hw) hs')
        have HW := hide hw
        have HR := hide hrow
        clear hw hrow hv hs'
        go_wp2_with fail
        refine (unhide HC).mono ?_
        rintro e w1 ⟨g1, g2, g3, rfl, hb, hnew⟩
        have hr1 : Row w1 w.heap.size 62 (l.length * 6) := (unhide HR).of_block (hb.block _ (unhide HR).lt)
        obtain ⟨y0, x0⟩ := hr1.cell (i := k * 6) (by omega)
        obtain ⟨y1, x1⟩ := hr1.cell (i := k * 6 + 1) (by omega)
        obtain ⟨y2, x2⟩ := hr1.cell (i := k * 6 + 2) (by omega)
        obtain ⟨y3, x3⟩ := hr1.cell (i := k * 6 + 3) (by omega)
        obtain ⟨y4, x4⟩ := hr1.cell (i := k * 6 + 4) (by omega)
        obtain ⟨y5, x5⟩ := hr1.cell (i := k * 6 + 5) (by omega)
        have f0 := hr1.frozen
        have HB := hide hb
        have HR1 := hide hr1
        have HN := hide hnew
        clear hb hr1 hnew
        go_wp2_with fail
        go_roundw
        case rel =>
          exact ⟨k + 1, by omega, by go_num, below_sets w.heap.size (Nat.le_refl _) [.string q.name, .int .i64 q.ver, .int .i64 q.size, .slice (some ⟨g1, 0, none⟩) q.deps.length q.deps.length, .slice (some ⟨g2, 0, none⟩) q.pres.length q.pres.length, .slice (some ⟨g3, 0, none⟩) q.bans.length q.bans.length] (k * 6) w w1 ((unhide HW).trans ((unhide HB).mono (unhide HW).size)),
            Row.sets _ [.string q.name, .int .i64 q.ver, .int .i64 q.size, .slice (some ⟨g1, 0, none⟩) q.deps.length q.deps.length, .slice (some ⟨g2, 0, none⟩) q.pres.length q.pres.length, .slice (some ⟨g3, 0, none⟩) q.bans.length q.bans.length] (k * 6) w1 (unhide HR1),
            packs_step (unhide HR1) (by omega) (fun i hi => (hl.out i hi).on (unhide HR).lt (unhide HB)) (unhide HQ) ((unhide HN).wider (fun _ b hb => hb.above (unhide HR).lt))⟩
        case measure => simp [intOf]; omega
    · go_wp2_with fail
      go_ret
      refine ⟨w.heap.size, rfl, hw, hm, Or.inr ⟨w.heap.size, 0, rfl, ⟨Nat.le_refl _, hrow.cells⟩, fun i hi => ?_⟩⟩
      rw [Nat.zero_add]
      exact (hl.out i (by omega)).wider (fun _ b hb => hb.new)

set_option maxHeartbeats 1000000 in
theorem toRepo_any (a : Option Addr) (l : List PackD) (cap : Nat) (room : Int) (w : World) (h : PacksAt (Old w) w a l) (hsm : SmallPacks l) :
    Calls Try.prog 8 #[.agg #[.slice a l.length cap, .int .i64 room]] w fun e w' => ∃ g : Nat, e = .returned (.agg #[.slice (some ⟨g, 0, none⟩) l.length l.length, .int .i64 room]) ∧ Below w.heap.size w w' ∧ PacksAt (New w w') w' (some ⟨g, 0, none⟩) l := by
  have HV := hide h
  clear h
  go_enter Try.func8, Try.ntmps8
  go_wp2_with fail
  have e0 : Below w.heap.size w (((w.alloc (.cells #[.slice a l.length cap, .int .i64 room] 24 (0, 0))).alloc (.cells #[.slice none 0 0, .int .i64 0] 31 (0, 0))).alloc (.cells #[.slice none 0 0, .int .i64 0] 31 (0, 0))) :=
    (((Below.refl _ _).alloc (Nat.le_refl _) _).alloc (by simp) _).alloc (by simp; omega) _
  refine (toPackS_any a l cap _ ((unhide HV).on e0) hsm).mono ?_
  rintro e w1 ⟨g, rfl, hb, hn⟩
  have bA : w1.heap[w.heap.size]? = some (.cells #[.slice a l.length cap, .int .i64 room] 24 (0, 0)) := (hb.block _ (by simp; omega)).trans (three_alloc _ _ _ _).1
  have bR : w1.heap[w.heap.size + 1]? = some (.cells #[.slice none 0 0, .int .i64 0] 31 (0, 0)) := (hb.block _ (by simp)).trans (three_alloc _ _ _ _).2.1
  have bO : w1.heap[w.heap.size + 1 + 1]? = some (.cells #[.slice none 0 0, .int .i64 0] 31 (0, 0)) := (hb.block _ (by simp)).trans (three_alloc _ _ _ _).2.2
  have hz := hb.size
  simp at hz
  have hb1 := e0.trans (hb.mono (by simp; omega))
  have HB := hide hb1
  have HN := hide (hn.wider (T := Above (w.heap.size + 1 + 1) w1) (fun _ b hb' => ⟨by have := hb'.1; simp at this; omega, hb'.2⟩))
  clear hb hb1 e0 hn
  obtain ⟨A0, A1, fA⟩ := two bA
  obtain ⟨O0, O1, fO⟩ := two bO
  obtain ⟨R0, R1, fR⟩ := two bR
  clear bA bR bO
  go_wp2_with fail
  refine bodyPost_ret (v := .agg #[.slice (some ⟨g, 0, none⟩) l.length l.length, .int .i64 room]) (by simp [results, Try.results8, go_sem, R0, R1]) rfl ⟨g, rfl, ?_, ?_⟩
  · exact below_sets (w.heap.size + 1) (by omega) [.slice (some ⟨g, 0, none⟩) l.length l.length, .int .i64 room] 0 w _ (below_sets (w.heap.size + 1 + 1) (by omega) [.slice (some ⟨g, 0, none⟩) l.length l.length, .int .i64 room] 0 w _ (unhide HB))
  · show PacksAt (New w ((w1.setCells (w.heap.size + 1 + 1) 0 [.slice (some ⟨g, 0, none⟩) l.length l.length, .int .i64 room]).setCells (w.heap.size + 1) 0 [.slice (some ⟨g, 0, none⟩) l.length l.length, .int .i64 room])) ((w1.setCells (w.heap.size + 1 + 1) 0 [.slice (some ⟨g, 0, none⟩) l.length l.length, .int .i64 room]).setCells (w.heap.size + 1) 0 [.slice (some ⟨g, 0, none⟩) l.length l.length, .int .i64 room]) _ l
    have hbl : ∀ k b, Above (w.heap.size + 1 + 1) w1 k b → ((w1.setCells (w.heap.size + 1 + 1) 0 [.slice (some ⟨g, 0, none⟩) l.length l.length, .int .i64 room]).setCells (w.heap.size + 1) 0 [.slice (some ⟨g, 0, none⟩) l.length l.length, .int .i64 room]).heap[b]? = w1.heap[b]? := fun _ b hb => (blk_sets _ _ _ _ _ (by have := hb.1; omega)).trans (blk_sets _ _ _ _ _ (by have := hb.1; omega))
    have hsz : ((w1.setCells (w.heap.size + 1 + 1) 0 [.slice (some ⟨g, 0, none⟩) l.length l.length, .int .i64 room]).setCells (w.heap.size + 1) 0 [.slice (some ⟨g, 0, none⟩) l.length l.length, .int .i64 room]).heap.size = w1.heap.size := (size_sets _ _ _ _).trans (size_sets _ _ _ _)
    exact ((unhide HN).stay hbl).wider (fun k b hb => ⟨by have := hb.1; omega, hb.2.of_block (hbl k b hb)⟩)
end Go.Proofs.Ythkhaemlcmkkjay
