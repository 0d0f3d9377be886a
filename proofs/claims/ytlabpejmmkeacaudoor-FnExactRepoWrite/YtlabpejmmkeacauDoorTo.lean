/- The law's own copies: requests and rows of such, laid anew. -/
import Derived.Test.YtlabpejmmkeacauDoorData
import Derived.Deep.OwnRows
import Derived.Deep.MidRow
import Derived.Laws.IdiomCopy
namespace Go.Proofs.YtlabpejmmkeacauDoor
set_option linter.unusedVariables false
set_option linter.unusedSimpArgs false
open Go.RowKit Go.Deep

/-- What lies in a block of a kind. -/
def kindTy (k : Nat) : TypeId := if k = 0 then 54 else if k = 1 then 37 else 39
def CellsOf (w : World) (b : Nat) (t : TypeId) : Prop := ∃ C : Array Value, w.heap[b]? = some (.cells C t (0, 0))
theorem CellsOf.lt {w : World} {b : Nat} {t : TypeId} (h : CellsOf w b t) : b < w.heap.size := by
  obtain ⟨C, hb⟩ := h
  exact (Array.getElem?_eq_some_iff.1 hb).1
theorem CellsOf.frozen {w : World} {b : Nat} {t : TypeId} (h : CellsOf w b t) (i : Nat) : w.frozen? ⟨b, i, none⟩ = false := by
  obtain ⟨C, hb⟩ := h
  simp [World.frozen?, hb]
theorem CellsOf.of_block {w w' : World} {b : Nat} {t : TypeId} (h : CellsOf w b t) (e : w'.heap[b]? = w.heap[b]?) : CellsOf w' b t := by
  obtain ⟨C, hb⟩ := h
  exact ⟨C, e.trans hb⟩
theorem CellsOf.one {w : World} {b : Nat} {t t' : TypeId} (h : CellsOf w b t) (h' : CellsOf w b t') : t = t' := by
  obtain ⟨C, hb⟩ := h
  obtain ⟨C', hb'⟩ := h'
  rw [hb] at hb'
  simp at hb'
  exact hb'.2
/-- The blocks of a kind that have come since, and may be written. -/
def New (w w' : World) : Nat → Nat → Prop := fun k b => w.heap.size ≤ b ∧ CellsOf w' b (kindTy k)

/-- A block of so many cells of a type that may be written. -/
def Row (w : World) (b : Nat) (t : TypeId) (n : Nat) : Prop := ∃ C : Array Value, w.heap[b]? = some (.cells C t (0, 0)) ∧ C.size = n
theorem Row.cells {w : World} {b n : Nat} {t : TypeId} (h : Row w b t n) : CellsOf w b t := by
  obtain ⟨C, hb, _⟩ := h
  exact ⟨C, hb⟩
theorem Row.cell {w : World} {b n i : Nat} {t : TypeId} (h : Row w b t n) (hi : i < n) : ∃ v, w.cell? ⟨b, i, none⟩ = some v := by
  obtain ⟨C, hb, hn⟩ := h
  exact ⟨C[i]'(by omega), by simp [World.cell?, hb, hn, hi]⟩
theorem Row.frozen {w : World} {b n : Nat} {t : TypeId} (h : Row w b t n) (i : Nat) : w.frozen? ⟨b, i, none⟩ = false := by
  obtain ⟨C, hb, hn⟩ := h
  simp [World.frozen?, hb]
theorem Row.lt {w : World} {b n : Nat} {t : TypeId} (h : Row w b t n) : b < w.heap.size := by
  obtain ⟨C, hb, hn⟩ := h
  exact (Array.getElem?_eq_some_iff.1 hb).1
theorem Row.of_block {w w' : World} {b n : Nat} {t : TypeId} (h : Row w b t n) (e : w'.heap[b]? = w.heap[b]?) : Row w' b t n := by
  obtain ⟨C, hb, hn⟩ := h
  exact ⟨C, e.trans hb, hn⟩
theorem Row.set {w : World} {b n : Nat} {t : TypeId} (h : Row w b t n) (b' i : Nat) (v : Value) : Row (w.setCell ⟨b', i, none⟩ v) b t n := by
  obtain ⟨C, hb, hn⟩ := h
  by_cases e : b = b'
  · subst e
    exact ⟨C.setIfInBounds i v, by simp [World.setCell, Array.getElem?_modify, hb], by simpa using hn⟩
  · exact ⟨C, (blk_setCell_other _ _ _ _ e).trans hb, hn⟩
theorem Row.sets {b n : Nat} {t : TypeId} (b' : Nat) : ∀ (vs : List Value) (o : Nat) (w : World), Row w b t n → Row (w.setCells b' o vs) b t n
  | [], _, _, h => h
  | v :: r, o, w, h => Row.sets b' r (o + 1) _ (h.set b' o v)
theorem blk_sets (b : Nat) : ∀ (vs : List Value) (o : Nat) (w : World) (k : Nat), k ≠ b → (w.setCells b o vs).heap[k]? = w.heap[k]?
  | [], _, _, _, _ => rfl
  | v :: r, o, w, k, h => (blk_sets b r (o + 1) _ k h).trans (blk_setCell_other _ _ _ _ h)
theorem size_sets (b : Nat) : ∀ (vs : List Value) (o : Nat) (w : World), (w.setCells b o vs).heap.size = w.heap.size
  | [], _, _ => rfl
  | v :: r, o, w => (size_sets b r (o + 1) _).trans (nblk_setCell _ _ _)
theorem below_sets {B : Nat} (b : Nat) (hb : B ≤ b) : ∀ (vs : List Value) (o : Nat) (a w : World), Below B a w → Below B a (w.setCells b o vs)
  | [], _, _, _, h => h
  | v :: r, o, a, w, h => below_sets b hb r (o + 1) a _ (h.setCell hb v)

theorem six {w : World} {b : Nat} {v0 v1 v2 v3 v4 v5 : Value} {t : TypeId} (h : w.heap[b]? = some (.cells #[v0, v1, v2, v3, v4, v5] t (0, 0))) :
    w.cell? ⟨b, 0, none⟩ = some v0 ∧ w.cell? ⟨b, 1, none⟩ = some v1 ∧ w.cell? ⟨b, 2, none⟩ = some v2 ∧ w.cell? ⟨b, 3, none⟩ = some v3 ∧ w.cell? ⟨b, 4, none⟩ = some v4 ∧ w.cell? ⟨b, 5, none⟩ = some v5 ∧ ∀ i, w.frozen? ⟨b, i, none⟩ = false := by
  simp [World.cell?, World.frozen?, h]
theorem two {w : World} {b : Nat} {v0 v1 : Value} {t : TypeId} (h : w.heap[b]? = some (.cells #[v0, v1] t (0, 0))) :
    w.cell? ⟨b, 0, none⟩ = some v0 ∧ w.cell? ⟨b, 1, none⟩ = some v1 ∧ ∀ i, w.frozen? ⟨b, i, none⟩ = false := by
  simp [World.cell?, World.frozen?, h]
theorem blk_set {w : World} {b : Nat} {c : Array Value} {t : TypeId} (h : w.heap[b]? = some (.cells c t (0, 0))) (i : Nat) (v : Value) : (w.setCell ⟨b, i, none⟩ v).heap[b]? = some (.cells (c.setIfInBounds i v) t (0, 0)) := by
  simp [World.setCell, Array.getElem?_modify, h]

theorem three_alloc (w : World) (A B C : Obj) : (((w.alloc A).alloc B).alloc C).heap[w.heap.size]? = some A ∧ (((w.alloc A).alloc B).alloc C).heap[w.heap.size + 1]? = some B ∧ (((w.alloc A).alloc B).alloc C).heap[w.heap.size + 1 + 1]? = some C := by
  have e : (((w.alloc A).alloc B).alloc C).heap = ((w.heap.push A).push B).push C := rfl
  rw [e]
  refine ⟨?_, ?_, ?_⟩
  · rw [Array.getElem?_push, if_neg (by simp; omega), Array.getElem?_push, if_neg (by simp), Array.getElem?_push, if_pos rfl]
  · rw [Array.getElem?_push, if_neg (by simp), Array.getElem?_push, if_pos (by simp)]
  · rw [Array.getElem?_push, if_pos (by simp)]

theorem ReqAt.range {w : World} {b o : Nat} {q : ReqD} (h : ReqAt w b o q) : w.rangeAt b o [.string q.name, .int .i64 q.low, .int .i64 q.high] := fun j v hv => by
  match j, hv with
  | 0, hv => simp at hv; subst hv; exact h.name
  | 1, hv => simp at hv; subst hv; exact h.low
  | 2, hv => simp at hv; subst hv; exact h.high
theorem ReqAt.of_range {w : World} {b o : Nat} {q : ReqD} (h : w.rangeAt b o [.string q.name, .int .i64 q.low, .int .i64 q.high]) (hl : q.name.size ≤ maxLen) : ReqAt w b o q :=
  ⟨h 0 _ rfl, h 1 _ rfl, h 2 _ rfl, hl⟩
theorem Row.there {w : World} {b n o k : Nat} {t : TypeId} (h : Row w b t n) (hk : o + k ≤ n) : w.there b o k := fun j hj => by
  obtain ⟨v, hv⟩ := h.cell (i := o + j) (by omega)
  exact ⟨by rw [hv]; rfl, h.frozen _⟩

theorem make_eq {P : Program} (t e : TypeId) (z : Value) (size bytes : Nat) (ht : P.underlying t = some (.slice e)) (hinfo : (P.info? e).map (fun i => (i.zero, i.size, i.bytes)) = some (some z, size, bytes))
    (n : Nat) (hbytes : bytes * n ≤ 281474976710656) (h63 : n ≤ 9223372036854775807) (w : World) :
    (Instr.makeSlice t (.int .i64 (n : Int)) (.int .i64 (n : Int))).run P w = .ok (.slice (some ⟨w.heap.size, 0, none⟩) n n) (w.alloc (.cells (madeCells z.cells (n * size)) e)) := by
  obtain ⟨i, hi, hzz⟩ := Option.map_eq_some_iff.1 hinfo
  simp only [Prod.mk.injEq] at hzz
  obtain ⟨hz, hs, hb⟩ := hzz
  have hb' : (i.bytes : Int) * (n : Int) ≤ 281474976710656 := by
    have h : ((i.bytes * n : Nat) : Int) ≤ 281474976710656 := by rw [hb]; omega
    rwa [Int.natCast_mul] at h
  have hr := run_make (P := P) w t e i z ht hi hz .i64 .i64 n n (by omega) (Int.le_refl _) hb' (by omega)
  simp only [Int.toNat_natCast, hs] at hr
  exact hr

theorem row_made (w : World) (z : Array Value) (n : Nat) (t : TypeId) : Row (w.alloc (.cells (madeCells z n) t)) w.heap.size t n :=
  ⟨_, blk_alloc_new _ _, size_madeCells _ _⟩

theorem Tryd.cellsReq : (Tryd.prog.info? 54).map (fun i => (i.zero, i.size, i.bytes)) = some (some (.agg #[.string ByteArray.empty, .int .i64 0, .int .i64 0]), 3, 32) := by kernel_rfl

set_option maxHeartbeats 400000 in
theorem toReq_any (q : ReqD) (w : World) :
    Calls Tryd.prog 45 #[.agg #[.string q.name, .int .i64 q.low, .int .i64 q.high]] w fun e w' => e = .returned (.agg #[.string q.name, .int .i64 q.low, .int .i64 q.high]) ∧ Below w.heap.size w w' := by
  go_enter Tryd.func45, Tryd.ntmps45
  go_wp2
  refine bodyPost_ret (v := .agg #[.string q.name, .int .i64 q.low, .int .i64 q.high]) (by simp [results, Tryd.results45, go_sem]) rfl ⟨rfl, ?_⟩
  exact (((Below.refl _ _).alloc (Nat.le_refl _) _).alloc (by simp) _).alloc (by simp; omega) _

/-- One request more is laid. -/
theorem reqs_step {w1 : World} {H n k : Nat} {t : TypeId} {l : List ReqD} {q : ReqD} (hr : Row w1 H t n) (hk : k * 3 + 3 ≤ n) (hl : ∀ i, i < k → ReqAt w1 H (i * 3) (l.getD i dReq)) (hq : q = l.getD k dReq) (hn : q.name.size ≤ maxLen) :
    ∀ i, i < k + 1 → ReqAt (w1.setCells H (k * 3) [.string q.name, .int .i64 q.low, .int .i64 q.high]) H (i * 3) (l.getD i dReq) := by
  intro i hi
  by_cases e : i = k
  · subst e
    rw [← hq]
    exact ReqAt.of_range (World.rangeAt_setCells_same w1 H (i * 3) _ (hr.there hk)) hn
  · have h := hl i (by omega)
    exact ReqAt.of_range (World.rangeAt_setCells_apart h.range H (k * 3) _ (Or.inr (Or.inl (by simp; omega)))) h.len

set_option maxHeartbeats 1000000 in
theorem toReqS_any (a : Option Addr) (l : List ReqD) (cap : Nat) (w : World) (h : ReqsAt (Old w) w a l) (hsm : l.length ≤ 1048576) :
    Calls Tryd.prog 33 #[.slice a l.length cap] w fun e w' => ∃ g : Nat, e = .returned (.slice (some ⟨g, 0, none⟩) l.length l.length) ∧ Below w.heap.size w w' ∧ ReqsAt (New w w') w' (some ⟨g, 0, none⟩) l := by
  obtain ⟨hm, h⟩ := h
  unfold maxLen at hm
  have hmk := make_eq (P := Tryd.prog) 37 54 _ 3 32 Tryd.underlying37 Tryd.cellsReq l.length (by omega) (by omega)
  go_enter Tryd.func33, Tryd.ntmps33
  go_wp2
  go_loopw [4] (fun i wr => ∃ k : Nat, k ≤ l.length ∧ i = .int .i64 k ∧ Below w.heap.size w wr ∧ Row wr w.heap.size 54 (l.length * 3) ∧ Hid (∀ i, i < k → ReqAt wr w.heap.size (i * 3) (l.getD i dReq))) (fun i _ => l.length - (intOf i).toNat)
  case atStart => exact ⟨0, Nat.zero_le _, rfl, (Below.refl _ _).alloc (Nat.le_refl _) _, row_made _ _ _ _, fun i hi => absurd hi (Nat.not_lt_zero _)⟩
  case round =>
    rename World => wo
    obtain ⟨k, hk, rfl, hw, hrow, hl⟩ := hrel
    by_cases hlt : k < l.length
    · rcases h with h | ⟨b, o, rfl, hSb, h⟩
      · subst h; simp at hlt
      · have hq := h k hlt
        clear h
        have hqk : Hid (l.getD k dReq = l.getD k dReq) := rfl
        obtain ⟨q, hqe⟩ : ∃ q, q = l.getD k dReq := ⟨_, rfl⟩
        rw [← hqe] at hq
        have HQ := hide hqe
        clear hqe hqk
        obtain ⟨c0, c1, c2, hn⟩ := hq
        rw [← hw.cell (p := ⟨b, _, none⟩) hSb] at c0 c1 c2
        have HW := hide hw
        have HR := hide hrow
        clear hw hrow
        go_wp2_with fail
        refine (toReq_any q _).mono ?_
        rintro e w1 ⟨rfl, hb⟩
        have hr1 : Row w1 w.heap.size 54 (l.length * 3) := (unhide HR).of_block (hb.block _ (unhide HR).lt)
        obtain ⟨y0, x0⟩ := hr1.cell (i := k * 3) (by omega)
        obtain ⟨y1, x1⟩ := hr1.cell (i := k * 3 + 1) (by omega)
        obtain ⟨y2, x2⟩ := hr1.cell (i := k * 3 + 2) (by omega)
        have f0 := hr1.frozen (k * 3)
        have f1 := hr1.frozen (k * 3 + 1)
        have f2 := hr1.frozen (k * 3 + 2)
        have HB := hide hb
        have HR1 := hide hr1
        clear hb hr1
        go_wp2_with fail
        go_roundw
        case rel =>
          exact ⟨k + 1, by omega, by go_num, below_sets w.heap.size (Nat.le_refl _) [.string q.name, .int .i64 q.low, .int .i64 q.high] (k * 3) w w1 ((unhide HW).trans ((unhide HB).mono (unhide HW).size)),
            Row.sets _ [.string q.name, .int .i64 q.low, .int .i64 q.high] (k * 3) w1 (unhide HR1), reqs_step (unhide HR1) (by omega) (fun i hi => (hl.out i hi).stay ((unhide HB).block _ (unhide HR).lt)) (unhide HQ) hn⟩
        case measure => simp [intOf]; omega
    · go_wp2_with fail
      go_ret
      refine ⟨w.heap.size, rfl, hw, hm, Or.inr ⟨w.heap.size, 0, rfl, ⟨Nat.le_refl _, hrow.cells⟩, fun i hi => ?_⟩⟩
      rw [Nat.zero_add]
      exact hl.out i (by omega)
end Go.Proofs.YtlabpejmmkeacauDoor
