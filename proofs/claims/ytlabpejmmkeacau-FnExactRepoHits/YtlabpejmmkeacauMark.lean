/- The law's own marks: they write into what lies in the given blocks alone. -/
import Derived.Test.YtlabpejmmkeacauToC
namespace Go.Proofs.Ytlabpejmmkeacau
set_option linter.unusedVariables false
set_option linter.unusedSimpArgs false
open Go.RowKit Go.Deep

/-- From w to w' nothing has been written but blocks of the types ts, from block B on; each block keeps its type and its length. -/
structure Wrote (B : Nat) (ts : TypeId → Prop) (w w' : World) : Prop where
  os : w'.os = w.os
  tape : w'.tape = w.tape
  output : w'.output = w.output
  size : w.heap.size ≤ w'.heap.size
  block : ∀ b, b < w.heap.size → (b < B ∨ ∀ t, ts t → ¬ CellsOf w b t) → w'.heap[b]? = w.heap[b]?
  shape : ∀ b t n, Row w b t n → Row w' b t n

theorem Wrote.refl (B : Nat) (ts : TypeId → Prop) (w : World) : Wrote B ts w w := ⟨rfl, rfl, rfl, Nat.le_refl _, fun _ _ _ => rfl, fun _ _ _ h => h⟩
theorem Wrote.trans {B : Nat} {ts : TypeId → Prop} {a b c : World} (h : Wrote B ts a b) (k : Wrote B ts b c) : Wrote B ts a c :=
  ⟨k.os.trans h.os, k.tape.trans h.tape, k.output.trans h.output, Nat.le_trans h.size k.size,
   fun x hx hc => by
     have e := h.block x hx hc
     exact (k.block x (Nat.lt_of_lt_of_le hx h.size) (hc.imp id fun hc t ht hn => hc t ht (hn.of_block e.symm))).trans e,
   fun x t n hr => k.shape x t n (h.shape x t n hr)⟩
theorem Wrote.of_below {B : Nat} {ts : TypeId → Prop} {w w' : World} (h : Below w.heap.size w w') : Wrote B ts w w' :=
  ⟨h.os, h.tape, h.output, h.size, fun b hb _ => h.block b hb, fun b t n hr => hr.of_block (h.block b hr.lt)⟩
theorem Wrote.set {B : Nat} {ts : TypeId → Prop} {a w : World} (h : Wrote B ts a w) {b : Nat} {t : TypeId} (hB : B ≤ b) (hc : CellsOf w b t) (ht : ts t) (i : Nat) (v : Value) : Wrote B ts a (w.setCell ⟨b, i, none⟩ v) := by
  refine h.trans ⟨rfl, rfl, rfl, by rw [nblk_setCell]; exact Nat.le_refl _, fun x hx hx' => blk_setCell_other _ _ _ _ ?_, fun x u n hr => hr.set b i v⟩
  intro e
  rcases hx' with hx' | hx'
  · have : x = b := e
    omega
  · exact hx' t ht (by rw [show x = b from e]; exact hc)
theorem Wrote.more {B : Nat} {ts ts' : TypeId → Prop} {w w' : World} (h : Wrote B ts w w') (hs : ∀ t, ts t → ts' t) : Wrote B ts' w w' :=
  ⟨h.os, h.tape, h.output, h.size, fun b hb hc => h.block b hb (hc.imp id fun hc t ht => hc t (hs t ht)), h.shape⟩
theorem Wrote.cells {B : Nat} {ts : TypeId → Prop} {w w' : World} (h : Wrote B ts w w') {b : Nat} {t : TypeId} (hc : CellsOf w b t) : CellsOf w' b t := by
  obtain ⟨C, hC⟩ := hc
  exact (h.shape b t C.size ⟨C, hC, rfl⟩).cells
theorem Wrote.other {B : Nat} {ts : TypeId → Prop} {w w' : World} (h : Wrote B ts w w') {b : Nat} {t : TypeId} (hc : CellsOf w b t) (ht : ¬ ts t) : w'.heap[b]? = w.heap[b]? :=
  h.block b hc.lt (Or.inr fun u hu hn => ht (by rw [hc.one hn]; exact hu))
/-- Where nothing below B was written: as it was below B. -/
theorem Wrote.below {B : Nat} {ts : TypeId → Prop} {w w' : World} (h : Wrote B ts w w') (hB : B ≤ w.heap.size) : Below B w w' :=
  ⟨h.os, h.tape, h.output, h.size, fun b hb => h.block b (by omega) (Or.inl hb)⟩

/-- A list of one byte as a text. -/
theorem conv_one {P : Program} (w : World) (src dst e : TypeId) (g : Nat) (n : Int) (hs : P.underlying src = some (.slice e)) (he : P.underlying e = some (.int .u8)) (hd : P.underlying dst = some .string)
    (hc : w.cell? ⟨g, 0, none⟩ = some (.int .u8 n)) (h0 : 0 ≤ n) (h1 : n < 256) :
    (convert src dst (.slice (some ⟨g, 0, none⟩) 1 1)).run P w = .ok (.string ⟨#[n.toNat.toUInt8]⟩) w := by
  rw [run_convert_bytes_string w src dst e _ _ _ hs he hd]
  have h := run_bytesToString (P := P) w ⟨g, 0, none⟩ 1 1 [n] (by simp [loadCells, Sem.run, hc, Addr.add, go_sem])
  rw [h]
  rfl

set_option maxHeartbeats 1000000 in
theorem markText_any (k : Int) (w : World) (h0 : 0 ≤ k) (h1 : k ≤ 4611686018427387904) :
    Calls Try.prog 34 #[.int .i64 k] w fun e w' => (∃ s : ByteArray, e = .returned (.string s)) ∧ Below w.heap.size w w' := by
  by_cases hk : k ≤ 0
  · go_enter Try.func34, Try.ntmps34
    go_wp2
    go_ret
    exact ⟨⟨_, rfl⟩, Below.refl _ _⟩
  · go_enter Try.func34, Try.ntmps34
    go_wp2
    go_loopw [0, 3] (fun z o wr => ∃ (y : Int) (s : ByteArray), z = .int .i64 y ∧ o = .string s ∧ 0 ≤ y ∧ (s.size : Int) + y ≤ 4611686018427387904 ∧ Below w.heap.size w wr) (fun z _ _ => (intOf z).toNat)
    case atStart => exact ⟨k, _, rfl, rfl, h0, by show (0 : Int) + k ≤ _; omega, Below.refl _ _⟩
    case round =>
      rename World => wo
      obtain ⟨y, s, rfl, rfl, hy0, hy1, hw⟩ := hrel
      by_cases hy : 0 < y
      · have hcv := fun (W : World) (hc : W.cell? ⟨wo.heap.size, 0, none⟩ = some (.int .u8 (48 + y % 10))) => conv_one (P := Try.prog) W 76 9 5 wo.heap.size (48 + y % 10) Try.underlying76 Try.underlying5 Try.underlying9 hc (by omega) (by omega)
        have hcv1 := hcv (wo.alloc (.cells #[.int .u8 (48 + y % 10)] 5)) (by simp)
        clear hcv
        go_wp2
        refine ⟨⟨y / 10, _, rfl, rfl, by omega, ?_, hw.alloc hw.size _⟩, by simp [intOf]; omega⟩
        rw [ByteArray.size_append]
        show ((1 + s.size : Nat) : Int) + y / 10 ≤ _
        omega
      · go_wp2
        go_ret
        exact ⟨⟨_, rfl⟩, hw⟩
end Go.Proofs.Ytlabpejmmkeacau
