/- Blocks from block s on whose cells are of their kind: requests, rows of such, packs; and how memory goes on. -/
import Derived.Test.YtecipjdbfmldlabDrawB
namespace Go.Proofs.Ytecipjdbfmldlab
set_option linter.unusedVariables false
set_option linter.unusedSimpArgs false
set_option maxRecDepth 10000
open Go.RowKit Go.Deep

def GoodBy (OK : Nat → Value → Prop) (t : TypeId) (s : Nat) (w : World) (b n : Nat) : Prop :=
  s ≤ b ∧ ∃ C : Array Value, w.heap[b]? = some (.cells C t (0, 0)) ∧ C.size = n ∧ ∀ i v, C[i]? = some v → OK i v
/-- A slice of at most N elements, of 'size' cells each: nil, or from the head of a block of which G holds. -/
def SlBy (G : Nat → Nat → Prop) (size N : Nat) (v : Value) : Prop :=
  v = .slice none 0 0 ∨ ∃ g n cap, v = .slice (some ⟨g, 0, none⟩) n cap ∧ n ≤ cap ∧ n ≤ N ∧ cap ≤ maxLen ∧ G g (cap * size)
def OKs (v : Value) : Prop := ∃ x : ByteArray, v = .string x ∧ x.size ≤ maxLen
def OKi (v : Value) : Prop := ∃ z : Int, v = .int .i64 z
def OK0 (i : Nat) (v : Value) : Prop := (i % 3 = 0 → OKs v) ∧ (i % 3 ≠ 0 → OKi v)
def G0 (s : Nat) (w : World) : Nat → Nat → Prop := GoodBy OK0 71 s w
def V0 (s : Nat) (w : World) (N : Nat) : Value → Prop := SlBy (G0 s w) 3 N
def G1 (s : Nat) (w : World) (N : Nat) : Nat → Nat → Prop := GoodBy (fun _ v => V0 s w N v) 31 s w
def V1 (s : Nat) (w : World) (N : Nat) : Value → Prop := SlBy (G1 s w N) 1 N
structure OK2 (s : Nat) (w : World) (N : Nat) (i : Nat) (v : Value) : Prop where
  name : i % 6 = 0 → OKs v
  nums : i % 6 = 1 ∨ i % 6 = 2 → OKi v
  deps : i % 6 = 3 → V1 s w N v
  reqs : i % 6 = 4 ∨ i % 6 = 5 → V0 s w N v
def G2 (s : Nat) (w : World) (N : Nat) : Nat → Nat → Prop := GoodBy (OK2 s w N) 33 s w
def V2 (s : Nat) (w : World) (N : Nat) : Value → Prop := SlBy (G2 s w N) 6 N

theorem SlBy.mono {G G' : Nat → Nat → Prop} {size N N' : Nat} {v : Value} (h : SlBy G size N v) (hG : ∀ b n, G b n → G' b n) (hN : N ≤ N') : SlBy G' size N' v :=
  h.imp id fun ⟨g, n, cap, hv, h1, h2, h3, h4⟩ => ⟨g, n, cap, hv, h1, Nat.le_trans h2 hN, h3, hG _ _ h4⟩
theorem GoodBy.mono {OK OK' : Nat → Value → Prop} {t : TypeId} {s : Nat} {w w' : World} {b n : Nat} (h : GoodBy OK t s w b n) (hb : w'.heap[b]? = w.heap[b]?) (hO : ∀ i v, OK i v → OK' i v) : GoodBy OK' t s w' b n := by
  obtain ⟨hs, C, hC, hn, hk⟩ := h
  exact ⟨hs, C, hb.trans hC, hn, fun i v hv => hO i v (hk i v hv)⟩
theorem GoodBy.cells {OK : Nat → Value → Prop} {t : TypeId} {s : Nat} {w : World} {b n : Nat} (h : GoodBy OK t s w b n) : CellsOf w b t := by
  obtain ⟨hs, C, hC, hn, hk⟩ := h
  exact ⟨C, hC⟩

theorem V0.wider {s : Nat} {w : World} {N N' : Nat} {v : Value} (h : V0 s w N v) (hN : N ≤ N') : V0 s w N' v := SlBy.mono h (fun _ _ h => h) hN
theorem G1.wider {s : Nat} {w : World} {N N' b n : Nat} (h : G1 s w N b n) (hN : N ≤ N') : G1 s w N' b n := GoodBy.mono h rfl fun _ _ h => V0.wider h hN
theorem V1.wider {s : Nat} {w : World} {N N' : Nat} {v : Value} (h : V1 s w N v) (hN : N ≤ N') : V1 s w N' v := SlBy.mono h (fun _ _ h => G1.wider h hN) hN
theorem OK2.wider {s : Nat} {w : World} {N N' i : Nat} {v : Value} (h : OK2 s w N i v) (hN : N ≤ N') : OK2 s w N' i v := ⟨h.name, h.nums, fun hi => (h.deps hi).wider hN, fun hi => (h.reqs hi).wider hN⟩
theorem G2.wider {s : Nat} {w : World} {N N' b n : Nat} (h : G2 s w N b n) (hN : N ≤ N') : G2 s w N' b n := GoodBy.mono h rfl fun _ _ h => OK2.wider h hN
theorem V2.wider {s : Nat} {w : World} {N N' : Nat} {v : Value} (h : V2 s w N v) (hN : N ≤ N') : V2 s w N' v := SlBy.mono h (fun _ _ h => G2.wider h hN) hN

/-- A type that no block of the drawn data bears. -/
def Alien (t : TypeId) : Prop := t ≠ 71 ∧ t ≠ 31 ∧ t ≠ 33 ∧ t ≠ 73
/-- From w to w': below block s the reader alone is written; what is good at level N is good at level N'. -/
structure Ev (B s N N' : Nat) (w w' : World) : Prop where
  os : w'.os = w.os
  tape : w'.tape = w.tape
  output : w'.output = w.output
  size : w.heap.size ≤ w'.heap.size
  old : ∀ b, b < w.heap.size → b < s → (b < B ∨ ¬ CellsOf w b 73) → w'.heap[b]? = w.heap[b]?
  rd : ∀ b n, Row w b 73 n → Row w' b 73 n
  other : ∀ b t, CellsOf w b t → Alien t → w'.heap[b]? = w.heap[b]?
  le : N ≤ N'
  g0 : ∀ b n, G0 s w b n → G0 s w' b n
  g1 : ∀ b n, G1 s w N b n → G1 s w' N' b n
  g2 : ∀ b n, G2 s w N b n → G2 s w' N' b n

theorem V0.ev {B s N N' : Nat} {w w' : World} {v : Value} (h : V0 s w N v) (e : Ev B s N N' w w') : V0 s w' N' v := SlBy.mono h e.g0 e.le
theorem V1.ev {B s N N' : Nat} {w w' : World} {v : Value} (h : V1 s w N v) (e : Ev B s N N' w w') : V1 s w' N' v := SlBy.mono h e.g1 e.le
theorem V2.ev {B s N N' : Nat} {w w' : World} {v : Value} (h : V2 s w N v) (e : Ev B s N N' w w') : V2 s w' N' v := SlBy.mono h e.g2 e.le

theorem Ev.trans {B s N N' N'' : Nat} {x y z : World} (h : Ev B s N N' x y) (k : Ev B s N' N'' y z) : Ev B s N N'' x z :=
  ⟨k.os.trans h.os, k.tape.trans h.tape, k.output.trans h.output, Nat.le_trans h.size k.size,
   fun b hb hs hc => by
     have e := h.old b hb hs hc
     exact (k.old b (Nat.lt_of_lt_of_le hb h.size) hs (hc.imp id fun hn hc => hn (hc.of_block e.symm))).trans e,
   fun b n hr => k.rd b n (h.rd b n hr), fun b t hc ht => (k.other b t (hc.of_block (h.other b t hc ht)) ht).trans (h.other b t hc ht), Nat.le_trans h.le k.le, fun b n hg => k.g0 b n (h.g0 b n hg), fun b n hg => k.g1 b n (h.g1 b n hg), fun b n hg => k.g2 b n (h.g2 b n hg)⟩
theorem Ev.more {B s N N' M : Nat} {x y : World} (h : Ev B s N N' x y) (hd : N' ≤ M) : Ev B s N M x y :=
  ⟨h.os, h.tape, h.output, h.size, h.old, h.rd, h.other, Nat.le_trans h.le hd, h.g0, fun b n hg => (h.g1 b n hg).wider hd, fun b n hg => (h.g2 b n hg).wider hd⟩

/-- Where every good block is as it was. -/
theorem Ev.of_same {B s N : Nat} {x y : World} (h1 : y.os = x.os) (h2 : y.tape = x.tape) (h3 : y.output = x.output) (h4 : x.heap.size ≤ y.heap.size)
    (ho : ∀ b, b < x.heap.size → b < s → (b < B ∨ ¬ CellsOf x b 73) → y.heap[b]? = x.heap[b]?) (hr : ∀ b n, Row x b 73 n → Row y b 73 n)
    (hs : ∀ b t, s ≤ b → CellsOf x b t → t ≠ 73 → y.heap[b]? = x.heap[b]?) : Ev B s N N x y := by
  have k0 : ∀ b n, G0 s x b n → G0 s y b n := fun b n h => GoodBy.mono h (hs b _ h.1 (GoodBy.cells h) (by decide)) fun _ _ h => h
  have v0 : ∀ v, V0 s x N v → V0 s y N v := fun v h => SlBy.mono h k0 (Nat.le_refl _)
  have k1 : ∀ b n, G1 s x N b n → G1 s y N b n := fun b n h => GoodBy.mono h (hs b _ h.1 (GoodBy.cells h) (by decide)) fun _ _ h => v0 _ h
  have v1 : ∀ v, V1 s x N v → V1 s y N v := fun v h => SlBy.mono h k1 (Nat.le_refl _)
  have k2 : ∀ b n, G2 s x N b n → G2 s y N b n := fun b n h => GoodBy.mono h (hs b _ h.1 (GoodBy.cells h) (by decide)) fun _ _ h => ⟨h.name, h.nums, fun hi => v1 _ (h.deps hi), fun hi => v0 _ (h.reqs hi)⟩
  refine ⟨h1, h2, h3, h4, ho, hr, fun b t hc ht => ?_, Nat.le_refl _, k0, k1, k2⟩
  by_cases e : b < s
  · exact ho b hc.lt e (Or.inr fun hr => ht.2.2.2 (hc.one hr))
  · exact hs b t (by omega) hc ht.2.2.2
theorem Ev.of_wrote {B s N : Nat} {x y : World} (h : Wrote B isRd x y) : Ev B s N N x y :=
  Ev.of_same h.os h.tape h.output h.size (fun b hb _ hc => h.block b hb (hc.imp id fun hn t ht hc => hn (by rw [show t = 73 from ht] at hc; exact hc))) (fun b n hr => h.shape b _ n hr) (fun b t _ hc ht => h.other hc ht)
theorem Ev.of_below {B s N : Nat} {x y : World} (h : Below x.heap.size x y) : Ev B s N N x y := Ev.of_wrote (Wrote.of_below h)
theorem Ev.refl (B s N : Nat) (x : World) : Ev B s N N x x := Ev.of_below (Below.refl _ _)

/-- A block written anew, in place, stays good if its new cells are. -/
theorem Ev.of_row {B s N N' : Nat} {x y : World} {g : Nat} {t : TypeId} {C C' : Array Value} (hal : ¬ Alien t) (hg : s ≤ g) (hle : N ≤ N') (hC : x.heap[g]? = some (.cells C t (0, 0))) (hC' : y.heap[g]? = some (.cells C' t (0, 0))) (hsz : C'.size = C.size)
    (h1 : y.os = x.os) (h2 : y.tape = x.tape) (h3 : y.output = x.output) (h4 : x.heap.size ≤ y.heap.size) (ho : ∀ b, b ≠ g → b < x.heap.size → y.heap[b]? = x.heap[b]?)
    (k0 : t = 71 → (∀ (i : Nat) (v : Value), C[i]? = some v → OK0 i v) → ∀ (i : Nat) (v : Value), C'[i]? = some v → OK0 i v)
    (k1 : t = 31 → (∀ b n, G0 s x b n → G0 s y b n) → (∀ (i : Nat) (v : Value), C[i]? = some v → V0 s x N v) → ∀ (i : Nat) (v : Value), C'[i]? = some v → V0 s y N' v)
    (k2 : t = 33 → (∀ b n, G0 s x b n → G0 s y b n) → (∀ b n, G1 s x N b n → G1 s y N' b n) → (∀ (i : Nat) (v : Value), C[i]? = some v → OK2 s x N i v) → ∀ (i : Nat) (v : Value), C'[i]? = some v → OK2 s y N' i v) : Ev B s N N' x y := by
  have one : ∀ {u : TypeId} {D : Array Value}, x.heap[g]? = some (.cells D u (0, 0)) → u = t ∧ D = C := fun h => by
    rw [hC] at h
    simp at h
    exact ⟨h.2.symm, h.1.symm⟩
  have a0 : ∀ b n, G0 s x b n → G0 s y b n := fun b n h => by
    by_cases e : b = g
    · subst e
      obtain ⟨hs, D, hD, hn, hk⟩ := h
      obtain ⟨ht, rfl⟩ := one hD
      subst ht
      exact ⟨hs, C', hC', by omega, k0 rfl hk⟩
    · exact GoodBy.mono h (ho b e (GoodBy.cells h).lt) fun _ _ h => h
  have w0 : ∀ v, V0 s x N v → V0 s y N' v := fun v h => SlBy.mono h a0 hle
  have a1 : ∀ b n, G1 s x N b n → G1 s y N' b n := fun b n h => by
    by_cases e : b = g
    · subst e
      obtain ⟨hs, D, hD, hn, hk⟩ := h
      obtain ⟨ht, rfl⟩ := one hD
      subst ht
      exact ⟨hs, C', hC', by omega, k1 rfl a0 hk⟩
    · exact GoodBy.mono h (ho b e (GoodBy.cells h).lt) fun _ _ h => w0 _ h
  have w1 : ∀ v, V1 s x N v → V1 s y N' v := fun v h => SlBy.mono h a1 hle
  have a2 : ∀ b n, G2 s x N b n → G2 s y N' b n := fun b n h => by
    by_cases e : b = g
    · subst e
      obtain ⟨hs, D, hD, hn, hk⟩ := h
      obtain ⟨ht, rfl⟩ := one hD
      subst ht
      exact ⟨hs, C', hC', by omega, k2 rfl a0 a1 hk⟩
    · exact GoodBy.mono h (ho b e (GoodBy.cells h).lt) fun _ _ h => ⟨h.name, h.nums, fun hi => w1 _ (h.deps hi), fun hi => w0 _ (h.reqs hi)⟩
  refine ⟨h1, h2, h3, h4, fun b hb hs _ => ho b (by omega) hb, fun b n hr => ?_, fun b u hc hu => ho b (fun e => hal (by subst e; rw [CellsOf.one ⟨C, hC⟩ hc]; exact hu)) hc.lt, hle, a0, a1, a2⟩
  by_cases e : b = g
  · subst e
    obtain ⟨D, hD, hn⟩ := hr
    obtain ⟨ht, rfl⟩ := one hD
    subst ht
    exact ⟨C', hC', by omega⟩
  · exact hr.of_block (ho b e hr.lt)
end Go.Proofs.Ytecipjdbfmldlab
