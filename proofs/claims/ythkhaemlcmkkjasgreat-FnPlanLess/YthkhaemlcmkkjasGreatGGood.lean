/- Blocks from block s on whose cells are of their kind: requests, rows of such, packs; and how memory goes on. The specification's drawn rows of requests. Append onto slices of good blocks. -/
import Derived.Test.YthkhaemlcmkkjasGreatGDrawB
import Derived.OwnWalk
import Derived.Test.YthkhaemlcmkkjasGreatGGrow
namespace Go.Proofs.YthkhaemlcmkkjasGreat
set_option linter.unusedVariables false
set_option linter.unusedSimpArgs false
set_option maxRecDepth 10000
open Go.RowKit Go.Deep

def GoodBy (OK : Nat → Value → Prop) (t : TypeId) (s : Nat) (w : World) (b n : Nat) : Prop :=
  s ≤ b ∧ ∃ C : Array Value, w.heap[b]? = some (.cells C t (0, 0)) ∧ C.size = n ∧ ∀ i v, C[i]? = some v → OK i v
/-- A slice of at most N elements, of 'size' cells each: nil, or from the head of a block of which G holds. -/
def SlBy (G : Nat → Nat → Prop) (size N : Nat) (v : Value) : Prop :=
  v = .slice none 0 0 ∨ ∃ g n cap, v = .slice (some ⟨g, 0, none⟩) n cap ∧ n ≤ cap ∧ n ≤ N ∧ cap ≤ maxLen ∧ G g (cap * size)
def OKs (v : Value) : Prop := ∃ x : ByteArray, v = .string x ∧ x.size ≤ maxLen
def OKi (v : Value) : Prop := ∃ z : Int, v = .int .i64 z
def OK0 (i : Nat) (v : Value) : Prop := (i % 3 = 0 → OKs v) ∧ (i % 3 ≠ 0 → OKi v)
def G0 (s : Nat) (w : World) : Nat → Nat → Prop := GoodBy OK0 97 s w
def V0 (s : Nat) (w : World) (N : Nat) : Value → Prop := SlBy (G0 s w) 3 N
def G1 (s : Nat) (w : World) (N : Nat) : Nat → Nat → Prop := GoodBy (fun _ v => V0 s w N v) 64 s w
def V1 (s : Nat) (w : World) (N : Nat) : Value → Prop := SlBy (G1 s w N) 1 N
structure OK2 (s : Nat) (w : World) (N : Nat) (i : Nat) (v : Value) : Prop where
  name : i % 6 = 0 → OKs v
  nums : i % 6 = 1 ∨ i % 6 = 2 → OKi v
  deps : i % 6 = 3 → V1 s w N v
  reqs : i % 6 = 4 ∨ i % 6 = 5 → V0 s w N v
def G2 (s : Nat) (w : World) (N : Nat) : Nat → Nat → Prop := GoodBy (OK2 s w N) 66 s w
def V2 (s : Nat) (w : World) (N : Nat) : Value → Prop := SlBy (G2 s w N) 6 N

theorem SlBy.mono {G G' : Nat → Nat → Prop} {size N N' : Nat} {v : Value} (h : SlBy G size N v) (hG : ∀ b n, G b n → G' b n) (hN : N ≤ N') : SlBy G' size N' v :=
  h.imp id fun ⟨g, n, cap, hv, h1, h2, h3, h4⟩ => ⟨g, n, cap, hv, h1, Nat.le_trans h2 hN, h3, hG _ _ h4⟩
theorem GoodBy.mono {OK OK' : Nat → Value → Prop} {t : TypeId} {s : Nat} {w w' : World} {b n : Nat} (h : GoodBy OK t s w b n) (hb : w'.heap[b]? = w.heap[b]?) (hO : ∀ i v, OK i v → OK' i v) : GoodBy OK' t s w' b n := by
  obtain ⟨hs, C, hC, hn, hk⟩ := h
  exact ⟨hs, C, hb.trans hC, hn, fun i v hv => hO i v (hk i v hv)⟩
theorem GoodBy.cells {OK : Nat → Value → Prop} {t : TypeId} {s : Nat} {w : World} {b n : Nat} (h : GoodBy OK t s w b n) : CellsOf w b t := by
  obtain ⟨hs, C, hC, hn, hk⟩ := h
  exact ⟨C, hC⟩

theorem V0.wider {s : Nat} {w : World} {N N' : Nat} {v : Value} (h : V0 s w N v) (hN : N ≤ N') : V0 s w N' v := SlBy.mono h (fun _ _ h => h) hN
theorem G1.wider {s : Nat} {w : World} {N N' b n : Nat} (h : G1 s w N b n) (hN : N ≤ N') : G1 s w N' b n := GoodBy.mono h rfl fun _ _ h => V0.wider h hN
theorem V1.wider {s : Nat} {w : World} {N N' : Nat} {v : Value} (h : V1 s w N v) (hN : N ≤ N') : V1 s w N' v := SlBy.mono h (fun _ _ h => G1.wider h hN) hN
theorem OK2.wider {s : Nat} {w : World} {N N' i : Nat} {v : Value} (h : OK2 s w N i v) (hN : N ≤ N') : OK2 s w N' i v := ⟨h.name, h.nums, fun hi => (h.deps hi).wider hN, fun hi => (h.reqs hi).wider hN⟩
theorem G2.wider {s : Nat} {w : World} {N N' b n : Nat} (h : G2 s w N b n) (hN : N ≤ N') : G2 s w N' b n := GoodBy.mono h rfl fun _ _ h => OK2.wider h hN
theorem V2.wider {s : Nat} {w : World} {N N' : Nat} {v : Value} (h : V2 s w N v) (hN : N ≤ N') : V2 s w N' v := SlBy.mono h (fun _ _ h => G2.wider h hN) hN

/-- A type that no block of the drawn data bears. -/
def Alien (t : TypeId) : Prop := t ≠ 97 ∧ t ≠ 64 ∧ t ≠ 66 ∧ t ≠ 70
/-- From w to w': below block s the reader alone is written; what is good at level N is good at level N'. -/
structure Ev (B s N N' : Nat) (w w' : World) : Prop where
  os : w'.os = w.os
  tape : w'.tape = w.tape
  output : w'.output = w.output
  size : w.heap.size ≤ w'.heap.size
  old : ∀ b, b < w.heap.size → b < s → (b < B ∨ ¬ CellsOf w b 70) → w'.heap[b]? = w.heap[b]?
  rd : ∀ b n, Row w b 70 n → Row w' b 70 n
  other : ∀ b t, CellsOf w b t → Alien t → w'.heap[b]? = w.heap[b]?
  le : N ≤ N'
  g0 : ∀ b n, G0 s w b n → G0 s w' b n
  g1 : ∀ b n, G1 s w N b n → G1 s w' N' b n
  g2 : ∀ b n, G2 s w N b n → G2 s w' N' b n

theorem V0.ev {B s N N' : Nat} {w w' : World} {v : Value} (h : V0 s w N v) (e : Ev B s N N' w w') : V0 s w' N' v := SlBy.mono h e.g0 e.le
theorem V1.ev {B s N N' : Nat} {w w' : World} {v : Value} (h : V1 s w N v) (e : Ev B s N N' w w') : V1 s w' N' v := SlBy.mono h e.g1 e.le
theorem V2.ev {B s N N' : Nat} {w w' : World} {v : Value} (h : V2 s w N v) (e : Ev B s N N' w w') : V2 s w' N' v := SlBy.mono h e.g2 e.le

theorem Ev.trans {B s N N' N'' : Nat} {x y z : World} (h : Ev B s N N' x y) (k : Ev B s N' N'' y z) : Ev B s N N'' x z :=
  ⟨k.os.trans h.os, k.tape.trans h.tape, k.output.trans h.output, Nat.le_trans h.size k.size,
   fun b hb hs hc => by
     have e := h.old b hb hs hc
     exact (k.old b (Nat.lt_of_lt_of_le hb h.size) hs (hc.imp id fun hn hc => hn (hc.of_block e.symm))).trans e,
   fun b n hr => k.rd b n (h.rd b n hr), fun b t hc ht => (k.other b t (hc.of_block (h.other b t hc ht)) ht).trans (h.other b t hc ht), Nat.le_trans h.le k.le, fun b n hg => k.g0 b n (h.g0 b n hg), fun b n hg => k.g1 b n (h.g1 b n hg), fun b n hg => k.g2 b n (h.g2 b n hg)⟩
theorem Ev.more {B s N N' M : Nat} {x y : World} (h : Ev B s N N' x y) (hd : N' ≤ M) : Ev B s N M x y :=
  ⟨h.os, h.tape, h.output, h.size, h.old, h.rd, h.other, Nat.le_trans h.le hd, h.g0, fun b n hg => (h.g1 b n hg).wider hd, fun b n hg => (h.g2 b n hg).wider hd⟩

/-- Where every good block is as it was. -/
theorem Ev.of_same {B s N : Nat} {x y : World} (h1 : y.os = x.os) (h2 : y.tape = x.tape) (h3 : y.output = x.output) (h4 : x.heap.size ≤ y.heap.size)
    (ho : ∀ b, b < x.heap.size → b < s → (b < B ∨ ¬ CellsOf x b 70) → y.heap[b]? = x.heap[b]?) (hr : ∀ b n, Row x b 70 n → Row y b 70 n)
    (hs : ∀ b t, s ≤ b → CellsOf x b t → t ≠ 70 → y.heap[b]? = x.heap[b]?) : Ev B s N N x y := by
  have k0 : ∀ b n, G0 s x b n → G0 s y b n := fun b n h => GoodBy.mono h (hs b _ h.1 (GoodBy.cells h) (by decide)) fun _ _ h => h
  have v0 : ∀ v, V0 s x N v → V0 s y N v := fun v h => SlBy.mono h k0 (Nat.le_refl _)
  have k1 : ∀ b n, G1 s x N b n → G1 s y N b n := fun b n h => GoodBy.mono h (hs b _ h.1 (GoodBy.cells h) (by decide)) fun _ _ h => v0 _ h
  have v1 : ∀ v, V1 s x N v → V1 s y N v := fun v h => SlBy.mono h k1 (Nat.le_refl _)
  have k2 : ∀ b n, G2 s x N b n → G2 s y N b n := fun b n h => GoodBy.mono h (hs b _ h.1 (GoodBy.cells h) (by decide)) fun _ _ h => ⟨h.name, h.nums, fun hi => v1 _ (h.deps hi), fun hi => v0 _ (h.reqs hi)⟩
  refine ⟨h1, h2, h3, h4, ho, hr, fun b t hc ht => ?_, Nat.le_refl _, k0, k1, k2⟩
  by_cases e : b < s
  · exact ho b hc.lt e (Or.inr fun hr => ht.2.2.2 (hc.one hr))
  · exact hs b t (by omega) hc ht.2.2.2
theorem Ev.of_wrote {B s N : Nat} {x y : World} (h : Wrote B isRd x y) : Ev B s N N x y :=
  Ev.of_same h.os h.tape h.output h.size (fun b hb _ hc => h.block b hb (hc.imp id fun hn t ht hc => hn (by rw [show t = 70 from ht] at hc; exact hc))) (fun b n hr => h.shape b _ n hr) (fun b t _ hc ht => h.other hc ht)
theorem Ev.of_below {B s N : Nat} {x y : World} (h : Below x.heap.size x y) : Ev B s N N x y := Ev.of_wrote (Wrote.of_below h)
theorem Ev.refl (B s N : Nat) (x : World) : Ev B s N N x x := Ev.of_below (Below.refl _ _)

/-- A block written anew, in place, stays good if its new cells are. -/
theorem Ev.of_row {B s N N' : Nat} {x y : World} {g : Nat} {t : TypeId} {C C' : Array Value} (hal : ¬ Alien t) (hg : s ≤ g) (hle : N ≤ N') (hC : x.heap[g]? = some (.cells C t (0, 0))) (hC' : y.heap[g]? = some (.cells C' t (0, 0))) (hsz : C'.size = C.size)
    (h1 : y.os = x.os) (h2 : y.tape = x.tape) (h3 : y.output = x.output) (h4 : x.heap.size ≤ y.heap.size) (ho : ∀ b, b ≠ g → b < x.heap.size → y.heap[b]? = x.heap[b]?)
    (k0 : t = 97 → (∀ (i : Nat) (v : Value), C[i]? = some v → OK0 i v) → ∀ (i : Nat) (v : Value), C'[i]? = some v → OK0 i v)
    (k1 : t = 64 → (∀ b n, G0 s x b n → G0 s y b n) → (∀ (i : Nat) (v : Value), C[i]? = some v → V0 s x N v) → ∀ (i : Nat) (v : Value), C'[i]? = some v → V0 s y N' v)
    (k2 : t = 66 → (∀ b n, G0 s x b n → G0 s y b n) → (∀ b n, G1 s x N b n → G1 s y N' b n) → (∀ (i : Nat) (v : Value), C[i]? = some v → OK2 s x N i v) → ∀ (i : Nat) (v : Value), C'[i]? = some v → OK2 s y N' i v) : Ev B s N N' x y := by
  have one : ∀ {u : TypeId} {D : Array Value}, x.heap[g]? = some (.cells D u (0, 0)) → u = t ∧ D = C := fun h => by
    rw [hC] at h
    simp at h
    exact ⟨h.2.symm, h.1.symm⟩
  have a0 : ∀ b n, G0 s x b n → G0 s y b n := fun b n h => by
    by_cases e : b = g
    · subst e
      obtain ⟨hs, D, hD, hn, hk⟩ := h
      obtain ⟨ht, rfl⟩ := one hD
      subst ht
      exact ⟨hs, C', hC', by omega, k0 rfl hk⟩
    · exact GoodBy.mono h (ho b e (GoodBy.cells h).lt) fun _ _ h => h
  have w0 : ∀ v, V0 s x N v → V0 s y N' v := fun v h => SlBy.mono h a0 hle
  have a1 : ∀ b n, G1 s x N b n → G1 s y N' b n := fun b n h => by
    by_cases e : b = g
    · subst e
      obtain ⟨hs, D, hD, hn, hk⟩ := h
      obtain ⟨ht, rfl⟩ := one hD
      subst ht
      exact ⟨hs, C', hC', by omega, k1 rfl a0 hk⟩
    · exact GoodBy.mono h (ho b e (GoodBy.cells h).lt) fun _ _ h => w0 _ h
  have w1 : ∀ v, V1 s x N v → V1 s y N' v := fun v h => SlBy.mono h a1 hle
  have a2 : ∀ b n, G2 s x N b n → G2 s y N' b n := fun b n h => by
    by_cases e : b = g
    · subst e
      obtain ⟨hs, D, hD, hn, hk⟩ := h
      obtain ⟨ht, rfl⟩ := one hD
      subst ht
      exact ⟨hs, C', hC', by omega, k2 rfl a0 a1 hk⟩
    · exact GoodBy.mono h (ho b e (GoodBy.cells h).lt) fun _ _ h => ⟨h.name, h.nums, fun hi => w1 _ (h.deps hi), fun hi => w0 _ (h.reqs hi)⟩
  refine ⟨h1, h2, h3, h4, fun b hb hs _ => ho b (by omega) hb, fun b n hr => ?_, fun b u hc hu => ho b (fun e => hal (by subst e; rw [CellsOf.one ⟨C, hC⟩ hc]; exact hu)) hc.lt, hle, a0, a1, a2⟩
  by_cases e : b = g
  · subst e
    obtain ⟨D, hD, hn⟩ := hr
    obtain ⟨ht, rfl⟩ := one hD
    subst ht
    exact ⟨C', hC', by omega⟩
  · exact hr.of_block (ho b e hr.lt)
end Go.Proofs.YthkhaemlcmkkjasGreat

namespace Go.Proofs.YthkhaemlcmkkjasGreat
set_option linter.unusedVariables false
set_option linter.unusedSimpArgs false
set_option maxRecDepth 10000
open Go.RowKit Go.Deep

def reqVals (q : ReqD) : List Value := [.string q.name, .int .i64 q.low, .int .i64 q.high]
theorem Tryz.infoReq : (Tryz.prog.info? 97).map (fun i => (i.zero, i.size, i.bytes)) = some (some (.agg #[.string ⟨#[]⟩, .int .i64 0, .int .i64 0]), 3, 32) := by kernel_rfl

theorem Wrote.grown {B : Nat} {ts : TypeId → Prop} {a w w' : World} {row : Option Nat} (h : Wrote B ts a w) (hg : w.grownBy w' row) (hrow : ∀ k, row = some k → a.heap.size ≤ k) : Wrote B ts a w' := by
  have e : ∀ b, b < a.heap.size → w'.heap[b]? = w.heap[b]? := fun b hb => hg.block b (Nat.lt_of_lt_of_le hb h.size) (fun x => by have := hrow b x.symm; omega)
  exact ⟨hg.os.trans h.os, hg.tape.trans h.tape, hg.output.trans h.output, Nat.le_trans h.size hg.size, fun b hb hc => (e b hb).trans (h.block b hb hc), fun b t n hr => (h.shape b t n hr).of_block (e b hr.lt)⟩
theorem Rd.grown {B : Nat} {w w' : World} {rb : Nat} {m : Int} {row : Option Nat} (h : Rd B w rb m) (hg : w.grownBy w' row) (hrow : ∀ k, row = some k → rb < k) : Rd B w' rb m := by
  have e : ∀ b, b ≤ rb → w'.heap[b]? = w.heap[b]? := fun b hb => hg.block b (Nat.lt_of_le_of_lt hb h.lt) (fun x => by have := hrow b x.symm; omega)
  exact h.on hg.size (fun b hb => e b (by have := h.past; omega)) (e rb (Nat.le_refl _))
end Go.Proofs.YthkhaemlcmkkjasGreat

namespace Go.Proofs.YthkhaemlcmkkjasGreat
set_option linter.unusedVariables false
set_option linter.unusedSimpArgs false
set_option maxRecDepth 10000
open Go.RowKit Go.Deep

theorem Tryz.infoRow : (Tryz.prog.info? 64).map (fun i => (i.zero, i.size, i.bytes)) = some (some (.slice none 0 0), 1, 24) := by kernel_rfl
theorem Tryz.infoPack : (Tryz.prog.info? 66).map (fun i => (i.zero, i.size, i.bytes)) = some (some (.agg #[.string ⟨#[]⟩, .int .i64 0, .int .i64 0, .slice none 0 0, .slice none 0 0, .slice none 0 0]), 6, 104) := by kernel_rfl

theorem SlBy.open {OK : Nat → Value → Prop} {t : TypeId} {s size N : Nat} {w : World} {v : Value} (h : SlBy (GoodBy OK t s w) size N v) :
    ∃ n, n ≤ N ∧ ((v = .slice none 0 0 ∧ n = 0) ∨ ∃ (g cap : Nat) (C : Array Value), v = .slice (some ⟨g, 0, none⟩) n cap ∧ w.heap[g]? = some (.cells C t (0, 0)) ∧ n ≤ cap ∧ cap ≤ maxLen ∧ C.size = cap * size ∧ ∀ (i : Nat) u, C[i]? = some u → OK i u) := by
  rcases h with h | ⟨g, n, cap, hv, h1, h2, h3, hs, C, hC, hn, hk⟩
  · exact ⟨0, Nat.zero_le _, Or.inl ⟨h, rfl⟩⟩
  · exact ⟨n, h2, Or.inr ⟨g, cap, C, hv, hC, h1, h3, hn, hk⟩⟩
theorem SlBy.base {OK : Nat → Value → Prop} {t : TypeId} {s size N n cap g : Nat} {w : World} {v : Value} (h : SlBy (GoodBy OK t s w) size N v) (hv : v = .slice (some ⟨g, 0, none⟩) n cap) : s ≤ g := by
  rcases h with h | ⟨g', n', cap', hv', _, _, _, hs, _⟩
  · rw [hv] at h; cases h
  · rw [hv] at hv'
    simp at hv'
    omega

/-- A slice that lies from block lo on. -/
def Fresh (lo : Nat) (v : Value) : Prop := ∀ (g n c : Nat), v = .slice (some ⟨g, 0, none⟩) n c → lo ≤ g
theorem Fresh.of {lo g n c : Nat} (h : lo ≤ g) : Fresh lo (.slice (some ⟨g, 0, none⟩) n c) := fun g' n' c' e => by
  simp at e
  omega
theorem Fresh.nil (lo : Nat) : Fresh lo (.slice none 0 0) := fun g' n' c' e => by simp at e

theorem okzero3 : ∀ (j : Nat) u, (Value.agg #[.string ⟨#[]⟩, .int .i64 0, .int .i64 0]).cells[j]? = some u → ∀ k, OK0 (k * 3 + j) u := by
  intro j u hu k
  have hc : (Value.agg #[.string ⟨#[]⟩, .int .i64 0, .int .i64 0]).cells = #[.string ⟨#[]⟩, .int .i64 0, .int .i64 0] := by first | rfl | kernel_rfl | simp [Value.cells]
  rw [hc] at hu
  match j, hu with
  | 0, hu => simp at hu; subst hu; exact ⟨fun _ => ⟨_, rfl, Nat.zero_le _⟩, fun h => absurd (by omega) h⟩
  | 1, hu => simp at hu; subst hu; exact ⟨fun h => absurd h (by omega), fun _ => ⟨_, rfl⟩⟩
  | 2, hu => simp at hu; subst hu; exact ⟨fun h => absurd h (by omega), fun _ => ⟨_, rfl⟩⟩

theorem append_V0 {B s N : Nat} (w : World) (ty : TypeId) (v : Value) (hv : V0 s w N v) (hs : s ≤ w.heap.size) (hN : N ≤ 1000000) (ad : Addr) (c : Nat) (q : ReqD) (hq : q.name.size ≤ maxLen)
    (hnews : ∀ j u, (reqVals q)[j]? = some u → w.cell? (ad.add j) = some u) :
    ∃ v' w', (Builtin.append_ #[64, 64] ty #[v, .slice (some ad) 1 c]).run Tryz.prog w = .ok v' w' ∧ V0 s w' (N + 1) v' ∧ Ev B s N (N + 1) w w' ∧ (∀ b, b < s → w'.heap[b]? = w.heap[b]?) ∧ (∀ b t, CellsOf w b t → t ≠ 97 → w'.heap[b]? = w.heap[b]?) ∧ (∀ lo, lo ≤ w.heap.size → Fresh lo v → Fresh lo v' ∧ ∀ b, b < lo → w'.heap[b]? = w.heap[b]?) ∧ ∃ g n c, v' = .slice (some ⟨g, 0, none⟩) (n + 1) c := by
  obtain ⟨i0, hi, hz0, hz1, hz2⟩ := info_parts Tryz.infoReq
  obtain ⟨n, hn, ho⟩ := SlBy.open hv
  have h1 : ∀ j u, (reqVals q)[j]? = some u → ∀ k, OK0 (k * 3 + j) u := fun j u hu k => by
    match j, hu with
    | 0, hu => simp [reqVals] at hu; subst hu; exact ⟨fun _ => ⟨_, rfl, hq⟩, fun h => absurd (by omega) h⟩
    | 1, hu => simp [reqVals] at hu; subst hu; exact ⟨fun h => absurd h (by omega), fun _ => ⟨_, rfl⟩⟩
    | 2, hu => simp [reqVals] at hu; subst hu; exact ⟨fun h => absurd h (by omega), fun _ => ⟨_, rfl⟩⟩
  obtain ⟨g', cap', C', w', hr, hC', hc1, hc2, hc3, hk, hw⟩ := append_good (P := Tryz.prog) w 64 ty 97 i0 _ 3 32 Tryz.underlying64 hi hz0 hz1 hz2 rfl (by decide) OK0 okzero3 v n ho ad c (reqVals q) rfl hnews (by intro u hu; simp [reqVals] at hu; rcases hu with rfl | rfl | rfl <;> rfl) h1 (by unfold maxLen; omega) (by omega)
  rcases hw with ⟨hg, hb⟩ | ⟨hvv, ⟨C, hC, hCC⟩, hoth, e1, e2, e3, e4⟩
  · exact ⟨_, w', hr, Or.inr ⟨g', n + 1, cap', rfl, hc1, by omega, hc2, by omega, C', hC', hc3, hk⟩, (Ev.of_below hb).more (Nat.le_succ _), fun b hbs => hb.block b (by omega), fun b t hc _ => hb.block b hc.lt, fun lo hl _ => ⟨Fresh.of (by omega), fun b hbl => hb.block b (by omega)⟩, _, _, _, rfl⟩
  · have hsg := SlBy.base hv hvv
    exact ⟨_, w', hr, Or.inr ⟨g', n + 1, cap', rfl, hc1, by omega, hc2, hsg, C', hC', hc3, hk⟩,
      Ev.of_row (by unfold Alien; decide) hsg (Nat.le_succ _) hC hC' hCC e1 e2 e3 (Nat.le_of_eq e4.symm) (fun b hb _ => hoth b hb) (fun _ _ => hk) (fun h => absurd h (by decide)) (fun h => absurd h (by decide)), fun b hbs => hoth b (by omega), fun b t hc ht => hoth b fun e => ht (by subst e; exact CellsOf.one hc ⟨C, hC⟩), fun lo hl hf => ⟨Fresh.of (hf _ _ _ hvv), fun b hbl => hoth b (by have := hf _ _ _ hvv; omega)⟩, _, _, _, rfl⟩

theorem append_V1 {B s N : Nat} (w : World) (ty : TypeId) (v : Value) (hv : V1 s w N v) (hs : s ≤ w.heap.size) (hN : N ≤ 1000000) (ad : Addr) (c : Nat) (u : Value) (hu : V0 s w N u) (h1c : u.oneCell' = true)
    (hnews : w.cell? ad = some u) (had : ad.add 0 = ad) :
    ∃ v' w', (Builtin.append_ #[63, 63] ty #[v, .slice (some ad) 1 c]).run Tryz.prog w = .ok v' w' ∧ V1 s w' (N + 1) v' ∧ Ev B s N (N + 1) w w' ∧ (∀ b, b < s → w'.heap[b]? = w.heap[b]?) ∧ (∀ b t, CellsOf w b t → t ≠ 64 → w'.heap[b]? = w.heap[b]?) ∧ (∀ lo, lo ≤ w.heap.size → Fresh lo v → Fresh lo v' ∧ ∀ b, b < lo → w'.heap[b]? = w.heap[b]?) ∧ ∃ g n c, v' = .slice (some ⟨g, 0, none⟩) (n + 1) c := by
  obtain ⟨i0, hi, hz0, hz1, hz2⟩ := info_parts Tryz.infoRow
  obtain ⟨n, hn, ho⟩ := SlBy.open hv
  obtain ⟨g', cap', C', w', hr, hC', hc1, hc2, hc3, hk, hw⟩ := append_good (P := Tryz.prog) w 63 ty 64 i0 _ 1 24 Tryz.underlying63 hi hz0 hz1 hz2 rfl (by decide) (fun _ x => V0 s w N x)
    (fun j x hx k => by
      have hc : (Value.slice none 0 0).cells = #[.slice none 0 0] := by first | rfl | kernel_rfl
      rw [hc] at hx
      match j, hx with
      | 0, hx => simp at hx; subst hx; exact Or.inl rfl)
    v n ho ad c [u] rfl (fun j x hx => by match j, hx with | 0, hx => simp at hx; subst hx; rw [had]; exact hnews) (by intro x hx; simp at hx; subst hx; exact h1c)
    (fun j x hx k => by match j, hx with | 0, hx => simp at hx; subst hx; exact hu) (by unfold maxLen; omega) (by omega)
  rcases hw with ⟨hg, hb⟩ | ⟨hvv, ⟨C, hC, hCC⟩, hoth, e1, e2, e3, e4⟩
  · have hE : Ev B s N (N + 1) w w' := (Ev.of_below hb).more (Nat.le_succ _)
    exact ⟨_, w', hr, Or.inr ⟨g', n + 1, cap', rfl, hc1, by omega, hc2, by omega, C', hC', hc3, fun i x hx => V0.ev (hk i x hx) hE⟩, hE, fun b hbs => hb.block b (by omega), fun b t hc _ => hb.block b hc.lt, fun lo hl _ => ⟨Fresh.of (by omega), fun b hbl => hb.block b (by omega)⟩, _, _, _, rfl⟩
  · have hsg := SlBy.base hv hvv
    have hE : Ev B s N (N + 1) w w' := Ev.of_row (by unfold Alien; decide) hsg (Nat.le_succ _) hC hC' hCC e1 e2 e3 (Nat.le_of_eq e4.symm) (fun b hb _ => hoth b hb) (fun h => absurd h (by decide)) (fun _ hg0 _ i x hx => SlBy.mono (hk i x hx) hg0 (Nat.le_succ _)) (fun h => absurd h (by decide))
    exact ⟨_, w', hr, Or.inr ⟨g', n + 1, cap', rfl, hc1, by omega, hc2, hsg, C', hC', hc3, fun i x hx => V0.ev (hk i x hx) hE⟩, hE, fun b hbs => hoth b (by omega), fun b t hc ht => hoth b fun e => ht (by subst e; exact CellsOf.one hc ⟨C, hC⟩), fun lo hl hf => ⟨Fresh.of (hf _ _ _ hvv), fun b hbl => hoth b (by have := hf _ _ _ hvv; omega)⟩, _, _, _, rfl⟩

/-- The six cells of a pack that is well laid. -/
structure PackV (s : Nat) (w : World) (N : Nat) (x : ByteArray) (a b : Value) (v1 v2 v3 : Value) : Prop where
  len : x.size ≤ maxLen
  ver : OKi a
  size : OKi b
  deps : V1 s w N v1
  pres : V0 s w N v2
  bans : V0 s w N v3
theorem PackV.ok {s N : Nat} {w : World} {x : ByteArray} {a b v1 v2 v3 : Value} (h : PackV s w N x a b v1 v2 v3) : ∀ (j : Nat) u, [.string x, a, b, v1, v2, v3][j]? = some u → ∀ k, OK2 s w N (k * 6 + j) u := by
  intro j u hu k
  match j, hu with
  | 0, hu => simp at hu; subst hu; exact ⟨fun _ => ⟨_, rfl, h.len⟩, fun e => absurd e (by omega), fun e => absurd e (by omega), fun e => absurd e (by omega)⟩
  | 1, hu => simp at hu; subst hu; exact ⟨fun e => absurd e (by omega), fun _ => h.ver, fun e => absurd e (by omega), fun e => absurd e (by omega)⟩
  | 2, hu => simp at hu; subst hu; exact ⟨fun e => absurd e (by omega), fun _ => h.size, fun e => absurd e (by omega), fun e => absurd e (by omega)⟩
  | 3, hu => simp at hu; subst hu; exact ⟨fun e => absurd e (by omega), fun e => absurd e (by omega), fun _ => h.deps, fun e => absurd e (by omega)⟩
  | 4, hu => simp at hu; subst hu; exact ⟨fun e => absurd e (by omega), fun e => absurd e (by omega), fun e => absurd e (by omega), fun _ => h.pres⟩
  | 5, hu => simp at hu; subst hu; exact ⟨fun e => absurd e (by omega), fun e => absurd e (by omega), fun e => absurd e (by omega), fun _ => h.bans⟩

theorem OK2.ev {B s N N' i : Nat} {w w' : World} {v : Value} (h : OK2 s w N i v) (e : Ev B s N N' w w') : OK2 s w' N' i v := ⟨h.name, h.nums, fun hi => (h.deps hi).ev e, fun hi => (h.reqs hi).ev e⟩

theorem append_V2 {B s N : Nat} (w : World) (ty : TypeId) (v : Value) (hv : V2 s w N v) (hs : s ≤ w.heap.size) (hN : N ≤ 1000000) (ad : Addr) (c : Nat) (x : ByteArray) (a b v1 v2 v3 : Value) (hp : PackV s w N x a b v1 v2 v3)
    (h1c : ∀ u ∈ [.string x, a, b, v1, v2, v3], u.oneCell' = true) (hnews : ∀ (j : Nat) u, [.string x, a, b, v1, v2, v3][j]? = some u → w.cell? (ad.add j) = some u) :
    ∃ v' w', (Builtin.append_ #[23, 23] ty #[v, .slice (some ad) 1 c]).run Tryz.prog w = .ok v' w' ∧ V2 s w' (N + 1) v' ∧ Ev B s N (N + 1) w w' ∧ (∀ b, b < s → w'.heap[b]? = w.heap[b]?) ∧ (∀ b t, CellsOf w b t → t ≠ 66 → w'.heap[b]? = w.heap[b]?) ∧ (∀ lo, lo ≤ w.heap.size → Fresh lo v → Fresh lo v' ∧ ∀ b, b < lo → w'.heap[b]? = w.heap[b]?) ∧ ∃ g n c, v' = .slice (some ⟨g, 0, none⟩) (n + 1) c := by
  obtain ⟨i0, hi, hz0, hz1, hz2⟩ := info_parts Tryz.infoPack
  obtain ⟨n, hn, ho⟩ := SlBy.open hv
  have hzero : PackV s w N ⟨#[]⟩ (.int .i64 0) (.int .i64 0) (.slice none 0 0) (.slice none 0 0) (.slice none 0 0) := ⟨Nat.zero_le _, ⟨_, rfl⟩, ⟨_, rfl⟩, Or.inl rfl, Or.inl rfl, Or.inl rfl⟩
  obtain ⟨g', cap', C', w', hr, hC', hc1, hc2, hc3, hk, hw⟩ := append_good (P := Tryz.prog) w 23 ty 66 i0 _ 6 104 Tryz.underlying23 hi hz0 hz1 hz2 rfl (by decide) (OK2 s w N)
    (fun j y hy k => by
      have hc : (Value.agg #[.string ⟨#[]⟩, .int .i64 0, .int .i64 0, .slice none 0 0, .slice none 0 0, .slice none 0 0]).cells = #[.string ⟨#[]⟩, .int .i64 0, .int .i64 0, .slice none 0 0, .slice none 0 0, .slice none 0 0] := by first | rfl | kernel_rfl
      rw [hc] at hy
      exact hzero.ok j y (by simpa using hy) k)
    v n ho ad c [.string x, a, b, v1, v2, v3] rfl hnews h1c hp.ok (by unfold maxLen; omega) (by omega)
  rcases hw with ⟨hg, hb⟩ | ⟨hvv, ⟨C, hC, hCC⟩, hoth, e1, e2, e3, e4⟩
  · have hE : Ev B s N (N + 1) w w' := (Ev.of_below hb).more (Nat.le_succ _)
    exact ⟨_, w', hr, Or.inr ⟨g', n + 1, cap', rfl, hc1, by omega, hc2, by omega, C', hC', hc3, fun i x hx => OK2.ev (hk i x hx) hE⟩, hE, fun b hbs => hb.block b (by omega), fun b t hc _ => hb.block b hc.lt, fun lo hl _ => ⟨Fresh.of (by omega), fun b hbl => hb.block b (by omega)⟩, _, _, _, rfl⟩
  · have hsg := SlBy.base hv hvv
    have hE : Ev B s N (N + 1) w w' := Ev.of_row (by unfold Alien; decide) hsg (Nat.le_succ _) hC hC' hCC e1 e2 e3 (Nat.le_of_eq e4.symm) (fun b hb _ => hoth b hb) (fun h => absurd h (by decide)) (fun h => absurd h (by decide))
      (fun _ hg0 hg1 _ i x hx => ⟨(hk i x hx).name, (hk i x hx).nums, fun h => SlBy.mono ((hk i x hx).deps h) hg1 (Nat.le_succ _), fun h => SlBy.mono ((hk i x hx).reqs h) hg0 (Nat.le_succ _)⟩)
    exact ⟨_, w', hr, Or.inr ⟨g', n + 1, cap', rfl, hc1, by omega, hc2, hsg, C', hC', hc3, fun i x hx => OK2.ev (hk i x hx) hE⟩, hE, fun b hbs => hoth b (by omega), fun b t hc ht => hoth b fun e => ht (by subst e; exact CellsOf.one hc ⟨C, hC⟩), fun lo hl hf => ⟨Fresh.of (hf _ _ _ hvv), fun b hbl => hoth b (by have := hf _ _ _ hvv; omega)⟩, _, _, _, rfl⟩
end Go.Proofs.YthkhaemlcmkkjasGreat
