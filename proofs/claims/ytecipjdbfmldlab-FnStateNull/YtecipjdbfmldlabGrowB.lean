/- Append onto slices of good blocks. -/
import Derived.Test.YtecipjdbfmldlabGrow
import Derived.Test.YtecipjdbfmldlabDrawC
namespace Go.Proofs.Ytecipjdbfmldlab
set_option linter.unusedVariables false
set_option linter.unusedSimpArgs false
set_option maxRecDepth 10000
open Go.RowKit Go.Deep

theorem Try.infoRow : (Try.prog.info? 31).map (fun i => (i.zero, i.size, i.bytes)) = some (some (.slice none 0 0), 1, 24) := by kernel_rfl
theorem Try.infoPack : (Try.prog.info? 33).map (fun i => (i.zero, i.size, i.bytes)) = some (some (.agg #[.string ⟨#[]⟩, .int .i64 0, .int .i64 0, .slice none 0 0, .slice none 0 0, .slice none 0 0]), 6, 104) := by kernel_rfl

theorem SlBy.open {OK : Nat → Value → Prop} {t : TypeId} {s size N : Nat} {w : World} {v : Value} (h : SlBy (GoodBy OK t s w) size N v) :
    ∃ n, n ≤ N ∧ ((v = .slice none 0 0 ∧ n = 0) ∨ ∃ (g cap : Nat) (C : Array Value), v = .slice (some ⟨g, 0, none⟩) n cap ∧ w.heap[g]? = some (.cells C t (0, 0)) ∧ n ≤ cap ∧ cap ≤ maxLen ∧ C.size = cap * size ∧ ∀ (i : Nat) u, C[i]? = some u → OK i u) := by
  rcases h with h | ⟨g, n, cap, hv, h1, h2, h3, hs, C, hC, hn, hk⟩
  · exact ⟨0, Nat.zero_le _, Or.inl ⟨h, rfl⟩⟩
  · exact ⟨n, h2, Or.inr ⟨g, cap, C, hv, hC, h1, h3, hn, hk⟩⟩
theorem SlBy.base {OK : Nat → Value → Prop} {t : TypeId} {s size N n cap g : Nat} {w : World} {v : Value} (h : SlBy (GoodBy OK t s w) size N v) (hv : v = .slice (some ⟨g, 0, none⟩) n cap) : s ≤ g := by
  rcases h with h | ⟨g', n', cap', hv', _, _, _, hs, _⟩
  · rw [hv] at h; cases h
  · rw [hv] at hv'
    simp at hv'
    omega

/-- A slice that lies from block lo on. -/
def Fresh (lo : Nat) (v : Value) : Prop := ∀ (g n c : Nat), v = .slice (some ⟨g, 0, none⟩) n c → lo ≤ g
theorem Fresh.of {lo g n c : Nat} (h : lo ≤ g) : Fresh lo (.slice (some ⟨g, 0, none⟩) n c) := fun g' n' c' e => by
  simp at e
  omega
theorem Fresh.nil (lo : Nat) : Fresh lo (.slice none 0 0) := fun g' n' c' e => by simp at e

theorem okzero3 : ∀ (j : Nat) u, (Value.agg #[.string ⟨#[]⟩, .int .i64 0, .int .i64 0]).cells[j]? = some u → ∀ k, OK0 (k * 3 + j) u := by
  intro j u hu k
  have hc : (Value.agg #[.string ⟨#[]⟩, .int .i64 0, .int .i64 0]).cells = #[.string ⟨#[]⟩, .int .i64 0, .int .i64 0] := by first | rfl | kernel_rfl | simp [Value.cells]
  rw [hc] at hu
  match j, hu with
  | 0, hu => simp at hu; subst hu; exact ⟨fun _ => ⟨_, rfl, Nat.zero_le _⟩, fun h => absurd (by omega) h⟩
  | 1, hu => simp at hu; subst hu; exact ⟨fun h => absurd h (by omega), fun _ => ⟨_, rfl⟩⟩
  | 2, hu => simp at hu; subst hu; exact ⟨fun h => absurd h (by omega), fun _ => ⟨_, rfl⟩⟩

theorem append_V0 {B s N : Nat} (w : World) (ty : TypeId) (v : Value) (hv : V0 s w N v) (hs : s ≤ w.heap.size) (hN : N ≤ 1000000) (ad : Addr) (c : Nat) (q : ReqD) (hq : q.name.size ≤ maxLen)
    (hnews : ∀ j u, (reqVals q)[j]? = some u → w.cell? (ad.add j) = some u) :
    ∃ v' w', (Builtin.append_ #[31, 31] ty #[v, .slice (some ad) 1 c]).run Try.prog w = .ok v' w' ∧ V0 s w' (N + 1) v' ∧ Ev B s N (N + 1) w w' ∧ (∀ b, b < s → w'.heap[b]? = w.heap[b]?) ∧ (∀ b t, CellsOf w b t → t ≠ 71 → w'.heap[b]? = w.heap[b]?) ∧ (∀ lo, lo ≤ w.heap.size → Fresh lo v → Fresh lo v' ∧ ∀ b, b < lo → w'.heap[b]? = w.heap[b]?) ∧ ∃ g n c, v' = .slice (some ⟨g, 0, none⟩) (n + 1) c := by
  obtain ⟨i0, hi, hz0, hz1, hz2⟩ := info_parts Try.infoReq
  obtain ⟨n, hn, ho⟩ := SlBy.open hv
  have h1 : ∀ j u, (reqVals q)[j]? = some u → ∀ k, OK0 (k * 3 + j) u := fun j u hu k => by
    match j, hu with
    | 0, hu => simp [reqVals] at hu; subst hu; exact ⟨fun _ => ⟨_, rfl, hq⟩, fun h => absurd (by omega) h⟩
    | 1, hu => simp [reqVals] at hu; subst hu; exact ⟨fun h => absurd h (by omega), fun _ => ⟨_, rfl⟩⟩
    | 2, hu => simp [reqVals] at hu; subst hu; exact ⟨fun h => absurd h (by omega), fun _ => ⟨_, rfl⟩⟩
  obtain ⟨g', cap', C', w', hr, hC', hc1, hc2, hc3, hk, hw⟩ := append_good (P := Try.prog) w 31 ty 71 i0 _ 3 32 Try.underlying31 hi hz0 hz1 hz2 rfl (by decide) OK0 okzero3 v n ho ad c (reqVals q) rfl hnews (by intro u hu; simp [reqVals] at hu; rcases hu with rfl | rfl | rfl <;> rfl) h1 (by unfold maxLen; omega) (by omega)
  rcases hw with ⟨hg, hb⟩ | ⟨hvv, ⟨C, hC, hCC⟩, hoth, e1, e2, e3, e4⟩
  · exact ⟨_, w', hr, Or.inr ⟨g', n + 1, cap', rfl, hc1, by omega, hc2, by omega, C', hC', hc3, hk⟩, (Ev.of_below hb).more (Nat.le_succ _), fun b hbs => hb.block b (by omega), fun b t hc _ => hb.block b hc.lt, fun lo hl _ => ⟨Fresh.of (by omega), fun b hbl => hb.block b (by omega)⟩, _, _, _, rfl⟩
  · have hsg := SlBy.base hv hvv
    exact ⟨_, w', hr, Or.inr ⟨g', n + 1, cap', rfl, hc1, by omega, hc2, hsg, C', hC', hc3, hk⟩,
      Ev.of_row (by unfold Alien; decide) hsg (Nat.le_succ _) hC hC' hCC e1 e2 e3 (Nat.le_of_eq e4.symm) (fun b hb _ => hoth b hb) (fun _ _ => hk) (fun h => absurd h (by decide)) (fun h => absurd h (by decide)), fun b hbs => hoth b (by omega), fun b t hc ht => hoth b fun e => ht (by subst e; exact CellsOf.one hc ⟨C, hC⟩), fun lo hl hf => ⟨Fresh.of (hf _ _ _ hvv), fun b hbl => hoth b (by have := hf _ _ _ hvv; omega)⟩, _, _, _, rfl⟩

theorem append_V1 {B s N : Nat} (w : World) (ty : TypeId) (v : Value) (hv : V1 s w N v) (hs : s ≤ w.heap.size) (hN : N ≤ 1000000) (ad : Addr) (c : Nat) (u : Value) (hu : V0 s w N u) (h1c : u.oneCell' = true)
    (hnews : w.cell? ad = some u) (had : ad.add 0 = ad) :
    ∃ v' w', (Builtin.append_ #[30, 30] ty #[v, .slice (some ad) 1 c]).run Try.prog w = .ok v' w' ∧ V1 s w' (N + 1) v' ∧ Ev B s N (N + 1) w w' ∧ (∀ b, b < s → w'.heap[b]? = w.heap[b]?) ∧ (∀ b t, CellsOf w b t → t ≠ 31 → w'.heap[b]? = w.heap[b]?) ∧ (∀ lo, lo ≤ w.heap.size → Fresh lo v → Fresh lo v' ∧ ∀ b, b < lo → w'.heap[b]? = w.heap[b]?) ∧ ∃ g n c, v' = .slice (some ⟨g, 0, none⟩) (n + 1) c := by
  obtain ⟨i0, hi, hz0, hz1, hz2⟩ := info_parts Try.infoRow
  obtain ⟨n, hn, ho⟩ := SlBy.open hv
  obtain ⟨g', cap', C', w', hr, hC', hc1, hc2, hc3, hk, hw⟩ := append_good (P := Try.prog) w 30 ty 31 i0 _ 1 24 Try.underlying30 hi hz0 hz1 hz2 rfl (by decide) (fun _ x => V0 s w N x)
    (fun j x hx k => by
      have hc : (Value.slice none 0 0).cells = #[.slice none 0 0] := by first | rfl | kernel_rfl
      rw [hc] at hx
      match j, hx with
      | 0, hx => simp at hx; subst hx; exact Or.inl rfl)
    v n ho ad c [u] rfl (fun j x hx => by match j, hx with | 0, hx => simp at hx; subst hx; rw [had]; exact hnews) (by intro x hx; simp at hx; subst hx; exact h1c)
    (fun j x hx k => by match j, hx with | 0, hx => simp at hx; subst hx; exact hu) (by unfold maxLen; omega) (by omega)
  rcases hw with ⟨hg, hb⟩ | ⟨hvv, ⟨C, hC, hCC⟩, hoth, e1, e2, e3, e4⟩
  · have hE : Ev B s N (N + 1) w w' := (Ev.of_below hb).more (Nat.le_succ _)
    exact ⟨_, w', hr, Or.inr ⟨g', n + 1, cap', rfl, hc1, by omega, hc2, by omega, C', hC', hc3, fun i x hx => V0.ev (hk i x hx) hE⟩, hE, fun b hbs => hb.block b (by omega), fun b t hc _ => hb.block b hc.lt, fun lo hl _ => ⟨Fresh.of (by omega), fun b hbl => hb.block b (by omega)⟩, _, _, _, rfl⟩
  · have hsg := SlBy.base hv hvv
    have hE : Ev B s N (N + 1) w w' := Ev.of_row (by unfold Alien; decide) hsg (Nat.le_succ _) hC hC' hCC e1 e2 e3 (Nat.le_of_eq e4.symm) (fun b hb _ => hoth b hb) (fun h => absurd h (by decide)) (fun _ hg0 _ i x hx => SlBy.mono (hk i x hx) hg0 (Nat.le_succ _)) (fun h => absurd h (by decide))
    exact ⟨_, w', hr, Or.inr ⟨g', n + 1, cap', rfl, hc1, by omega, hc2, hsg, C', hC', hc3, fun i x hx => V0.ev (hk i x hx) hE⟩, hE, fun b hbs => hoth b (by omega), fun b t hc ht => hoth b fun e => ht (by subst e; exact CellsOf.one hc ⟨C, hC⟩), fun lo hl hf => ⟨Fresh.of (hf _ _ _ hvv), fun b hbl => hoth b (by have := hf _ _ _ hvv; omega)⟩, _, _, _, rfl⟩

/-- The six cells of a pack that is well laid. -/
structure PackV (s : Nat) (w : World) (N : Nat) (x : ByteArray) (a b : Value) (v1 v2 v3 : Value) : Prop where
  len : x.size ≤ maxLen
  ver : OKi a
  size : OKi b
  deps : V1 s w N v1
  pres : V0 s w N v2
  bans : V0 s w N v3
theorem PackV.ok {s N : Nat} {w : World} {x : ByteArray} {a b v1 v2 v3 : Value} (h : PackV s w N x a b v1 v2 v3) : ∀ (j : Nat) u, [.string x, a, b, v1, v2, v3][j]? = some u → ∀ k, OK2 s w N (k * 6 + j) u := by
  intro j u hu k
  match j, hu with
  | 0, hu => simp at hu; subst hu; exact ⟨fun _ => ⟨_, rfl, h.len⟩, fun e => absurd e (by omega), fun e => absurd e (by omega), fun e => absurd e (by omega)⟩
  | 1, hu => simp at hu; subst hu; exact ⟨fun e => absurd e (by omega), fun _ => h.ver, fun e => absurd e (by omega), fun e => absurd e (by omega)⟩
  | 2, hu => simp at hu; subst hu; exact ⟨fun e => absurd e (by omega), fun _ => h.size, fun e => absurd e (by omega), fun e => absurd e (by omega)⟩
  | 3, hu => simp at hu; subst hu; exact ⟨fun e => absurd e (by omega), fun e => absurd e (by omega), fun _ => h.deps, fun e => absurd e (by omega)⟩
  | 4, hu => simp at hu; subst hu; exact ⟨fun e => absurd e (by omega), fun e => absurd e (by omega), fun e => absurd e (by omega), fun _ => h.pres⟩
  | 5, hu => simp at hu; subst hu; exact ⟨fun e => absurd e (by omega), fun e => absurd e (by omega), fun e => absurd e (by omega), fun _ => h.bans⟩

theorem OK2.ev {B s N N' i : Nat} {w w' : World} {v : Value} (h : OK2 s w N i v) (e : Ev B s N N' w w') : OK2 s w' N' i v := ⟨h.name, h.nums, fun hi => (h.deps hi).ev e, fun hi => (h.reqs hi).ev e⟩

theorem append_V2 {B s N : Nat} (w : World) (ty : TypeId) (v : Value) (hv : V2 s w N v) (hs : s ≤ w.heap.size) (hN : N ≤ 1000000) (ad : Addr) (c : Nat) (x : ByteArray) (a b v1 v2 v3 : Value) (hp : PackV s w N x a b v1 v2 v3)
    (h1c : ∀ u ∈ [.string x, a, b, v1, v2, v3], u.oneCell' = true) (hnews : ∀ (j : Nat) u, [.string x, a, b, v1, v2, v3][j]? = some u → w.cell? (ad.add j) = some u) :
    ∃ v' w', (Builtin.append_ #[23, 23] ty #[v, .slice (some ad) 1 c]).run Try.prog w = .ok v' w' ∧ V2 s w' (N + 1) v' ∧ Ev B s N (N + 1) w w' ∧ (∀ b, b < s → w'.heap[b]? = w.heap[b]?) ∧ (∀ b t, CellsOf w b t → t ≠ 33 → w'.heap[b]? = w.heap[b]?) ∧ (∀ lo, lo ≤ w.heap.size → Fresh lo v → Fresh lo v' ∧ ∀ b, b < lo → w'.heap[b]? = w.heap[b]?) ∧ ∃ g n c, v' = .slice (some ⟨g, 0, none⟩) (n + 1) c := by
  obtain ⟨i0, hi, hz0, hz1, hz2⟩ := info_parts Try.infoPack
  obtain ⟨n, hn, ho⟩ := SlBy.open hv
  have hzero : PackV s w N ⟨#[]⟩ (.int .i64 0) (.int .i64 0) (.slice none 0 0) (.slice none 0 0) (.slice none 0 0) := ⟨Nat.zero_le _, ⟨_, rfl⟩, ⟨_, rfl⟩, Or.inl rfl, Or.inl rfl, Or.inl rfl⟩
  obtain ⟨g', cap', C', w', hr, hC', hc1, hc2, hc3, hk, hw⟩ := append_good (P := Try.prog) w 23 ty 33 i0 _ 6 104 Try.underlying23 hi hz0 hz1 hz2 rfl (by decide) (OK2 s w N)
    (fun j y hy k => by
      have hc : (Value.agg #[.string ⟨#[]⟩, .int .i64 0, .int .i64 0, .slice none 0 0, .slice none 0 0, .slice none 0 0]).cells = #[.string ⟨#[]⟩, .int .i64 0, .int .i64 0, .slice none 0 0, .slice none 0 0, .slice none 0 0] := by first | rfl | kernel_rfl
      rw [hc] at hy
      exact hzero.ok j y (by simpa using hy) k)
    v n ho ad c [.string x, a, b, v1, v2, v3] rfl hnews h1c hp.ok (by unfold maxLen; omega) (by omega)
  rcases hw with ⟨hg, hb⟩ | ⟨hvv, ⟨C, hC, hCC⟩, hoth, e1, e2, e3, e4⟩
  · have hE : Ev B s N (N + 1) w w' := (Ev.of_below hb).more (Nat.le_succ _)
    exact ⟨_, w', hr, Or.inr ⟨g', n + 1, cap', rfl, hc1, by omega, hc2, by omega, C', hC', hc3, fun i x hx => OK2.ev (hk i x hx) hE⟩, hE, fun b hbs => hb.block b (by omega), fun b t hc _ => hb.block b hc.lt, fun lo hl _ => ⟨Fresh.of (by omega), fun b hbl => hb.block b (by omega)⟩, _, _, _, rfl⟩
  · have hsg := SlBy.base hv hvv
    have hE : Ev B s N (N + 1) w w' := Ev.of_row (by unfold Alien; decide) hsg (Nat.le_succ _) hC hC' hCC e1 e2 e3 (Nat.le_of_eq e4.symm) (fun b hb _ => hoth b hb) (fun h => absurd h (by decide)) (fun h => absurd h (by decide))
      (fun _ hg0 hg1 _ i x hx => ⟨(hk i x hx).name, (hk i x hx).nums, fun h => SlBy.mono ((hk i x hx).deps h) hg1 (Nat.le_succ _), fun h => SlBy.mono ((hk i x hx).reqs h) hg0 (Nat.le_succ _)⟩)
    exact ⟨_, w', hr, Or.inr ⟨g', n + 1, cap', rfl, hc1, by omega, hc2, hsg, C', hC', hc3, fun i x hx => OK2.ev (hk i x hx) hE⟩, hE, fun b hbs => hoth b (by omega), fun b t hc ht => hoth b fun e => ht (by subst e; exact CellsOf.one hc ⟨C, hC⟩), fun lo hl hf => ⟨Fresh.of (hf _ _ _ hvv), fun b hbl => hoth b (by have := hf _ _ _ hvv; omega)⟩, _, _, _, rfl⟩
end Go.Proofs.Ytecipjdbfmldlab
