/- Packs that came in, opened: what they hold, and how they lie in memory. -/
import Derived.Test.YthkhaemlcmkkjaxGreatGBase
import Derived.ProofKit
import Derived.OpenShut
import Derived.ChangeOld
import Derived.Deep.Slices
import Derived.Deep.Fields
import Derived.Deep.Strs
import Derived.Lib.SmallJoins
namespace Go.Proofs.YthkhaemlcmkkjaxGreat
set_option linter.unusedVariables false
set_option linter.unusedSimpArgs false
set_option maxRecDepth 10000
open Go.RowKit Go.Deep Go.ChangeShapes Go.WideShapes

theorem list_of {α : Type} {n : Nat} {p : Nat → α → Prop} (d : α) (h : ∀ i, i < n → ∃ x, p i x) : ∃ l : List α, l.length = n ∧ ∀ i, i < n → p i (l.getD i d) := by
  obtain ⟨f, hf⟩ := @choose_lt α ⟨d⟩ n p h
  refine ⟨(List.range n).map f, by simp, fun i hi => ?_⟩
  have : ((List.range n).map f).getD i d = f i := by simp [List.getD, hi]
  rw [this]
  exact hf i hi

theorem Tryz.cellsLReq : Tryz.prog.cellsOf 151 = 3 := by kernel_rfl
theorem Tryz.cellsLPack : Tryz.prog.cellsOf 98 = 6 := by kernel_rfl
theorem Tryz.cellsLReqs : Tryz.prog.cellsOf 96 = 1 := by kernel_rfl
theorem Tryz.cellsLRows : Tryz.prog.cellsOf 95 = 1 := by kernel_rfl
theorem Tryz.cellsLRepo : Tryz.prog.cellsOf 24 = 2 := by kernel_rfl
theorem Tryz.cellsInt : Tryz.prog.cellsOf 3 = 1 := by kernel_rfl
theorem Tryz.cellsStr : Tryz.prog.cellsOf 9 = 1 := by kernel_rfl
section
variable {H : Type} {enc : TypeId × Value → H} {W : World} {base : Nat} {spare : Nat → Bool} {held : Bool}

theorem open_req {n : Nat} {cs : List Value} {x : DataW H × List MemPlace} (h : DataW.trod enc Tryz.prog W base spare held n 151 cs = some x) : ∃ q : ReqD, cs = [.string q.name, .int .i64 q.low, .int .i64 q.high] ∧ q.name.size ≤ maxLen := by
  obtain ⟨xs, m, _, _, hl, hxl, hf⟩ := DataW.trod_struct Tryz.underlying151 h
  rw [Tryz.cellsLReq] at hl
  match cs, hl with
  | [v0, v1, v2], _ =>
    match xs, hxl with
    | [x0, x1, x2], _ =>
    have f0 := hf 0 _ rfl
    have f1 := hf 1 _ rfl
    have f2 := hf 2 _ rfl
    simp [Tryz.cellsStr, Tryz.cellsInt] at f0 f1 f2
    obtain ⟨s, e0, _, hs⟩ := DataW.trod_string Tryz.underlying9 f0
    obtain ⟨lo, e1, _, _⟩ := DataW.trod_int Tryz.underlying3 f1
    obtain ⟨hi, e2, _, _⟩ := DataW.trod_int Tryz.underlying3 f2
    simp at e0 e1 e2
    subst e0 e1 e2
    exact ⟨⟨s, lo, hi⟩, rfl, hs⟩

/-- The cells of an element: where they lie, as the walk spells it. -/
theorem cells_at {a : Addr} {len e c : Nat} {i : Nat} {cs : List Value} (hi : i < len) {b o : Nat} (ha : a = ⟨b, o, none⟩) (h : W.cells? base (a.add (i * c)) c = some cs) : cs.length = c ∧ ∀ j, j < c → W.cell? ⟨b, o + i * c + j, none⟩ = cs[j]? := by
  obtain ⟨_, hl, hc⟩ := World.cells?_some h
  refine ⟨hl, fun j hj => ?_⟩
  have := hc j hj
  rw [add_add, ha, add_plain] at this
  rw [← this, Nat.add_assoc]

theorem plain_of {a : Addr} {c len : Nat} {cs : List Value} (hc : 0 < c) (h : W.cells? base (a.add (0 * c)) c = some cs) : ∃ b o, a = ⟨b, o, none⟩ ∧ b < W.heap.size := by
  obtain ⟨_, hl, hcell⟩ := World.cells?_some h
  have h0 := hcell 0 hc
  rw [List.getElem?_eq_getElem (by omega)] at h0
  obtain ⟨b, o, sp⟩ := a
  have hs : sp = none := by simpa [Addr.add] using World.cell?_spot h0
  subst hs
  have := block_lt_of_cell h0
  simp [Addr.add] at this
  exact ⟨b, o, rfl, this⟩

theorem open_reqs {n : Nat} {v : Value} {x : DataW H × List MemPlace} (h : DataW.trod enc Tryz.prog W base spare held n 96 [v] = some x) : ∃ (a : Option Addr) (l : List ReqD) (cap : Nat), v = .slice a l.length cap ∧ ReqsAt (Old W) W a l := by
  rcases open_slice Tryz.underlying96 h with ⟨hcs, _⟩ | ⟨a, len, cap, m, n', D, Pl, hcs, _, hl, hm, hmm, _, hel⟩
  · simp at hcs
    exact ⟨none, [], 0, by simpa using hcs, by simp, Or.inl rfl⟩
  · simp at hcs
    rw [Tryz.cellsLReq] at hel
    by_cases h0 : len = 0
    · subst h0
      exact ⟨some a, [], cap, by simpa using hcs, by simp, Or.inl rfl⟩
    · have hlm : len ≤ m := by rw [hmm]; split <;> omega
      obtain ⟨cs0, hc0, _⟩ := hel 0 (by omega)
      obtain ⟨b, o, ha, hb⟩ := plain_of (len := len) (by omega) hc0
      obtain ⟨l, hll, hq⟩ := list_of (p := fun i q => ReqAt W b (o + i * 3) q) dReq (fun i (hi : i < len) => by
        obtain ⟨cs, hc, ht⟩ := hel i (by omega)
        obtain ⟨q, hqe, hqs⟩ := open_req ht
        obtain ⟨_, hcell⟩ := cells_at (e := 0) hi ha hc
        subst hqe
        exact ⟨q, by simpa using hcell 0 (by omega), by simpa using hcell 1 (by omega), by simpa using hcell 2 (by omega), hqs⟩)
      subst hll
      exact ⟨some a, l, cap, hcs, by omega, Or.inr ⟨b, o, by rw [ha], hb, hq⟩⟩

theorem open_rows {n : Nat} {v : Value} {x : DataW H × List MemPlace} (h : DataW.trod enc Tryz.prog W base spare held n 95 [v] = some x) : ∃ (a : Option Addr) (l : List (List ReqD)) (cap : Nat), v = .slice a l.length cap ∧ RowsAt (Old W) W a l := by
  rcases open_slice Tryz.underlying95 h with ⟨hcs, _⟩ | ⟨a, len, cap, m, n', D, Pl, hcs, _, hl, hm, hmm, _, hel⟩
  · simp at hcs
    exact ⟨none, [], 0, by simpa using hcs, by simp, Or.inl rfl⟩
  · simp at hcs
    rw [Tryz.cellsLReqs] at hel
    by_cases h0 : len = 0
    · subst h0
      exact ⟨some a, [], cap, by simpa using hcs, by simp, Or.inl rfl⟩
    · have hlm : len ≤ m := by rw [hmm]; split <;> omega
      obtain ⟨cs0, hc0, _⟩ := hel 0 (by omega)
      obtain ⟨b, o, ha, hb⟩ := plain_of (len := len) (by omega) hc0
      obtain ⟨l, hll, hq⟩ := list_of (p := fun i r => ∃ a' c, W.cell? ⟨b, o + i, none⟩ = some (.slice a' r.length c) ∧ ReqsAt (Old W) W a' r) [] (fun i (hi : i < len) => by
        obtain ⟨cs, hc, ht⟩ := hel i (by omega)
        obtain ⟨hcl, hcell⟩ := cells_at (e := 0) hi ha hc
        match cs, hcl with
        | [u], _ =>
          obtain ⟨a', r, c, hu, hr⟩ := open_reqs ht
          subst hu
          exact ⟨r, a', c, by simpa using hcell 0 (by omega), hr⟩)
      subst hll
      exact ⟨some a, l, cap, hcs, by omega, Or.inr ⟨b, o, by rw [ha], hb, hq⟩⟩

theorem open_pack {n : Nat} {cs : List Value} {x : DataW H × List MemPlace} (h : DataW.trod enc Tryz.prog W base spare held n 98 cs = some x) :
    ∃ (p : PackD) (a1 : Option Addr) (c1 : Nat) (a2 : Option Addr) (c2 : Nat) (a3 : Option Addr) (c3 : Nat), cs = [.string p.name, .int .i64 p.ver, .int .i64 p.size, .slice a1 p.deps.length c1, .slice a2 p.pres.length c2, .slice a3 p.bans.length c3] ∧ PackVal (Old W) W a1 a2 a3 p := by
  obtain ⟨xs, m, _, _, hl, hxl, hf⟩ := DataW.trod_struct Tryz.underlying98 h
  rw [Tryz.cellsLPack] at hl
  match cs, hl with
  | [v0, v1, v2, v3, v4, v5], _ =>
    match xs, hxl with
    | [x0, x1, x2, x3, x4, x5], _ =>
    have f0 := hf 0 _ rfl
    have f1 := hf 1 _ rfl
    have f2 := hf 2 _ rfl
    have f3 := hf 3 _ rfl
    have f4 := hf 4 _ rfl
    have f5 := hf 5 _ rfl
    simp [Tryz.cellsStr, Tryz.cellsInt, Tryz.cellsLReqs, Tryz.cellsLRows] at f0 f1 f2 f3 f4 f5
    obtain ⟨s, e0, _, hs⟩ := DataW.trod_string Tryz.underlying9 f0
    obtain ⟨ver, e1, _, _⟩ := DataW.trod_int Tryz.underlying3 f1
    obtain ⟨sz, e2, _, _⟩ := DataW.trod_int Tryz.underlying3 f2
    obtain ⟨a1, l1, c1, e3, h3⟩ := open_rows f3
    obtain ⟨a2, l2, c2, e4, h4⟩ := open_reqs f4
    obtain ⟨a3, l3, c3, e5, h5⟩ := open_reqs f5
    simp at e0 e1 e2
    subst e0 e1 e2 e3 e4 e5
    exact ⟨⟨s, ver, sz, l1, l2, l3⟩, a1, c1, a2, c2, a3, c3, rfl, hs, h3, h4, h5⟩

theorem open_packs {n : Nat} {v : Value} {x : DataW H × List MemPlace} (h : DataW.trod enc Tryz.prog W base spare held n 22 [v] = some x) : ∃ (a : Option Addr) (l : List PackD) (cap : Nat), v = .slice a l.length cap ∧ PacksAt (Old W) W a l := by
  rcases open_slice Tryz.underlying22 h with ⟨hcs, _⟩ | ⟨a, len, cap, m, n', D, Pl, hcs, _, hl, hm, hmm, _, hel⟩
  · simp at hcs
    exact ⟨none, [], 0, by simpa using hcs, by simp, Or.inl rfl⟩
  · simp at hcs
    rw [Tryz.cellsLPack] at hel
    by_cases h0 : len = 0
    · subst h0
      exact ⟨some a, [], cap, by simpa using hcs, by simp, Or.inl rfl⟩
    · have hlm : len ≤ m := by rw [hmm]; split <;> omega
      obtain ⟨cs0, hc0, _⟩ := hel 0 (by omega)
      obtain ⟨b, o, ha, hb⟩ := plain_of (len := len) (by omega) hc0
      obtain ⟨l, hll, hq⟩ := list_of (p := fun i q => PackAt (Old W) W b (o + i * 6) q) dPack (fun i (hi : i < len) => by
        obtain ⟨cs, hc, ht⟩ := hel i (by omega)
        obtain ⟨p, a1, c1, a2, c2, a3, c3, hqe, hv⟩ := open_pack ht
        obtain ⟨_, hcell⟩ := cells_at (e := 0) hi ha hc
        subst hqe
        exact ⟨p, a1, c1, a2, c2, a3, c3, ⟨by simpa using hcell 0 (by omega), by simpa using hcell 1 (by omega), by simpa using hcell 2 (by omega), by simpa using hcell 3 (by omega), by simpa using hcell 4 (by omega), by simpa using hcell 5 (by omega)⟩, hv⟩)
      subst hll
      exact ⟨some a, l, cap, hcs, by omega, Or.inr ⟨b, o, by rw [ha], hb, hq⟩⟩
end
end Go.Proofs.YthkhaemlcmkkjaxGreat
