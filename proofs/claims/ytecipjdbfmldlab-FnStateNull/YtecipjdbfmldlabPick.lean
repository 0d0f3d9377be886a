/- Slices of good blocks are plain data, laid in what is there. -/
import Derived.Test.YtecipjdbfmldlabDrawH
namespace Go.Proofs.Ytecipjdbfmldlab
set_option linter.unusedVariables false
set_option linter.unusedSimpArgs false
set_option maxRecDepth 10000
open Go.RowKit Go.Deep

theorem list_by {α : Type} {n : Nat} {p : Nat → α → Prop} (d : α) (h : ∀ i, i < n → ∃ x, p i x) : ∃ l : List α, l.length = n ∧ ∀ i, i < n → p i (l.getD i d) := by
  classical
  let f : Nat → α := fun i => if hi : i < n then Classical.choose (h i hi) else d
  refine ⟨(List.range n).map f, by simp, fun i hi => ?_⟩
  have e : ((List.range n).map f).getD i d = f i := by simp [List.getD, hi]
  rw [e]
  show p i (if hi : i < n then Classical.choose (h i hi) else d)
  rw [dif_pos hi]
  exact Classical.choose_spec (h i hi)

theorem V0.reqs {s N n c : Nat} {w : World} {a : Option Addr} (h : V0 s w N (.slice a n c)) : ∃ l : List ReqD, l.length = n ∧ ReqsAt (Old w) w a l := by
  by_cases hn : n = 0
  · subst hn
    exact ⟨[], rfl, Nat.zero_le _, Or.inl rfl⟩
  · have hm : n ≤ maxLen := by
      obtain ⟨_, _, _, he, h1, _, h3⟩ := SlBy.slice h
      simp at he
      omega
    obtain ⟨g, C, rfl, hs, hC, hk, h1, h2, ho⟩ := SlBy.addr h (by omega)
    have e : ∀ j, j < C.size → ∃ u, w.cell? ⟨g, j, none⟩ = some u ∧ OK0 j u := fun j hj => ⟨C[j], by rw [cell_of_row w g _ C _ _ hC]; simp [hj], ho _ _ (by simp [hj])⟩
    obtain ⟨l, hl, hq⟩ := list_by (p := fun i q => ReqAt w g (0 + i * 3) q) dReq (fun i (hi : i < n) => by
      obtain ⟨u0, c0, o0⟩ := e (0 + i * 3) (by omega)
      obtain ⟨u1, c1, o1⟩ := e (0 + i * 3 + 1) (by omega)
      obtain ⟨u2, c2, o2⟩ := e (0 + i * 3 + 2) (by omega)
      obtain ⟨x, rfl, hx⟩ := o0.1 (by omega)
      obtain ⟨y, rfl⟩ := o1.2 (by omega)
      obtain ⟨z, rfl⟩ := o2.2 (by omega)
      exact ⟨⟨x, y, z⟩, c0, c1, c2, hx⟩)
    subst hl
    exact ⟨l, rfl, hm, Or.inr ⟨g, 0, rfl, (Array.getElem?_eq_some_iff.1 hC).1, hq⟩⟩
theorem V1.rows {s N n c : Nat} {w : World} {a : Option Addr} (h : V1 s w N (.slice a n c)) : ∃ l : List (List ReqD), l.length = n ∧ RowsAt (Old w) w a l := by
  by_cases hn : n = 0
  · subst hn
    exact ⟨[], rfl, Nat.zero_le _, Or.inl rfl⟩
  · have hm : n ≤ maxLen := by
      obtain ⟨_, _, _, he, h1, _, h3⟩ := SlBy.slice h
      simp at he
      omega
    obtain ⟨g, C, rfl, hs, hC, hk, h1, h2, ho⟩ := SlBy.addr h (by omega)
    obtain ⟨l, hl, hq⟩ := list_by (p := fun i r => ∃ a' c, w.cell? ⟨g, 0 + i, none⟩ = some (.slice a' r.length c) ∧ ReqsAt (Old w) w a' r) [] (fun i (hi : i < n) => by
      have hj : i < C.size := by omega
      have hv := ho i C[i] (by simp [hj])
      obtain ⟨a', n', c', he, _⟩ := SlBy.slice hv
      rw [he] at hv
      obtain ⟨r, hr, hR⟩ := V0.reqs hv
      refine ⟨r, a', c', ?_, hR⟩
      rw [hr, Nat.zero_add, cell_of_row w g _ C _ _ hC, ← he]
      simp [hj])
    subst hl
    exact ⟨l, rfl, hm, Or.inr ⟨g, 0, rfl, (Array.getElem?_eq_some_iff.1 hC).1, hq⟩⟩
theorem V2.packs {s N n c : Nat} {w : World} {a : Option Addr} (h : V2 s w N (.slice a n c)) : ∃ l : List PackD, l.length = n ∧ PacksAt (Old w) w a l := by
  by_cases hn : n = 0
  · subst hn
    exact ⟨[], rfl, Nat.zero_le _, Or.inl rfl⟩
  · have hm : n ≤ maxLen := by
      obtain ⟨_, _, _, he, h1, _, h3⟩ := SlBy.slice h
      simp at he
      omega
    obtain ⟨g, C, rfl, hs, hC, hk, h1, h2, ho⟩ := SlBy.addr h (by omega)
    obtain ⟨l, hl, hq⟩ := list_by (p := fun i p => PackAt (Old w) w g (0 + i * 6) p) dPack (fun i (hi : i < n) => by
      obtain ⟨x, y, z, v1, v2, v3, k0, k1, k2, k3, k4, k5, hP⟩ := V2.pack h hi
      obtain ⟨a1, n1, c1, rfl, _⟩ := SlBy.slice hP.deps
      obtain ⟨a2, n2, c2, rfl, _⟩ := SlBy.slice hP.pres
      obtain ⟨a3, n3, c3, rfl, _⟩ := SlBy.slice hP.bans
      obtain ⟨l1, e1, r1⟩ := V1.rows hP.deps
      obtain ⟨l2, e2, r2⟩ := V0.reqs hP.pres
      obtain ⟨l3, e3, r3⟩ := V0.reqs hP.bans
      subst e1 e2 e3
      rw [Nat.zero_add]
      exact ⟨⟨x, y, z, l1, l2, l3⟩, a1, c1, a2, c2, a3, c3, ⟨k0, k1, k2, k3, k4, k5⟩, hP.len, r1, r2, r3⟩)
    subst hl
    exact ⟨l, rfl, hm, Or.inr ⟨g, 0, rfl, (Array.getElem?_eq_some_iff.1 hC).1, hq⟩⟩
end Go.Proofs.Ytecipjdbfmldlab
