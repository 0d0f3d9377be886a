/- A slice copied by append onto an empty one; the specification's copies of drawn packs. -/
import Derived.Test.YtecipjdbfmldlabDrawE
import Derived.Laws.OwnMore
namespace Go.Proofs.Ytecipjdbfmldlab
set_option linter.unusedVariables false
set_option linter.unusedSimpArgs false
set_option maxRecDepth 10000
open Go.RowKit Go.Deep

theorem copied_at {OK : Nat → Value → Prop} {size n : Nat} {z : Array Value} {news : List Value} {k : Nat} (hsz : 0 < size) (hz : z.size = size) (hl : news.length = n * size)
    (h1 : ∀ (j : Nat) u, news[j]? = some u → OK j u) (h2 : ∀ (j : Nat) u, z[j]? = some u → ∀ k, OK (k * size + j) u) :
    ∀ (i : Nat) (u : Value), (news.toArray ++ Builtin.zeroCells z k)[i]? = some u → OK i u := by
  intro i u hu
  rw [Array.getElem?_append] at hu
  split at hu
  · exact h1 i u (by simpa using hu)
  · rename_i h3
    simp at h3 hu
    have hzz := zero_at hu (by omega)
    rw [hz] at hzz
    have := h2 _ u hzz (n + (i - news.length) / size)
    have e := Nat.div_add_mod (i - news.length) size
    rw [Nat.add_mul, Nat.mul_comm ((i - news.length) / size) size] at this
    rwa [show n * size + size * ((i - news.length) / size) + (i - news.length) % size = i by omega] at this

theorem append_copy_good {P : Program} (w : World) (t ty e : TypeId) (i : TypeInfo) (z : Value) (size bytes : Nat) (ht : P.underlying t = some (.slice e)) (hi : P.info? e = some i) (hz : i.zero = some z)
    (hsize : i.size = size) (hby : i.bytes = bytes) (hzs : z.cells.size = size) (hsz : 0 < size) (OK : Nat → Value → Prop) (h2 : ∀ (j : Nat) u, z.cells[j]? = some u → ∀ k, OK (k * size + j) u)
    (g : Nat) (hg : w.heap[g]? = some (.cells #[] e (0, 0))) (src : Value) (n : Nat)
    (hv : (src = .slice none 0 0 ∧ n = 0) ∨ ∃ (g cap : Nat) (C : Array Value), src = .slice (some ⟨g, 0, none⟩) n cap ∧ w.heap[g]? = some (.cells C e (0, 0)) ∧ n ≤ cap ∧ cap ≤ maxLen ∧ C.size = cap * size ∧ ∀ (i : Nat) u, C[i]? = some u → OK i u)
    (h63 : n ≤ maxLen) (hbytes : n * bytes ≤ 140737488355328) :
    ∃ (g' cap' : Nat) (C' : Array Value) (w' : World), (Builtin.append_ #[t, t] ty #[.slice (some ⟨g, 0, none⟩) 0 0, src]).run P w = .ok (.slice (some ⟨g', 0, none⟩) n cap') w' ∧ w'.heap[g']? = some (.cells C' e (0, 0)) ∧ n ≤ cap' ∧ cap' ≤ maxLen ∧ C'.size = cap' * size ∧
      (∀ (i : Nat) u, C'[i]? = some u → OK i u) ∧ (g' = g ∨ g' = w.heap.size) ∧ Below w.heap.size w w' := by
  subst hsize
  subst hby
  rcases hv with ⟨rfl, rfl⟩ | ⟨g1, cap, C, rfl, hg1, hnc, hcm, hcs, hk⟩
  · have hown : w.ownsRow 0 e i.size (.slice (some ⟨g, 0, none⟩) 0 0) 0 [] := ⟨by simp, Or.inr ⟨g, 0, #[], rfl, Nat.zero_le _, hg, by simp, by simp, by simp⟩⟩
    exact ⟨g, 0, #[], w, run_append_owned_none (P := P) w 0 t ty e i i.size ht hi _ 0 [] hown, hg, Nat.le_refl _, Nat.zero_le _, by simp, by simp, Or.inl rfl, Below.refl _ _⟩
  · by_cases h0 : n = 0
    · subst h0
      have hr := run_append_room (P := P) w t ty e i ht hi g 0 0 #[] hg ⟨g1, 0, none⟩ 0 cap [] (by simp) (by simp) (by simp) (by simp) (by simp)
      have hb := setRow_heap w g #[] #[] e (0, 0) hg
      refine ⟨g, 0, #[], _, by simpa using hr, hb, Nat.le_refl _, Nat.zero_le _, by simp, by simp, Or.inl rfl, ⟨rfl, rfl, rfl, by simp, fun b hb' => ?_⟩⟩
      by_cases e1 : b = g
      · subst e1; exact hb.trans hg.symm
      · exact setRow_other w g b _ e1
    · have hlo : (C.toList.take (n * i.size)).length = n * i.size := by
        have := Nat.mul_le_mul_right i.size hnc
        simp
        omega
      have hkk : ∀ j u, (C.toList.take (n * i.size))[j]? = some u → C[j]? = some u := fun j u hu => by
        rw [List.getElem?_take] at hu
        split at hu
        · simpa using hu
        · cases hu
      have hr := run_append_grow (P := P) w t ty e i z ht hi hz ⟨g, 0, none⟩ 0 0 [] (by simp) (by simp) ⟨g1, 0, none⟩ n cap (C.toList.take (n * i.size)) hlo (fun j u hu => by rw [show (⟨g1, 0, none⟩ : Addr).add j = ⟨g1, j, none⟩ by unfold Addr.add; split <;> simp_all, cell_of_row w g1 j C e (0, 0) hg1]; exact hkk j u hu) (by omega) (by simp only [maxLen] at h63; omega) (growslice_fits (by omega) (by simpa using hbytes))
      have hge := grownCap_ge w (0 + n) 0 e
      have hcap := grownCap_le_maxLen w (0 + n) 0 e (by simpa using h63)
      refine ⟨_, _, _, _, by simpa using hr, heap_alloc_new w.drew _, by simpa using hge, by simpa using hcap, ?_, ?_, Or.inr rfl, (Below.refl _ _).drew.alloc (Nat.le_refl _) _⟩
      · simp only [Array.size_append, List.size_toArray, size_zeroCells, hzs, hlo]
        simp only [Nat.zero_add] at hge
        have h5 := Nat.sub_mul (grownCap w n 0 e) n i.size
        have h6 := Nat.mul_le_mul_right i.size hge
        omega
      · have := copied_at (OK := OK) (k := grownCap w n 0 e - n) hsz hzs hlo (fun j u hu => hk j u (hkk j u hu)) h2
        simpa using this

theorem append_copy_V0 {s s' N : Nat} (w : World) (ty : TypeId) (v : Value) (hv : V0 s w N v) (hN : N ≤ 1000000) (g : Nat) (hg : w.heap[g]? = some (.cells #[] 71 (0, 0))) (hs : s' ≤ g) (hs2 : s' ≤ w.heap.size) :
    ∃ v' w', (Builtin.append_ #[31, 31] ty #[.slice (some ⟨g, 0, none⟩) 0 0, v]).run Try.prog w = .ok v' w' ∧ V0 s' w' N v' ∧ Below w.heap.size w w' := by
  obtain ⟨i0, hi, hz0, hz1, hz2⟩ := info_parts Try.infoReq
  obtain ⟨n, hn, ho⟩ := SlBy.open hv
  obtain ⟨g', cap', C', w', hr, hC', hc1, hc2, hc3, hk, hgg, hb⟩ := append_copy_good (P := Try.prog) w 31 ty 71 i0 _ 3 32 Try.underlying31 hi hz0 hz1 hz2 rfl (by decide) OK0 okzero3 g hg v n ho (by unfold maxLen; omega) (by omega)
  exact ⟨_, w', hr, Or.inr ⟨g', n, cap', rfl, hc1, hn, hc2, by rcases hgg with h | h <;> omega, C', hC', hc3, hk⟩, hb⟩
end Go.Proofs.Ytecipjdbfmldlab
