/- Append of one element: what the whole block behind it holds, its spare cells too. An append of one value: what it answers lies where the row lay, or in a new block. -/
import Derived.Test.YthkhaemlcmkkjarGBase
import Derived.Laws.AppendOwn
namespace Go.Proofs.Ythkhaemlcmkkjar
set_option linter.unusedVariables false
set_option linter.unusedSimpArgs false
set_option maxRecDepth 10000
open Go.RowKit Go.Deep

theorem zero_at {z : Array Value} {n i : Nat} {u : Value} (h : (Builtin.zeroCells z n)[i]? = some u) (hz : 0 < z.size) : z[i % z.size]? = some u := by
  unfold Builtin.zeroCells at h
  rw [Array.getElem?_map] at h
  obtain ⟨k, hk, rfl⟩ := Option.map_eq_some_iff.1 h
  have hk' : k = i := by
    rw [Array.getElem?_eq_some_iff] at hk
    obtain ⟨_, hk⟩ := hk
    simpa using hk.symm
  subst hk'
  have hlt : k % z.size < z.size := Nat.mod_lt _ hz
  simp [hlt]

theorem grown_at {OK : Nat → Value → Prop} {size n : Nat} {z : Array Value} {olds news : List Value} {k : Nat} (hsz : 0 < size) (hz : z.size = size) (hlo : olds.length = n * size) (hl : news.length = size)
    (h0 : ∀ i u, olds[i]? = some u → OK i u) (h1 : ∀ j u, news[j]? = some u → ∀ k, OK (k * size + j) u) (h2 : ∀ (j : Nat) u, z[j]? = some u → ∀ k, OK (k * size + j) u) :
    ∀ (i : Nat) (u : Value), (olds.toArray ++ news.toArray ++ Builtin.zeroCells z k)[i]? = some u → OK i u := by
  intro i u hu
  rw [Array.getElem?_append] at hu
  split at hu
  · rw [Array.getElem?_append] at hu
    split at hu
    · exact h0 i u (by simpa using hu)
    · rename_i h3 h4
      simp at h3 h4 hu
      have := h1 (i - olds.length) u hu n
      rwa [show n * size + (i - olds.length) = i by omega] at this
  · rename_i h3
    simp at h3 hu
    have hzz := zero_at hu (by omega)
    rw [hz] at hzz
    have := h2 _ u hzz (n + 1 + (i - (olds.length + news.length)) / size)
    have e := Nat.div_add_mod (i - (olds.length + news.length)) size
    rw [Nat.add_mul, Nat.add_mul, Nat.one_mul, Nat.mul_comm ((i - (olds.length + news.length)) / size) size] at this
    rwa [show n * size + size + size * ((i - (olds.length + news.length)) / size) + (i - (olds.length + news.length)) % size = i by omega] at this

theorem append_good {P : Program} (w : World) (t ty e : TypeId) (i : TypeInfo) (z : Value) (size bytes : Nat) (ht : P.underlying t = some (.slice e)) (hi : P.info? e = some i) (hz : i.zero = some z)
    (hsize : i.size = size) (hby : i.bytes = bytes) (hzs : z.cells.size = size) (hsz : 0 < size) (OK : Nat → Value → Prop) (h2 : ∀ (j : Nat) u, z.cells[j]? = some u → ∀ k, OK (k * size + j) u)
    (v : Value) (n : Nat) (hv : (v = .slice none 0 0 ∧ n = 0) ∨ ∃ (g cap : Nat) (C : Array Value), v = .slice (some ⟨g, 0, none⟩) n cap ∧ w.heap[g]? = some (.cells C e (0, 0)) ∧ n ≤ cap ∧ cap ≤ maxLen ∧ C.size = cap * size ∧ ∀ (i : Nat) u, C[i]? = some u → OK i u)
    (ad : Addr) (c : Nat) (news : List Value) (hl : news.length = size) (hnews : ∀ j u, news[j]? = some u → w.cell? (ad.add j) = some u) (h1c : ∀ u ∈ news, u.oneCell' = true) (h1 : ∀ j u, news[j]? = some u → ∀ k, OK (k * size + j) u)
    (h63 : n + 1 ≤ maxLen) (hbytes : (n + 1) * bytes ≤ 140737488355328) :
    ∃ (g' cap' : Nat) (C' : Array Value) (w' : World), (Builtin.append_ #[t, t] ty #[v, .slice (some ad) 1 c]).run P w = .ok (.slice (some ⟨g', 0, none⟩) (n + 1) cap') w' ∧ w'.heap[g']? = some (.cells C' e (0, 0)) ∧ n + 1 ≤ cap' ∧ cap' ≤ maxLen ∧ C'.size = cap' * size ∧
      (∀ (i : Nat) u, C'[i]? = some u → OK i u) ∧
      ((g' = w.heap.size ∧ Below w.heap.size w w') ∨
       (v = .slice (some ⟨g', 0, none⟩) n cap' ∧ (∃ C : Array Value, w.heap[g']? = some (.cells C e (0, 0)) ∧ C'.size = C.size) ∧ (∀ b, b ≠ g' → w'.heap[b]? = w.heap[b]?) ∧ w'.os = w.os ∧ w'.tape = w.tape ∧ w'.output = w.output ∧ w'.heap.size = w.heap.size)) := by
  subst hsize
  subst hby
  have hsmall : n + 1 ≤ 9223372036854775807 := by simp only [maxLen] at h63; omega
  have hl1 : news.length = 1 * i.size := by rw [Nat.one_mul]; exact hl
  have below : ∀ C, Below w.heap.size w (w.drew.alloc (.cells C e)) := fun C => (Below.refl _ _).drew.alloc (Nat.le_refl _) _
  rcases hv with ⟨rfl, rfl⟩ | ⟨g, cap, C, rfl, hg, hnc, hcm, hcs, hk⟩
  · have hr := run_append_nil (P := P) w t ty e i z ht hi hz ad 1 c news hl1 hnews (by omega) (by omega) (by simp at hbytes; omega)
    have hge := grownCap_ge w 1 0 e
    have hcap := grownCap_le_maxLen w 1 0 e (by simpa using h63)
    refine ⟨_, _, _, _, by simpa using hr, heap_alloc_new w.drew _, by simpa using hge, hcap, ?_, ?_, Or.inl ⟨rfl, below _⟩⟩
    · simp only [Array.size_append, List.size_toArray, size_zeroCells, hzs, hl]
      have := Nat.sub_mul (grownCap w 1 0 e) 1 i.size
      rw [Nat.one_mul] at this
      have := Nat.mul_le_mul_right i.size hge
      omega
    · have := grown_at (OK := OK) (size := i.size) (n := 0) (z := z.cells) (olds := []) (news := news) (k := grownCap w 1 0 e - 1) hsz hzs (by simp) hl (by simp) h1 h2
      simpa using this
  · by_cases hroom : n + 1 ≤ cap
    · have hm := Nat.mul_le_mul_right i.size hroom
      rw [Nat.add_mul, Nat.one_mul] at hm
      have hfit : n * i.size + news.length ≤ C.size := by omega
      have hr := run_append_room (P := P) w t ty e i ht hi g n cap C hg ad 1 c news hl1 hnews h1c hroom hfit
      have hsz' : (C.toList.take (n * i.size) ++ news ++ C.toList.drop (n * i.size + news.length)).toArray.size = C.size := by
        simp only [List.size_toArray, List.length_append, List.length_take, List.length_drop, Array.length_toList]
        omega
      refine ⟨_, _, _, _, hr, setRow_heap w g C _ e _ hg, hroom, hcm, by rw [hsz', hcs], fun j u hu => ?_, Or.inr ⟨rfl, ⟨C, hg, hsz'⟩, fun b hb => setRow_other w g b _ hb, rfl, rfl, rfl, by simp⟩⟩
      rw [List.getElem?_toArray, List.getElem?_append] at hu
      split at hu
      · rw [List.getElem?_append] at hu
        split at hu
        · rename_i h3
          simp at h3
          rw [List.getElem?_take_of_lt (by omega)] at hu
          exact hk j u (by simpa using hu)
        · rename_i h3 h4
          simp at h3 h4
          have := h1 _ u hu n
          simp at this
          rwa [show n * i.size + (j - min (n * i.size) C.size) = j by omega] at this
      · rename_i h3
        simp at h3
        rw [List.getElem?_drop] at hu
        refine hk j u ?_
        simp at hu
        rwa [show n * i.size + news.length + (j - (min (n * i.size) C.size + news.length)) = j by omega] at hu
    · have hkk : ∀ j u, (C.toList.take (n * i.size))[j]? = some u → C[j]? = some u := fun j u hu => by
        rw [List.getElem?_take] at hu
        split at hu
        · simpa using hu
        · cases hu
      have hlo : (C.toList.take (n * i.size)).length = n * i.size := by
        have := Nat.mul_le_mul_right i.size hnc
        simp
        omega
      have hr := run_append_grow (P := P) w t ty e i z ht hi hz ⟨g, 0, none⟩ n cap (C.toList.take (n * i.size)) hlo (fun j u hu => by rw [show (⟨g, 0, none⟩ : Addr).add j = ⟨g, j, none⟩ by unfold Addr.add; split <;> simp_all, cell_of_row w g j C e (0, 0) hg]; exact hkk j u hu) ad 1 c news hl1 hnews (by omega) (by omega) (growslice_fits (by omega) hbytes)
      have hge := grownCap_ge w (n + 1) cap e
      have hcap := grownCap_le_maxLen w (n + 1) cap e h63
      refine ⟨_, _, _, _, hr, heap_alloc_new w.drew _, hge, hcap, ?_, grown_at hsz hzs hlo hl (fun j u hu => hk j u (hkk j u hu)) h1 h2, Or.inl ⟨rfl, below _⟩⟩
      simp only [Array.size_append, List.size_toArray, size_zeroCells, hzs, hl, hlo]
      have h5 := Nat.sub_mul (grownCap w (n + 1) cap e) (n + 1) i.size
      have h6 := Nat.mul_le_mul_right i.size hge
      rw [Nat.add_mul, Nat.one_mul] at h5 h6
      omega
end Go.Proofs.Ythkhaemlcmkkjar

namespace Go.Proofs.Ythkhaemlcmkkjar
set_option linter.unusedVariables false
set_option linter.unusedSimpArgs false
open Go.RowKit Go.Deep

theorem run_append_two {P : Program} (w : World) (base : Nat) (t ty e : TypeId) (i : TypeInfo) (z : Value) (size bytes : Nat) (ht : P.underlying t = some (.slice e)) (hi : P.info? e = some i) (hz : i.zero = some z)
    (hsize : i.size = size) (hby : i.bytes = bytes) (hzs : z.cells.size = size) (hsz : 0 < size)
    (v : Value) (n : Nat) (xs : List Value) (hown : w.ownsRow base e size v n xs)
    (a : Addr) (c : Nat) (news : List Value) (hl : news.length = size) (hnews : ∀ j u, news[j]? = some u → w.cell? (a.add j) = some u) (h1 : ∀ u ∈ news, u.oneCell' = true)
    (h63 : n + 1 ≤ maxLen) (hbytes : (n + 1) * bytes ≤ 140737488355328) (hbase : base ≤ w.heap.size) :
    ∃ v' w', (Builtin.append_ #[t, t] ty #[v, .slice (some a) 1 c]).run P w = .ok v' w' ∧ w'.ownsRow base e size v' (n + 1) (xs ++ news) ∧ w.grownBy w' v.ownBlock ∧ (v'.ownBlock = v.ownBlock ∨ v'.ownBlock = some w.heap.size) := by
  obtain ⟨v', w', hr, h2, h3, _⟩ := run_append_own (P := P) w base t ty e i z size bytes ht hi hz hsize hby hzs hsz v n xs hown a 1 c news (by omega) hnews h1 h63 hbytes hbase
  have hv : (v = .slice none 0 0 ∧ n = 0) ∨ ∃ (g cap : Nat) (C : Array Value), v = .slice (some ⟨g, 0, none⟩) n cap ∧ w.heap[g]? = some (.cells C e (0, 0)) ∧ n ≤ cap ∧ cap ≤ maxLen ∧ C.size = cap * size ∧ ∀ (i : Nat) u, C[i]? = some u → True := by
    rcases hown.2 with h | ⟨g, cap, cur, hv, _, hg, hnc, hcm, hcs, _⟩
    · exact Or.inl h
    · exact Or.inr ⟨g, cap, cur, hv, hg, hnc, hcm, hcs, fun _ _ _ => trivial⟩
  obtain ⟨g', cap', C', w'', hr', _, _, _, _, _, hor⟩ := append_good w t ty e i z size bytes ht hi hz hsize hby hzs hsz (fun _ _ => True) (fun _ _ _ _ => trivial) v n hv a c news hl hnews h1 (fun _ _ _ _ => trivial) h63 hbytes
  rw [hr] at hr'
  simp at hr'
  obtain ⟨rfl, rfl⟩ := hr'
  refine ⟨_, _, hr, h2, h3, ?_⟩
  rcases hor with ⟨rfl, _⟩ | ⟨rfl, _⟩
  · right; rfl
  · left; rfl

theorem wpList_append_two {P : Program} {w : World} {ops : Array Oper} {rest : List Oper} {o : Oper} {a : Act} {Q : Exit → Act → World → Prop} (hgd : o.guard = none) (s x : Operand) (t : TypeId)
    (ho : o.op = .call { callee := .builtin .append, args := #[s, x], argTypes := #[t, t] })
    (base : Nat) (e : TypeId) (i : TypeInfo) (z : Value) (size bytes : Nat) (ht : P.underlying t = some (.slice e)) (hi : P.info? e = some i) (hz : i.zero = some z)
    (hsize : i.size = size) (hby : i.bytes = bytes) (hzs : z.cells.size = size) (hsz : 0 < size)
    (v : Value) (n : Nat) (xs : List Value) (hs : a.eval s = v) (hown : w.ownsRow base e size v n xs)
    (ad : Addr) (c : Nat) (news : List Value) (hx : a.eval x = .slice (some ad) 1 c) (hl : news.length = size) (hnews : ∀ j u, news[j]? = some u → w.cell? (ad.add j) = some u) (h1 : ∀ u ∈ news, u.oneCell' = true)
    (h63 : n + 1 ≤ maxLen) (hbytes : (n + 1) * bytes ≤ 140737488355328) (hbase : base ≤ w.heap.size)
    (h : ∀ v' w', w'.ownsRow base e size v' (n + 1) (xs ++ news) → w.grownBy w' v.ownBlock → (v'.ownBlock = v.ownBlock ∨ v'.ownBlock = some w.heap.size) → wpList P ops Q rest (a.put o.dst v') w') : wpList P ops Q (o :: rest) a w := by
  refine wpList_plain hgd fun K hK => ?_
  obtain ⟨v', w', hr, h2, h3, h4⟩ := run_append_two (P := P) w base t o.type e i z size bytes ht hi hz hsize hby hzs hsz v n xs hown ad c news hl hnews h1 h63 hbytes hbase
  unfold Oper.wp execOp
  simp only [ho, resolve, invoke, builtin, Sem.run_bind, Sem.run_pure, Result.andThen_ok, List.map_toArray, List.map_cons, List.map_nil, hs, hx, hr]
  exact hK _ _ (h v' w' h2 h3 h4)
end Go.Proofs.Ythkhaemlcmkkjar
