/- What of a healthy state is so. An append of one value: what it answers lies where the row lay, or in a new block. -/
import Derived.Test.YtnegiggafgfmkacGPure
import Derived.Test.YtnegiggafgfmkacGGood
namespace Go.Proofs.Ytnegiggafgfmkac
set_option linter.unusedVariables false
set_option linter.unusedSimpArgs false
open Go.RowKit Go.Deep

theorem ok_form {l : List PackD} {room : Int} {set : List Int} (h : okZ l room set = true) : formB l room set = true := by
  unfold okZ at h
  rw [Bool.and_eq_true] at h
  exact h.1
theorem ok_served {l : List PackD} {room : Int} {set : List Int} (h : okZ l room set = true) {k : Nat} (hk : k < set.length) : servedB l (setBits set) (set.getD k 0).toNat = true := by
  have hf := ok_form h
  unfold okZ healthB at h
  rw [hf, Bool.true_and, Bool.and_eq_true, List.all_eq_true, set_places hf] at h
  exact h.2 _ (List.mem_map.2 ⟨set.getD k 0, getD_mem hk, rfl⟩)
theorem ok_names {l : List PackD} {room : Int} {set : List Int} (h : okZ l room set = true) {i k : Nat} (hi : i < set.length) (hk : k < set.length) (hne : i ≠ k) : (packOf l set i).name.toList ≠ (packOf l set k).name.toList := fun e => by
  have h1 := ok_served h hk
  have h2 := (twin_meets (ok_form h) hk).2 ⟨i, hi, hne, e⟩
  unfold servedB at h1
  rw [h2] at h1
  cases h1
theorem ok_size {l : List PackD} {room : Int} {set : List Int} (h : okZ l room set = true) : sizeZ l room set ≤ room := by
  have hf := ok_form h
  unfold okZ healthB at h
  rw [hf, Bool.true_and, Bool.and_eq_true, decide_eq_true_eq, size_bits hf] at h
  unfold sizeZ
  rw [hf, if_pos rfl]
  exact h.1

theorem set_short8 {l : List PackD} {room : Int} {set : List Int} (h : formB l room set = true) : set.length ≤ 8 := by
  have h1 := set_places h
  have h3 : set.length = (set.map Int.toNat).length := by simp
  rw [h3, ← h1]
  exact places_le _ _
theorem below_drewN {B : Nat} {a w : World} (h : Below B a w) (n : Nat) : Below B a (w.drewN n) := h.trans (((Drawn.refl w).more n).below B)
theorem ok_bans {l : List PackD} {room : Int} {set : List Int} (h : okZ l room set = true) {i k : Nat} (hi : i < set.length) (hk : k < set.length) (hne : i ≠ k) : anyB (packOf l set i).bans (packOf l set k) = false := by
  have hf := ok_form h
  have h1 := ok_served h hi
  unfold servedB at h1
  simp only [Bool.and_eq_true, Bool.not_eq_true'] at h1
  have h2 := h1.1.2
  rw [ban_meets hf hi] at h2
  unfold someB at h2
  rw [List.any_eq_false] at h2
  have h3 := h2 k (List.mem_range.2 hk)
  unfold oneB at h3
  have hd : set.getD k 0 ≠ set.getD i 0 := by
    rcases Nat.lt_or_ge i k with hik | hik
    · have := form_asc hf hik hk; omega
    · have := form_asc hf (show k < i by omega) hi; omega
  rw [decide_eq_true hd, Bool.true_and] at h3
  exact Bool.eq_false_iff.2 h3
theorem ok_deps {l : List PackD} {room : Int} {set : List Int} (h : okZ l room set = true) {i : Nat} (hi : i < set.length) {row : List ReqD} (hr : row ∈ (packOf l set i).deps) : someB l set row (-1) = true := by
  have hf := ok_form h
  have h1 := ok_served h hi
  unfold servedB at h1
  simp only [Bool.and_eq_true, Bool.not_eq_true'] at h1
  rw [← row_meets hf row]
  exact List.all_eq_true.1 h1.2 (rowN l row) (List.mem_map.2 ⟨row, hr, rfl⟩)

end Go.Proofs.Ytnegiggafgfmkac

namespace Go.Proofs.Ytnegiggafgfmkac
set_option linter.unusedVariables false
set_option linter.unusedSimpArgs false
open Go.RowKit Go.Deep

theorem run_append_two {P : Program} (w : World) (base : Nat) (t ty e : TypeId) (i : TypeInfo) (z : Value) (size bytes : Nat) (ht : P.underlying t = some (.slice e)) (hi : P.info? e = some i) (hz : i.zero = some z)
    (hsize : i.size = size) (hby : i.bytes = bytes) (hzs : z.cells.size = size) (hsz : 0 < size)
    (v : Value) (n : Nat) (xs : List Value) (hown : w.ownsRow base e size v n xs)
    (a : Addr) (c : Nat) (news : List Value) (hl : news.length = size) (hnews : ∀ j u, news[j]? = some u → w.cell? (a.add j) = some u) (h1 : ∀ u ∈ news, u.oneCell' = true)
    (h63 : n + 1 ≤ maxLen) (hbytes : (n + 1) * bytes ≤ 140737488355328) (hbase : base ≤ w.heap.size) :
    ∃ v' w', (Builtin.append_ #[t, t] ty #[v, .slice (some a) 1 c]).run P w = .ok v' w' ∧ w'.ownsRow base e size v' (n + 1) (xs ++ news) ∧ w.grownBy w' v.ownBlock ∧ (v'.ownBlock = v.ownBlock ∨ v'.ownBlock = some w.heap.size) := by
  obtain ⟨v', w', hr, h2, h3, _⟩ := run_append_own (P := P) w base t ty e i z size bytes ht hi hz hsize hby hzs hsz v n xs hown a 1 c news (by omega) hnews h1 h63 hbytes hbase
  have hv : (v = .slice none 0 0 ∧ n = 0) ∨ ∃ (g cap : Nat) (C : Array Value), v = .slice (some ⟨g, 0, none⟩) n cap ∧ w.heap[g]? = some (.cells C e (0, 0)) ∧ n ≤ cap ∧ cap ≤ maxLen ∧ C.size = cap * size ∧ ∀ (i : Nat) u, C[i]? = some u → True := by
    rcases hown.2 with h | ⟨g, cap, cur, hv, _, hg, hnc, hcm, hcs, _⟩
    · exact Or.inl h
    · exact Or.inr ⟨g, cap, cur, hv, hg, hnc, hcm, hcs, fun _ _ _ => trivial⟩
  obtain ⟨g', cap', C', w'', hr', _, _, _, _, _, hor⟩ := append_good w t ty e i z size bytes ht hi hz hsize hby hzs hsz (fun _ _ => True) (fun _ _ _ _ => trivial) v n hv a c news hl hnews h1 (fun _ _ _ _ => trivial) h63 hbytes
  rw [hr] at hr'
  simp at hr'
  obtain ⟨rfl, rfl⟩ := hr'
  refine ⟨_, _, hr, h2, h3, ?_⟩
  rcases hor with ⟨rfl, _⟩ | ⟨rfl, _⟩
  · right; rfl
  · left; rfl

theorem wpList_append_two {P : Program} {w : World} {ops : Array Oper} {rest : List Oper} {o : Oper} {a : Act} {Q : Exit → Act → World → Prop} (hgd : o.guard = none) (s x : Operand) (t : TypeId)
    (ho : o.op = .call { callee := .builtin .append, args := #[s, x], argTypes := #[t, t] })
    (base : Nat) (e : TypeId) (i : TypeInfo) (z : Value) (size bytes : Nat) (ht : P.underlying t = some (.slice e)) (hi : P.info? e = some i) (hz : i.zero = some z)
    (hsize : i.size = size) (hby : i.bytes = bytes) (hzs : z.cells.size = size) (hsz : 0 < size)
    (v : Value) (n : Nat) (xs : List Value) (hs : a.eval s = v) (hown : w.ownsRow base e size v n xs)
    (ad : Addr) (c : Nat) (news : List Value) (hx : a.eval x = .slice (some ad) 1 c) (hl : news.length = size) (hnews : ∀ j u, news[j]? = some u → w.cell? (ad.add j) = some u) (h1 : ∀ u ∈ news, u.oneCell' = true)
    (h63 : n + 1 ≤ maxLen) (hbytes : (n + 1) * bytes ≤ 140737488355328) (hbase : base ≤ w.heap.size)
    (h : ∀ v' w', w'.ownsRow base e size v' (n + 1) (xs ++ news) → w.grownBy w' v.ownBlock → (v'.ownBlock = v.ownBlock ∨ v'.ownBlock = some w.heap.size) → wpList P ops Q rest (a.put o.dst v') w') : wpList P ops Q (o :: rest) a w := by
  refine wpList_plain hgd fun K hK => ?_
  obtain ⟨v', w', hr, h2, h3, h4⟩ := run_append_two (P := P) w base t o.type e i z size bytes ht hi hz hsize hby hzs hsz v n xs hown ad c news hl hnews h1 h63 hbytes hbase
  unfold Oper.wp execOp
  simp only [ho, resolve, invoke, builtin, Sem.run_bind, Sem.run_pure, Result.andThen_ok, List.map_toArray, List.map_cons, List.map_nil, hs, hx, hr]
  exact hK _ _ (h v' w' h2 h3 h4)
end Go.Proofs.Ytnegiggafgfmkac
