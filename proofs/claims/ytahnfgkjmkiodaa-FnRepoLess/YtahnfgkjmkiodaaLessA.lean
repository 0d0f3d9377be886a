/- Packs appended to a copy of themselves: what the operations of that statement leave. -/
import Derived.Test.YtahnfgkjmkiodaaDrawL
import Derived.Test.YtahnfgkjmkiodaaAsc
namespace Go.Proofs.Ytahnfgkjmkiodaa
set_option linter.unusedVariables false
set_option linter.unusedSimpArgs false
open Go.RowKit Go.Deep

/-- A slice of n packs whose cells are xs, from block base on. -/
def PO (base n : Nat) (xs : List Value) (v : Value) (w : World) : Prop := ∃ (g cap : Nat) (C : Array Value), v = .slice (some ⟨g, 0, none⟩) n cap ∧ base ≤ g ∧ w.heap[g]? = some (.cells C 37 (0, 0)) ∧ n ≤ cap ∧ cap ≤ maxLen ∧ C.size = cap * 6 ∧ C.toList.take (n * 6) = xs
def TL (base rbk yb g n vc : Nat) (room : Int) (xs six : List Value) (i : Nat) (v : Value) (w : World) : Prop := match i with
  | 0 => ∃ g0, v = .slice (some ⟨g0, 0, none⟩) 0 0 ∧ base ≤ g0 ∧ w.heap[g0]? = some (.cells #[] 37 (0, 0))
  | 1 => v = .pointer (some ⟨rbk, 0, none⟩)
  | 2 => v = .slice (some ⟨g, 0, none⟩) n vc
  | 3 => PO base n xs v w
  | 4 => v = .pointer (some ⟨rbk, 0, none⟩)
  | 5 => v = .slice (some ⟨g, 0, none⟩) n vc
  | 6 => v = .pointer (some ⟨g, 0, none⟩)
  | 7 => v = .agg six.toArray
  | 8 => ∃ g1, v = .slice (some ⟨g1, 0, none⟩) 1 1 ∧ base ≤ g1 ∧ w.heap[g1]? = some (.cells six.toArray 37 (0, 0))
  | 9 => PO base (n + 1) (xs ++ six) v w
  | 10 => v = .pointer (some ⟨yb, 0, none⟩)
  | 11 => ∃ u, w.heap[yb]? = some (repoCells u room) ∧ PO base (n + 1) (xs ++ six) u w
  | _ => True
/-- Of what lies below base the block yb alone is written; what the operations have left stays. -/
structure EL (base rbk yb g n vc : Nat) (room : Int) (xs six : List Value) (x y : World) : Prop where
  os : y.os = x.os
  tape : y.tape = x.tape
  output : y.output = x.output
  size : x.heap.size ≤ y.heap.size
  old : ∀ b, b < base → b < x.heap.size → b ≠ yb → y.heap[b]? = x.heap[b]?
  keep : ∀ i v, TL base rbk yb g n vc room xs six i v x → TL base rbk yb g n vc room xs six i v y
variable {base rbk yb g n vc : Nat} {room : Int} {xs six : List Value}
theorem EL.trans {x y z : World} (h : EL base rbk yb g n vc room xs six x y) (k : EL base rbk yb g n vc room xs six y z) : EL base rbk yb g n vc room xs six x z :=
  ⟨k.os.trans h.os, k.tape.trans h.tape, k.output.trans h.output, Nat.le_trans h.size k.size, fun b h1 h2 h3 => (k.old b h1 (Nat.lt_of_lt_of_le h2 h.size) h3).trans (h.old b h1 h2 h3), fun i v ht => k.keep i v (h.keep i v ht)⟩
theorem PO.on {m : Nat} {zs : List Value} {v : Value} {x y : World} (h : PO base m zs v x) (hb : ∀ b, CellsOf x b 37 → y.heap[b]? = x.heap[b]?) : PO base m zs v y := by
  obtain ⟨g, cap, C, h1, h2, h3, h4⟩ := h
  exact ⟨g, cap, C, h1, h2, (hb g ⟨C, h3⟩).trans h3, h4⟩
theorem EL.of_below {x y : World} (h : Below x.heap.size x y) : EL base rbk yb g n vc room xs six x y := by
  refine ⟨h.os, h.tape, h.output, h.size, fun b _ h2 _ => h.block b h2, fun i v ht => ?_⟩
  have hp : ∀ {m : Nat} {zs : List Value} {v : Value}, PO base m zs v x → PO base m zs v y := fun hx => hx.on fun b hc => h.block b hc.lt
  unfold TL at ht ⊢
  split at ht
  · obtain ⟨g0, h1, h2, h3⟩ := ht; exact ⟨g0, h1, h2, (h.block g0 (Array.getElem?_eq_some_iff.1 h3).1).trans h3⟩
  · exact ht
  · exact ht
  · exact hp ht
  · exact ht
  · exact ht
  · exact ht
  · exact ht
  · obtain ⟨g0, h1, h2, h3⟩ := ht; exact ⟨g0, h1, h2, (h.block g0 (Array.getElem?_eq_some_iff.1 h3).1).trans h3⟩
  · exact hp ht
  · exact ht
  · obtain ⟨u, h1, h2⟩ := ht; exact ⟨u, (h.block yb (Array.getElem?_eq_some_iff.1 h1).1).trans h1, hp h2⟩
  · trivial
theorem EL.refl (x : World) : EL base rbk yb g n vc room xs six x x := EL.of_below (Below.refl _ _)
theorem EL.alloc (x : World) (o : Obj) : EL base rbk yb g n vc room xs six x (x.alloc o) := EL.of_below ((Below.refl _ _).alloc (Nat.le_refl _) _)
/-- The second append, in place. -/
theorem EL.in_place {x y : World} {gv cap : Nat} {C C' : Array Value} (hs6 : six.length = 6) (hn : 1 ≤ n) (hg : base ≤ gv) (hC : x.heap[gv]? = some (.cells C 37 (0, 0))) (hCs : C.size = cap * 6) (hcap : n + 1 ≤ cap) (hxs : C.toList.take (n * 6) = xs)
    (hC' : y.heap[gv]? = some (.cells C' 37 (0, 0))) (he : C'.toList = C.toList.take (n * 6) ++ six ++ C.toList.drop (n * 6 + six.length)) (ho : ∀ b, b ≠ gv → y.heap[b]? = x.heap[b]?)
    (h1 : y.os = x.os) (h2 : y.tape = x.tape) (h3 : y.output = x.output) (h4 : x.heap.size ≤ y.heap.size) : EL base rbk yb g n vc room xs six x y := by
  have hlen : (C.toList.take (n * 6)).length = n * 6 := by simp; omega
  have hsz : C'.size = C.size := by
    have := congrArg List.length he
    simp at this
    omega
  have one : ∀ {D : Array Value}, x.heap[gv]? = some (.cells D 37 (0, 0)) → D = C := fun h => by rw [hC] at h; simp at h; exact h.symm
  have tk : C'.toList.take (n * 6) = xs := by rw [he, List.append_assoc, List.take_append_of_le_length (by omega), List.take_take, Nat.min_self, hxs]
  have tk1 : C'.toList.take ((n + 1) * 6) = xs ++ six := by
    rw [he, List.take_append_of_le_length (by simp; omega), List.take_of_length_le (by simp; omega), hxs]
  have p3 : ∀ {v : Value}, PO base n xs v x → PO base n xs v y := fun ⟨g', cap', D, a1, a2, a3, a4, a5, a6, a7⟩ => by
    by_cases e : g' = gv
    · subst e
      obtain rfl := one a3
      exact ⟨g', cap', C', a1, a2, hC', a4, a5, by omega, tk⟩
    · exact ⟨g', cap', D, a1, a2, (ho g' e).trans a3, a4, a5, a6, a7⟩
  have p9 : ∀ {v : Value}, PO base (n + 1) (xs ++ six) v x → PO base (n + 1) (xs ++ six) v y := fun ⟨g', cap', D, a1, a2, a3, a4, a5, a6, a7⟩ => by
    by_cases e : g' = gv
    · subst e
      obtain rfl := one a3
      exact ⟨g', cap', C', a1, a2, hC', a4, a5, by omega, tk1⟩
    · exact ⟨g', cap', D, a1, a2, (ho g' e).trans a3, a4, a5, a6, a7⟩
  refine ⟨h1, h2, h3, h4, fun b hb _ _ => ho b (by omega), fun i v ht => ?_⟩
  unfold TL at ht ⊢
  split at ht
  · obtain ⟨g0, a1, a2, a3⟩ := ht
    refine ⟨g0, a1, a2, (ho g0 fun e => ?_).trans a3⟩
    subst e
    obtain rfl := one a3
    simp at hCs
    omega
  · exact ht
  · exact ht
  · exact p3 ht
  · exact ht
  · exact ht
  · exact ht
  · exact ht
  · obtain ⟨g0, a1, a2, a3⟩ := ht
    refine ⟨g0, a1, a2, (ho g0 fun e => ?_).trans a3⟩
    subst e
    obtain rfl := one a3
    simp at hCs
    omega
  · exact p9 ht
  · exact ht
  · obtain ⟨u, a1, a2⟩ := ht
    refine ⟨u, (ho yb fun e => ?_).trans a1, p9 a2⟩
    subst e
    rw [hC] at a1
    simp [repoCells] at a1
  · trivial
/-- The variable y is written. -/
theorem EL.store {x : World} {u u' : Value} (hy : yb < base) (hb : x.heap[yb]? = some (repoCells u' room)) (hp : PO base (n + 1) (xs ++ six) u x) : EL base rbk yb g n vc room xs six x (x.setCell ⟨yb, 0, none⟩ u) ∧ TL base rbk yb g n vc room xs six 11 undef (x.setCell ⟨yb, 0, none⟩ u) := by
  have ho : ∀ b, b ≠ yb → (x.setCell ⟨yb, 0, none⟩ u).heap[b]? = x.heap[b]? := fun b h => blk_setCell_other _ _ _ _ h
  have hk : ∀ b, CellsOf x b 37 → (x.setCell ⟨yb, 0, none⟩ u).heap[b]? = x.heap[b]? := fun b hc => ho b fun e => by
    subst e
    exact absurd (hc.one ⟨_, hb⟩) (by decide)
  have t11 : TL base rbk yb g n vc room xs six 11 undef (x.setCell ⟨yb, 0, none⟩ u) := ⟨u, by rw [blk_set hb 0 _]; rfl, hp.on hk⟩
  refine ⟨⟨rfl, rfl, rfl, by simp, fun b _ _ h => ho b h, fun i v ht => ?_⟩, t11⟩
  unfold TL at ht ⊢
  split at ht
  · obtain ⟨g0, a1, a2, a3⟩ := ht; exact ⟨g0, a1, a2, (hk g0 ⟨_, a3⟩).trans a3⟩
  · exact ht
  · exact ht
  · exact PO.on ht hk
  · exact ht
  · exact ht
  · exact ht
  · exact ht
  · obtain ⟨g0, a1, a2, a3⟩ := ht; exact ⟨g0, a1, a2, (hk g0 ⟨_, a3⟩).trans a3⟩
  · exact PO.on ht hk
  · exact ht
  · exact t11
  · trivial
end Go.Proofs.Ytahnfgkjmkiodaa
