/- Two packs turned about: no ok ones; how they lie. -/
import Derived.Test.YtahnfgkjmkiodarDoorAsc
import Derived.Test.YtahnfgkjmkiodarDoorGrowB
import Derived.Test.YtahnfgkjmkiodarDoorImplD
namespace Go.Proofs.YtahnfgkjmkiodarDoor
set_option linter.unusedVariables false
set_option linter.unusedSimpArgs false
open Go.RowKit Go.Deep

def turnL (l : List PackD) (k : Nat) : List PackD := (List.range l.length).map fun i => l.getD (if i = k then k + 1 else if i = k + 1 then k else i) dPack
theorem turn_len (l : List PackD) (k : Nat) : (turnL l k).length = l.length := by simp [turnL]
theorem turn_at (l : List PackD) (k : Nat) {i : Nat} (h : i < l.length) : (turnL l k).getD i dPack = l.getD (if i = k then k + 1 else if i = k + 1 then k else i) dPack := by simp [turnL, List.getD, h]
theorem turn_no {l : List PackD} {room : Int} {k : Nat} (h : repoB ⟨l, room⟩ = true) (hk : k + 1 < l.length) : repoB ⟨turnL l k, room⟩ = false := by
  cases h' : repoB ⟨turnL l k, room⟩ with
  | false => rfl
  | true =>
    simp only [repoB, Bool.and_eq_true, decide_eq_true_eq] at h h'
    have a1 := asc_at h.2 hk
    have a2 := asc_at h'.2 (i := k) (by rw [turn_len]; exact hk)
    rw [turn_at l k (by omega), turn_at l k hk] at a2
    rw [if_pos rfl, if_neg (by omega), if_pos rfl] at a2
    have := ahead_trans a1 a2
    rw [ahead_irrefl] at this
    cases this
/-- Packs whose cells are those of others, two of them turned about. -/
theorem PacksAt.turn {w : World} {g g9 k : Nat} {l : List PackD} (h : PacksAt (Old w) w (some ⟨g, 0, none⟩) l) (hk : k + 1 < l.length) (h9 : g9 < w.heap.size) (he : ∀ i, i < l.length → ∀ j, j < 6 → w.cell? ⟨g9, i * 6 + j, none⟩ = w.cell? ⟨g, (if i = k then k + 1 else if i = k + 1 then k else i) * 6 + j, none⟩) :
    PacksAt (Old w) w (some ⟨g9, 0, none⟩) (turnL l k) := by
  obtain ⟨h0, h⟩ := h
  refine ⟨by rw [turn_len]; exact h0, Or.inr ⟨g9, 0, rfl, h9, fun i hi => ?_⟩⟩
  rw [turn_len] at hi
  rcases h with h | ⟨b, o, ha, hS, h⟩
  · rw [h] at hi; simp at hi
  simp at ha
  obtain ⟨rfl, rfl⟩ := ha
  rw [turn_at l k hi]
  have hs : (if i = k then k + 1 else if i = k + 1 then k else i) < l.length := by
    split
    · omega
    · split <;> omega
  have hc := he i hi
  generalize (if i = k then k + 1 else if i = k + 1 then k else i) = q at hs hc
  obtain ⟨a1, c1, a2, c2, a3, c3, hp, hv⟩ := h q hs
  obtain ⟨p0, p1, p2, p3, p4, p5⟩ := hp
  simp only [Nat.zero_add] at p0 p1 p2 p3 p4 p5
  refine ⟨a1, c1, a2, c2, a3, c3, ⟨?_, ?_, ?_, ?_, ?_, ?_⟩, hv⟩
  · rw [Nat.zero_add]; exact (hc 0 (by omega)).trans p0
  · rw [Nat.zero_add]; exact (hc 1 (by omega)).trans p1
  · rw [Nat.zero_add]; exact (hc 2 (by omega)).trans p2
  · rw [Nat.zero_add]; exact (hc 3 (by omega)).trans p3
  · rw [Nat.zero_add]; exact (hc 4 (by omega)).trans p4
  · rw [Nat.zero_add]; exact (hc 5 (by omega)).trans p5

/-- Packs copied by append onto an empty list. -/
theorem copy_packs (x : World) (g n vc g0 : Nat) (xs : List Value) (hxl : xs.length = n * 6) (hxc : ∀ j u, xs[j]? = some u → x.cell? ⟨g, j, none⟩ = some u) (hn : 0 < n) (hn2 : n ≤ 1000) :
    ∃ (cap : Nat) (C : Array Value) (y : World), (Builtin.append_ #[23, 23] 23 #[.slice (some ⟨g0, 0, none⟩) 0 0, .slice (some ⟨g, 0, none⟩) n vc]).run Tryd.prog x = .ok (.slice (some ⟨x.heap.size, 0, none⟩) n cap) y ∧ y.heap[x.heap.size]? = some (.cells C 31 (0, 0)) ∧ n ≤ cap ∧ cap ≤ maxLen ∧ C.size = cap * 6 ∧ C.toList.take (n * 6) = xs ∧ Below x.heap.size x y := by
  obtain ⟨i0, hi0, hz0, hz1i, hz2i⟩ := info_parts Tryd.infoPack
  have hr := run_append_grow (P := Tryd.prog) x 23 23 31 i0 _ Tryd.underlying23 hi0 hz0 ⟨g0, 0, none⟩ 0 0 [] (by simp) (by simp) ⟨g, 0, none⟩ n vc xs (by rw [hz1i]; exact hxl) (fun j u hu => by rw [show (⟨g, 0, none⟩ : Addr).add j = ⟨g, j, none⟩ by unfold Addr.add; split <;> simp_all]; exact hxc j u hu) (by omega) (by omega) (growslice_fits (by omega) (by rw [hz2i]; omega))
  have hge := grownCap_ge x (0 + n) 0 31
  have hcap := grownCap_le_maxLen x (0 + n) 0 31 (by unfold maxLen; omega)
  refine ⟨grownCap x (0 + n) 0 31, _, _, by simpa using hr, heap_alloc_new x.drew _, by omega, hcap, ?_, ?_, (Below.refl _ _).drew.alloc (Nat.le_refl _) _⟩
  · simp only [Array.size_append, List.size_toArray, size_zeroCells, hxl]
    show n * 6 + (grownCap x n 0 31 - n) * 6 = _
    simp only [Nat.zero_add] at hge ⊢
    omega
  · simp [hxl]

/-- Six cells in a row are written. -/
theorem set6 (C : Array Value) (p : Nat) (v0 v1 v2 v3 v4 v5 : Value) (hp : p + 6 ≤ C.size) :
    ∃ C' : Array Value, C' = (((((C.setIfInBounds p v0).setIfInBounds (p + 1) v1).setIfInBounds (p + 2) v2).setIfInBounds (p + 3) v3).setIfInBounds (p + 4) v4).setIfInBounds (p + 5) v5 ∧ C'.size = C.size ∧ (∀ q, q < p ∨ p + 6 ≤ q → C'[q]? = C[q]?) ∧ C'[p]? = some v0 ∧ C'[p + 1]? = some v1 ∧ C'[p + 2]? = some v2 ∧ C'[p + 3]? = some v3 ∧ C'[p + 4]? = some v4 ∧ C'[p + 5]? = some v5 := by
  refine ⟨_, rfl, by simp, fun q hq => ?_, ?_, ?_, ?_, ?_, ?_, ?_⟩
  · simp only [Array.getElem?_setIfInBounds]
    rw [if_neg (by omega), if_neg (by omega), if_neg (by omega), if_neg (by omega), if_neg (by omega), if_neg (by omega)]
  all_goals
    simp only [Array.getElem?_setIfInBounds, Array.size_setIfInBounds]
    repeat (first | rw [if_pos trivial] | rw [if_pos rfl] | rw [if_neg (by omega)] | rw [if_pos (by omega)])

theorem store6 (x : World) (g p : Nat) {C : Array Value} (hC : x.heap[g]? = some (.cells C 31 (0, 0))) (hp : p + 6 ≤ C.size) (v0 v1 v2 v3 v4 v5 : Value) :
    ∃ C' : Array Value, ((((((x.setCell ⟨g, p, none⟩ v0).setCell ⟨g, p + 1, none⟩ v1).setCell ⟨g, p + 2, none⟩ v2).setCell ⟨g, p + 3, none⟩ v3).setCell ⟨g, p + 4, none⟩ v4).setCell ⟨g, p + 5, none⟩ v5).heap[g]? = some (.cells C' 31 (0, 0)) ∧ C'.size = C.size ∧ (∀ q, q < p ∨ p + 6 ≤ q → C'[q]? = C[q]?) ∧ C'[p]? = some v0 ∧ C'[p + 1]? = some v1 ∧ C'[p + 2]? = some v2 ∧ C'[p + 3]? = some v3 ∧ C'[p + 4]? = some v4 ∧ C'[p + 5]? = some v5 := by
  obtain ⟨C', rfl, h⟩ := set6 C p v0 v1 v2 v3 v4 v5 hp
  exact ⟨_, by rw [blk_set (blk_set (blk_set (blk_set (blk_set (blk_set hC p _) (p + 1) _) (p + 2) _) (p + 3) _) (p + 4) _) (p + 5) _], h⟩
theorem store6_other (x : World) (g p : Nat) (v0 v1 v2 v3 v4 v5 : Value) {b : Nat} (h : b ≠ g) : ((((((x.setCell ⟨g, p, none⟩ v0).setCell ⟨g, p + 1, none⟩ v1).setCell ⟨g, p + 2, none⟩ v2).setCell ⟨g, p + 3, none⟩ v3).setCell ⟨g, p + 4, none⟩ v4).setCell ⟨g, p + 5, none⟩ v5).heap[b]? = x.heap[b]? :=
  (blk_setCell_other _ ⟨g, p + 5, none⟩ _ _ h).trans ((blk_setCell_other _ ⟨g, p + 4, none⟩ _ _ h).trans ((blk_setCell_other _ ⟨g, p + 3, none⟩ _ _ h).trans ((blk_setCell_other _ ⟨g, p + 2, none⟩ _ _ h).trans ((blk_setCell_other _ ⟨g, p + 1, none⟩ _ _ h).trans (blk_setCell_other _ ⟨g, p, none⟩ _ _ h)))))
theorem store6_below {B : Nat} {w : World} (x : World) (g p : Nat) (v0 v1 v2 v3 v4 v5 : Value) (hb : Below B w x) (hB : B ≤ g) : Below B w ((((((x.setCell ⟨g, p, none⟩ v0).setCell ⟨g, p + 1, none⟩ v1).setCell ⟨g, p + 2, none⟩ v2).setCell ⟨g, p + 3, none⟩ v3).setCell ⟨g, p + 4, none⟩ v4).setCell ⟨g, p + 5, none⟩ v5) := by
  refine Below.setCell (Below.setCell (Below.setCell (Below.setCell (Below.setCell (Below.setCell hb ?_ _) ?_ _) ?_ _) ?_ _) ?_ _) ?_ _
  all_goals exact hB

set_option maxHeartbeats 1000000 in
theorem implRepoWrite_no (a : Option Addr) (packs : List PackD) (cap : Nat) (room : Int) (w : World) (h : PacksAt (Old w) w a packs) (hno : repoB ⟨packs, room⟩ = false) :
    Calls Tryd.prog 7 #[.agg #[.slice a packs.length cap, .int .i64 room]] w fun e w' => e = .returned (.string ⟨#[]⟩) ∧ Below w.heap.size w w' := by
  have HC := hide (implRepoOk_any a packs cap room _ (h.on ((Below.refl _ _).alloc (Nat.le_refl _) (.cells #[.slice a packs.length cap, .int .i64 room] 25))))
  rw [hno] at HC
  clear h
  go_enter Tryd.func7, Tryd.ntmps7
  go_wp2_with fail
  refine (unhide HC).mono ?_
  rintro e w1 ⟨rfl, b1⟩
  go_wp2_with fail
  go_ret
  exact ⟨rfl, ((Below.refl _ _).alloc (Nat.le_refl _) _).trans (b1.mono (by simp))⟩
end Go.Proofs.YtahnfgkjmkiodarDoor
