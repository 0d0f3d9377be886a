/- The program's size of a state. -/
import Derived.Test.YtecipjdbfmldlabStB
import Derived.Test.YtecipjdbfmldlabBitA
namespace Go.Proofs.Ytecipjdbfmldlab
set_option linter.unusedVariables false
set_option linter.unusedSimpArgs false
open Go.RowKit Go.Deep

/-- Places that lie in memory, read alone. -/
def PlAt (w : World) (v : Value) (l : List Nat) : Prop := ∃ a cap, v = .slice a l.length cap ∧ (l = [] ∨ ∃ b, a = some ⟨b, 0, none⟩ ∧ b < w.heap.size ∧ ∀ i, i < l.length → w.cell? ⟨b, i, none⟩ = some (.int .i64 ((l.getD i 0 : Nat) : Int)))
theorem PlAt.on {w w' : World} {v : Value} {l : List Nat} (h : PlAt w v l) (hb : Below w.heap.size w w') : PlAt w' v l := by
  obtain ⟨a, cap, hv, h⟩ := h
  refine ⟨a, cap, hv, h.imp id fun ⟨b, ha, hlt, hc⟩ => ⟨b, ha, Nat.lt_of_lt_of_le hlt hb.size, fun i hi => ?_⟩⟩
  rw [World.cell?_of_block (w := w) (a := ⟨b, i, none⟩) (hb.block b hlt)]
  exact hc i hi
theorem PlAt.of_row {B : Nat} {w : World} {v : Value} {l : List Nat} (h : w.ownsRow B 3 1 v l.length (natVs l)) : PlAt w v l := by
  obtain ⟨h1, h2⟩ := h
  rcases h2 with ⟨hv, h0⟩ | ⟨g, cap, cur, hv, hB, hc, hcap, _, hsz, hx⟩
  · have : l = [] := List.length_eq_zero_iff.1 (by omega)
    subst this
    exact ⟨none, 0, hv, Or.inl rfl⟩
  · refine ⟨some ⟨g, 0, none⟩, cap, hv, ?_⟩
    by_cases h0 : l = []
    · exact Or.inl h0
    · refine Or.inr ⟨g, rfl, (Array.getElem?_eq_some_iff.1 hc).1, fun i hi => ?_⟩
      have e : cur.toList[i]? = some (.int .i64 ((l.getD i 0 : Nat) : Int)) := by
        have : (cur.toList.take (l.length * 1))[i]? = (natVs l)[i]? := by rw [hx]
        rw [List.getElem?_take, if_pos (by omega)] at this
        rw [this]
        simp [natVs, List.getD, hi]
      simp only [World.cell?, hc]
      simpa using e

def sumP (l : List PackD) (ps : List Nat) : Nat → Int
  | 0 => 0
  | k + 1 => sumP l ps k + (l.getD (ps.getD k 0) dPack).size
theorem sumP_bound {l : List PackD} {ps : List Nat} (hp : ∀ p ∈ ps, p < l.length) (hs : ∀ q, q < l.length → 0 ≤ (l.getD q dPack).size ∧ (l.getD q dPack).size ≤ 999) : ∀ k, k ≤ ps.length → 0 ≤ sumP l ps k ∧ sumP l ps k ≤ 999 * k
  | 0, _ => by simp [sumP]
  | k + 1, hk => by
    have ih := sumP_bound hp hs k (by omega)
    have hq := hs (ps.getD k 0) (hp _ (getD_mem (by omega)))
    simp only [sumP]
    omega

set_option maxHeartbeats 4000000 in
theorem size_any (s : Nat) (hs : s < 65536) (a : Option Addr) (l : List PackD) (cap : Nat) (room : Int) (mv av : Value) (hav : ∃ x y z, av = .slice x y z) (hmv : mv.oneCell' = true) (w : World) (h : PacksAt (Old w) w a l) (hp : ∀ p ∈ placesTo s 8, p < l.length) (hsz : ∀ q, q < l.length → 0 ≤ (l.getD q dPack).size ∧ (l.getD q dPack).size ≤ 999) :
    Calls Try.prog 34 #[.agg #[.slice a l.length cap, .int .i64 room, mv, av], .int .u64 (s : Int)] w fun e w' => e = .returned (.int .i64 (sumP l (placesTo s 8) (placesTo s 8).length)) ∧ Below w.heap.size w w' := by
  obtain ⟨xa, xn, xc, rfl⟩ := hav
  have hm := h.1
  unfold maxLen at hm
  have hl8 := places_le s 8
  go_enter Try.func34, Try.ntmps34
  have bA := (Below.refl w.heap.size w).alloc (Nat.le_refl _) (.cells #[.slice a l.length cap, .int .i64 room, mv, .slice xa xn xc] 55)
  have HP := hide (h.on bA)
  clear h
  go_wp2_with fail
  refine (places_any s hs _).mono ?_
  rintro e w1 ⟨⟨v, rfl, hown⟩, b1⟩
  have HPl := hide (PlAt.of_row hown)
  have x0 := b1.cell (p := ⟨w.heap.size, 0, none⟩) (by simp)
  simp at x0
  have HP1 := hide ((unhide HP).on b1)
  have HB1 := hide (bA.trans (b1.mono (by simp)))
  obtain ⟨pa, pc, rfl, hpl⟩ := unhide HPl
  have hbnd := sumP_bound hp hsz
  have HBN := hide hbnd
  clear HP b1 bA hown HPl hbnd
  generalize hps : placesTo s 8 = ps at hp hpl HBN hl8 ⊢
  have HPS := hide hps
  clear hps
  go_wp2_with fail
  go_loopw [5, 11] (fun m i wr => ∃ k : Nat, k ≤ ps.length ∧ i = .int .i64 k ∧ m = .int .i64 (sumP l ps k) ∧ wr = w1) (fun _ i _ => ps.length - (intOf i).toNat)
  case atStart => exact ⟨0, Nat.zero_le _, rfl, rfl, rfl⟩
  case round =>
    rename World => wo
    obtain ⟨k, hk, rfl, rfl, rfl⟩ := hrel
    by_cases hlt : k < ps.length
    · rcases hpl with hpl | ⟨b, rfl, _, hpl⟩
      · rw [hpl] at hlt; simp at hlt
      have c0 := hpl k hlt
      have hq := hp _ (getD_mem (d := 0) hlt)
      have hbd := unhide HBN k hk
      have hss := hsz _ hq
      have hsum : sumP l ps (k + 1) = sumP l ps k + (l.getD (ps.getD k 0) dPack).size := rfl
      generalize ps.getD k 0 = q at c0 hq hss hsum
      rcases (unhide HP1).2 with hnil | ⟨pb, po, rfl, hpS, hpk⟩
      · rw [hnil] at hq; simp at hq
      obtain ⟨a1, c1, a2, c2, a3, c3, hcells, _⟩ := hpk q hq
      have n2 := hcells.size
      generalize (l.getD q dPack).size = z at n2 hss hsum
      generalize sumP l ps k = t at hbd hsum ⊢
      have j1 : (k : Int) < (ps.length : Int) := by omega
      have j2 : (q : Int) < (l.length : Int) := by omega
      have hws : IntKind.i64.wrap (t + z) = t + z := by rw [IntKind.wrap_i64]; omega
      have HSUM := hide hsum
      clear hcells hpk hpl hsum
      go_wp2_with fail
      go_roundw
      case rel => exact ⟨k + 1, by omega, by go_num, by rw [unhide HSUM], by first | rfl | trivial⟩
      case measure => simp [intOf]; omega
    · have hkk : k = ps.length := by omega
      subst hkk
      have j1 : ¬ ((ps.length : Nat) : Int) < (ps.length : Int) := by omega
      go_wp2_with fail
      go_ret
      exact ⟨by rw [unhide HPS]; rfl, unhide HB1⟩
end Go.Proofs.Ytecipjdbfmldlab
