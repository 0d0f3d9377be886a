/- The laws' own looks at rows of numbers: whether two are the same, and whether a row is among them. The laws' own looks at rows of numbers: whether two are the same. -/
import Derived.Test.YthkhaemlcmkkjadLdInts
import Derived.Test.YthkhaemlcmkkjadGReg
import Derived.Test.YthkhaemlcmkkjadGSpecP
namespace Go.Proofs.Ythkhaemlcmkkjad
set_option linter.unusedVariables false
set_option linter.unusedSimpArgs false
open Go.RowKit Go.Deep

/-- Rows of numbers that lie in memory. -/
def ListsAt (w : World) (a : Option Addr) (lss : List (List Int)) : Prop := lss.length ≤ 1048576 ∧ (lss = [] ∨ ∃ b o, a = some ⟨b, o, none⟩ ∧ b < w.heap.size ∧ ∀ i, i < lss.length → ∃ a' c, w.cell? ⟨b, o + i, none⟩ = some (.slice a' (lss.getD i []).length c) ∧ SetAt w a' (lss.getD i []))
theorem ListsAt.on {w w' : World} {a : Option Addr} {lss : List (List Int)} (h : ListsAt w a lss) (hb : Below w.heap.size w w') : ListsAt w' a lss := by
  obtain ⟨h0, h⟩ := h
  refine ⟨h0, h.imp id ?_⟩
  rintro ⟨b, o, ha, hlt, hr⟩
  refine ⟨b, o, ha, Nat.lt_of_lt_of_le hlt hb.size, fun i hi => ?_⟩
  obtain ⟨a', c, h1, h2⟩ := hr i hi
  exact ⟨a', c, (hb.cell (p := ⟨b, o + i, none⟩) hlt).trans h1, h2.on hb⟩
theorem ListsAt.take {w : World} {a : Option Addr} {lss : List (List Int)} (h : ListsAt w a lss) (k : Nat) : ListsAt w a (lss.take k) := by
  obtain ⟨h0, h⟩ := h
  refine ⟨by simp; omega, ?_⟩
  rcases h with h | ⟨b, o, ha, hlt, hr⟩
  · left; rw [h]; simp
  · refine Or.inr ⟨b, o, ha, hlt, fun i hi => ?_⟩
    simp at hi
    have e : (lss.take k).getD i [] = lss.getD i [] := by simp [List.getD, List.getElem?_take, show i < k by omega]
    rw [e]
    exact hr i (by omega)
theorem LstI.lists {B : Nat} {w : World} {v : Value} {lss : List (List Int)} {vs : List Value} (h : LstI B w v lss vs) (hl : lss.length ≤ 1048576) (hr : ∀ i, i < lss.length → (lss.getD i []).length ≤ 1048576) : ∃ a cap, v = .slice a lss.length cap ∧ lss.length ≤ cap ∧ cap ≤ maxLen ∧ (a = none → cap = 0) ∧ ListsAt w a lss := by
  by_cases h0 : lss.length = 0
  · have : lss = [] := List.length_eq_zero_iff.1 h0
    rcases h.own.2 with ⟨hv, _⟩ | ⟨g, cap, cur, hv, _, _, hc1, hc2, _⟩
    · exact ⟨none, 0, by rw [hv, h0], by omega, Nat.zero_le _, fun _ => rfl, hl, Or.inl this⟩
    · exact ⟨_, cap, hv, hc1, hc2, (fun e => by cases e), hl, Or.inl this⟩
  · rcases h.own.2 with ⟨hv, h1⟩ | ⟨g, cap, cur, hv, hg, hc, hc1, hc2, _⟩
    · exact absurd h1 h0
    · refine ⟨_, cap, hv, hc1, hc2, (fun e => by cases e), hl, Or.inr ⟨g, 0, rfl, (Array.getElem?_eq_some_iff.1 hc).1, fun i hi => ?_⟩⟩
      obtain ⟨g', cap', hv', _, _, hcell⟩ := h.cell hi
      rw [hv] at hv'
      simp at hv'
      obtain ⟨rfl, rfl⟩ := hv'
      obtain ⟨a', c', e', hs⟩ := RowI.set (h.row i hi) (hr i hi)
      exact ⟨a', c', by rw [Nat.zero_add, hcell, e'], hs⟩

set_option maxRecDepth 100000 in
set_option maxHeartbeats 2000000 in
theorem ldHas_any (a : Option Addr) (lss : List (List Int)) (c : Nat) (ra : Option Addr) (row : List Int) (rc : Nat) (w : World) (h : ListsAt w a lss) (hr : SetAt w ra row) :
    Calls Try.prog 19 #[.slice a lss.length c, .slice ra row.length rc] w fun e w' => e = .returned (.bool (lss.any (fun x => decide (x = row)))) ∧ Below w.heap.size w w' := by
  have hl := h.1
  have HL := hide h
  have HR := hide hr
  clear h hr
  go_enter Try.func19, Try.ntmps19
  go_wp2_with fail
  go_loopw [5] (fun i wr => ∃ k : Nat, k ≤ lss.length ∧ i = .int .i64 k ∧ Hid ((lss.take k).any (fun x => decide (x = row)) = false) ∧ Hid (Below w.heap.size w wr)) (fun i _ => lss.length - (intOf i).toNat)
  case atStart => exact ⟨0, Nat.zero_le _, rfl, rfl, Below.refl _ _⟩
  case round =>
    rename World => wo
    obtain ⟨k, hk, rfl, HN, HB⟩ := hrel
    by_cases hlt : k < lss.length
    · have j1 : (k : Int) < (lss.length : Int) := by omega
      have j0 : (0 : Int) ≤ (k : Int) := by omega
      rcases ((unhide HL).on (unhide HB)).2 with hnil | ⟨b, o, rfl, hbl, hrk⟩
      · rw [hnil] at hlt; simp at hlt
      obtain ⟨a', c', c0, hs⟩ := hrk k hlt
      have htk := any_take_succ (d := ([] : List Int)) (f := fun x => decide (x = row)) hlt
      have hyes := fun h => any_of_take (d := ([] : List Int)) (f := fun x => decide (x = row)) hlt h
      generalize lss.getD k [] = x at c0 hs htk hyes
      have HC := hide (ldIntsZ_any a' x c' ra row rc wo hs ((unhide HR).on (unhide HB)))
      have HTK := hide htk
      have HY := hide hyes
      clear hrk hs htk hyes
      go_wp2_with fail
      refine (unhide HC).mono ?_
      rintro e w2 ⟨rfl, b2⟩
      have HB2 := hide ((unhide HB).trans (b2.mono (unhide HB).size))
      clear b2 HC c0
      cases hz : decide (x = row) with
      | true =>
        go_wp2_with fail
        go_ret
        exact ⟨ret_bool (unhide HY hz).symm, unhide HB2⟩
      | false =>
        go_wp2_with fail
        go_roundw
        case rel => exact ⟨k + 1, by omega, by go_num, by show _ = false; rw [unhide HTK, unhide HN, hz]; rfl, HB2⟩
        case measure => simp [intOf]; omega
    · have j1 : ¬ (k : Int) < (lss.length : Int) := by omega
      have HE : Hid (lss.any (fun x => decide (x = row)) = false) := by
        have := unhide HN
        rw [List.take_of_length_le (by omega)] at this
        exact this
      go_wp2_with fail
      go_ret
      exact ⟨ret_bool (unhide HE).symm, unhide HB⟩
end Go.Proofs.Ythkhaemlcmkkjad

namespace Go.Proofs.Ythkhaemlcmkkjad
set_option linter.unusedVariables false
set_option linter.unusedSimpArgs false
open Go.RowKit Go.Deep

end Go.Proofs.Ythkhaemlcmkkjad
