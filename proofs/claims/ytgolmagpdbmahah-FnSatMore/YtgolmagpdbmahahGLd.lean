/- The laws' own looks at rows of numbers: whether two are the same, and whether a row is among them. The laws' own looks at rows of numbers: whether two are the same. -/
import Derived.Test.YtgolmagpdbmahahLdInts
import Derived.Test.YtgolmagpdbmahahGReg
import Derived.Test.YtgolmagpdbmahahGSpecP
namespace Go.Proofs.Ytgolmagpdbmahah
set_option linter.unusedVariables false
set_option linter.unusedSimpArgs false
open Go.RowKit Go.Deep

/-- Rows of numbers that lie in memory. -/
def ListsAt (w : World) (a : Option Addr) (lss : List (List Int)) : Prop := lss.length ≤ 1048576 ∧ (lss = [] ∨ ∃ b o, a = some ⟨b, o, none⟩ ∧ b < w.heap.size ∧ ∀ i, i < lss.length → ∃ a' c, w.cell? ⟨b, o + i, none⟩ = some (.slice a' (lss.getD i []).length c) ∧ SetAt w a' (lss.getD i []))
theorem ListsAt.on {w w' : World} {a : Option Addr} {lss : List (List Int)} (h : ListsAt w a lss) (hb : Below w.heap.size w w') : ListsAt w' a lss := by
  obtain ⟨h0, h⟩ := h
  refine ⟨h0, h.imp id ?_⟩
  rintro ⟨b, o, ha, hlt, hr⟩
  refine ⟨b, o, ha, Nat.lt_of_lt_of_le hlt hb.size, fun i hi => ?_⟩
  obtain ⟨a', c, h1, h2⟩ := hr i hi
  exact ⟨a', c, (hb.cell (p := ⟨b, o + i, none⟩) hlt).trans h1, h2.on hb⟩
theorem ListsAt.take {w : World} {a : Option Addr} {lss : List (List Int)} (h : ListsAt w a lss) (k : Nat) : ListsAt w a (lss.take k) := by
  obtain ⟨h0, h⟩ := h
  refine ⟨by simp; omega, ?_⟩
  rcases h with h | ⟨b, o, ha, hlt, hr⟩
  · left; rw [h]; simp
  · refine Or.inr ⟨b, o, ha, hlt, fun i hi => ?_⟩
    simp at hi
    have e : (lss.take k).getD i [] = lss.getD i [] := by simp [List.getD, List.getElem?_take, show i < k by omega]
    rw [e]
    exact hr i (by omega)
theorem LstI.lists {B : Nat} {w : World} {v : Value} {lss : List (List Int)} {vs : List Value} (h : LstI B w v lss vs) (hl : lss.length ≤ 1048576) (hr : ∀ i, i < lss.length → (lss.getD i []).length ≤ 1048576) : ∃ a cap, v = .slice a lss.length cap ∧ lss.length ≤ cap ∧ cap ≤ maxLen ∧ (a = none → cap = 0) ∧ ListsAt w a lss := by
  by_cases h0 : lss.length = 0
  · have : lss = [] := List.length_eq_zero_iff.1 h0
    rcases h.own.2 with ⟨hv, _⟩ | ⟨g, cap, cur, hv, _, _, hc1, hc2, _⟩
    · exact ⟨none, 0, by rw [hv, h0], by omega, Nat.zero_le _, fun _ => rfl, hl, Or.inl this⟩
    · exact ⟨_, cap, hv, hc1, hc2, (fun e => by cases e), hl, Or.inl this⟩
  · rcases h.own.2 with ⟨hv, h1⟩ | ⟨g, cap, cur, hv, hg, hc, hc1, hc2, _⟩
    · exact absurd h1 h0
    · refine ⟨_, cap, hv, hc1, hc2, (fun e => by cases e), hl, Or.inr ⟨g, 0, rfl, (Array.getElem?_eq_some_iff.1 hc).1, fun i hi => ?_⟩⟩
      obtain ⟨g', cap', hv', _, _, hcell⟩ := h.cell hi
      rw [hv] at hv'
      simp at hv'
      obtain ⟨rfl, rfl⟩ := hv'
      obtain ⟨a', c', e', hs⟩ := RowI.set (h.row i hi) (hr i hi)
      exact ⟨a', c', by rw [Nat.zero_add, hcell, e'], hs⟩

end Go.Proofs.Ytgolmagpdbmahah

namespace Go.Proofs.Ytgolmagpdbmahah
set_option linter.unusedVariables false
set_option linter.unusedSimpArgs false
open Go.RowKit Go.Deep

set_option maxRecDepth 100000 in
set_option maxHeartbeats 2000000 in
theorem ldRows_same (a : Option Addr) (lss : List (List Int)) (c : Nat) (a2 : Option Addr) (c2 : Nat) (w : World) (h : ListsAt w a lss) (h2 : ListsAt w a2 lss) :
    Calls Try.prog 13 #[.slice a lss.length c, .slice a2 lss.length c2] w fun e w' => e = .returned (.bool true) ∧ Below w.heap.size w w' := by
  have hl := h.1
  have HL := hide h
  have HR := hide h2
  clear h h2
  go_enter Try.func13, Try.ntmps13
  go_wp2_with fail
  go_loopw [5] (fun i wr => ∃ k : Nat, k ≤ lss.length ∧ i = .int .i64 k ∧ Hid (Below w.heap.size w wr)) (fun i _ => lss.length - (intOf i).toNat)
  case atStart => exact ⟨0, Nat.zero_le _, rfl, Below.refl _ _⟩
  case round =>
    rename World => wo
    obtain ⟨k, hk, rfl, HB⟩ := hrel
    by_cases hlt : k < lss.length
    · have j1 : (k : Int) < (lss.length : Int) := by omega
      have j0 : (0 : Int) ≤ (k : Int) := by omega
      rcases ((unhide HL).on (unhide HB)).2 with hnil | ⟨b, o, rfl, hbl, hrk⟩
      · rw [hnil] at hlt; simp at hlt
      rcases ((unhide HR).on (unhide HB)).2 with hnil | ⟨b2, o2, rfl, hbl2, hrk2⟩
      · rw [hnil] at hlt; simp at hlt
      obtain ⟨a', c', c0, hs⟩ := hrk k hlt
      obtain ⟨a3, c3, d0, hs2⟩ := hrk2 k hlt
      generalize lss.getD k [] = x at c0 hs d0 hs2
      have HC := hide (fun y (hy : Below wo.heap.size wo y) => ldIntsZ_any a' x c' a3 x c3 y (hs.on hy) (hs2.on hy))
      clear hrk hs hrk2 hs2
      go_upto_region 6 with fail
      refine wp_region_mix (k := 100) 8 [] [.slice (some ⟨b, o, none⟩) lss.length c, .int .i64 (k : Int), .pointer (some ⟨b, o + k, none⟩), .slice a' x.length c', .slice (some ⟨b2, o2, none⟩) lss.length c2, .int .i64 (k : Int), .pointer (some ⟨b2, o2 + k, none⟩), .slice a3 x.length c3] (C0 wo) (by kernel_rfl) (by kernel_rfl) (by kernel_rfl) (by kernel_rfl) (by kernel_rfl) (by kernel_rfl) ⟨(Below.refl _ _).drew⟩ ?_ ?_ ?_
      · intro full hfull i oo hi hns ho y fl us hC hb
        simp [putAll, slotOf, Act.put] at hfull
        subst hfull
        have bx := hC.below
        rw [← bx.cell (p := ⟨b, _, none⟩) hbl] at c0
        rw [← bx.cell (p := ⟨b2, _, none⟩) hbl2] at d0
        have hC0 := hC.on (b' := fl) (Below.refl _ _)
        match i with
        | 0 => simp at ho; subst ho; simp [gwp, Region.wanted, yielded]; go_simp; first | done | exact hC0 | exact ⟨rfl, hC0⟩ | (simp; exact hC0)
        | 1 => simp at ho; subst ho; simp [gwp, Region.wanted, yielded]; go_simp; first | done | exact hC0 | exact ⟨rfl, hC0⟩ | (simp; exact hC0)
        | 2 => simp at ho; subst ho; simp [gwp, Region.wanted, yielded]; go_simp; first | done | exact hC0 | exact ⟨rfl, hC0⟩ | (simp; exact hC0)
        | 3 => simp at ho; subst ho; simp [gwp, Region.wanted, yielded]; go_simp; first | done | exact hC0 | exact ⟨rfl, hC0⟩ | (simp; exact hC0)
        | 4 => simp at ho; subst ho; simp [gwp, Region.wanted, yielded]; go_simp; first | done | exact hC0 | exact ⟨rfl, hC0⟩ | (simp; exact hC0)
        | 5 => simp at ho; subst ho; simp [gwp, Region.wanted, yielded]; go_simp; first | done | exact hC0 | exact ⟨rfl, hC0⟩ | (simp; exact hC0)
        | 6 => simp at ho; subst ho; simp [gwp, Region.wanted, yielded]; go_simp; first | done | exact hC0 | exact ⟨rfl, hC0⟩ | (simp; exact hC0)
        | 7 => simp at ho; subst ho; simp [gwp, Region.wanted, yielded]; go_simp; first | done | exact hC0 | exact ⟨rfl, hC0⟩ | (simp; exact hC0)
        | i + 8 => omega
      · intro full hfull us j hj
        simp at hj
      · intro full hfull us wz hus hC
        simp [putAll, slotOf, Act.put] at hfull
        subst hfull
        match us, hus with
        | [], _ =>
        have bz := hC.below
        have HC2 := hide (unhide HC wz bz)
        have HZ := hide ((unhide HB).trans (bz.mono (unhide HB).size))
        clear hC bz HC HB
        simp [putP]
        go_wp2_with fail
        refine (unhide HC2).mono ?_
        rintro e w2 ⟨rfl, bb⟩
        have HB2 := hide ((unhide HZ).trans (bb.mono (unhide HZ).size))
        clear bb HC2 HZ
        go_wp2_with fail
        go_roundw
        case rel => exact ⟨k + 1, by omega, by go_num, HB2⟩
        case measure => simp [intOf]; omega
    · have j1 : ¬ (k : Int) < (lss.length : Int) := by omega
      go_wp2_with fail
      go_ret
      exact ⟨rfl, unhide HB⟩
end Go.Proofs.Ytgolmagpdbmahah
