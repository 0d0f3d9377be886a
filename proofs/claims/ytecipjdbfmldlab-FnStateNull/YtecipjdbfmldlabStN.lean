/- The program's numbers of names. -/
import Derived.Test.YtecipjdbfmldlabStC
import Derived.Maps.OwnOps
import Derived.Maps.OwnSet
import Derived.Maps.Own
import Derived.StringKeys
import Derived.Maps.AppendAt
namespace Go.Proofs.Ytecipjdbfmldlab
set_option linter.unusedVariables false
set_option linter.unusedSimpArgs false
open Go.RowKit Go.Deep Go.Maps

theorem lawStr : Keyed Try.prog 9 := string_keyed Try.underlying9
theorem zeroInt (w : World) : (zeroValue 3).run Try.prog w = .ok (.int .i64 0) w := by kernel_rfl
/-- The map of names at block bm, as the datum D. -/
abbrev Names (w : World) (bm n : Nat) (D : DataW Unit) : Prop := w.ownsMap Try.prog 9 (plainElem (H := Unit) Try.prog 3) bm n D
abbrev nkey (nm : ByteArray) : Lit := .string nm.data.toList

abbrev i64D (z : Int) : DataW Unit := .lit (.int .i64 z)
/-- The number of a name: as it was, or a new one. -/
def NumStep (D : DataW Unit) (nm : ByteArray) (c : Int) (D' : DataW Unit) : Prop :=
  (c ≠ 0 ∧ D' = D ∧ D.atKey (nkey nm) (i64D 0) = i64D c) ∨ (D.atKey (nkey nm) (i64D 0) = i64D 0 ∧ c = (Maps.size D : Int) + 1 ∧ D' = D.put (nkey nm) (i64D c))

set_option maxRecDepth 100000 in
set_option maxHeartbeats 2000000 in
theorem numberOf_any (nm : ByteArray) (hnm : nm.size ≤ maxLen) (bm n : Nat) (D : DataW Unit) (hn : n < 1000) (hsz : Maps.size D ≤ n) (a : Option Addr) (pn pc : Nat) (room : Int) (xa : Option Addr) (xn xc : Nat) (w : World) (hown : Names w bm n D) (hbm : bm < w.heap.size) :
    Calls Try.prog 54 #[.agg #[.slice a pn pc, .int .i64 room, .map (some bm), .slice xa xn xc], .string nm] w fun e w' => ∃ (c : Int) (n' : Nat) (D' : DataW Unit), e = .returned (.int .i64 c) ∧ n' ≤ n + 1 ∧ Names w' bm n' D' ∧ NumStep D nm c D' ∧ w.grownBy w' (some bm) := by
  have hkey := Go.WideMaps.keyOf_string_mk (P := Try.prog) Try.underlying9 hnm
  have hown0 := hown.alloc (.cells #[.slice a pn pc, .int .i64 room, .map (some bm), .slice xa xn xc] 55)
  have hws : IntKind.i64.wrap ((Maps.size D : Int) + 1) = (Maps.size D : Int) + 1 := by rw [IntKind.wrap_i64]; omega
  go_enter Try.func54, Try.ntmps54
  go_wp2_with (first
    | (at_lookup; refine wpList_lookup_own_int _ rfl _ _ 52 rfl 9 3 .i64 lawStr Try.underlying52 Try.underlying3 (zeroInt _) bm _ _ rfl hown1 _ _ rfl hkey ?_; intro c2 hat2 hwc2)
    | (at_lookup; refine wpList_lookup_own_int _ rfl _ _ 52 rfl 9 3 .i64 lawStr Try.underlying52 Try.underlying3 (zeroInt _) bm _ _ rfl hown0 _ _ rfl hkey ?_; intro c hat hwc)
    | (at_len; refine wpList_len_own _ rfl _ 52 rfl 9 3 Try.underlying52 _ bm _ _ rfl hown0 ?_)
    | (at_mapUpdate; refine wpList_mapUpdate_own _ rfl _ _ _ 52 rfl 9 3 lawStr Try.underlying52 _ bm _ _ rfl hown0 (by unfold maxLen; omega) _ _ _ rfl rfl hkey _ [] (plainElem_int Try.underlying3 (WalkArith.wf_i64 (by omega))) ?_; intro w1 hown1 hgrow1; have z2 := (World.cell?_of_block (w := w.alloc (.cells #[.slice a pn pc, .int .i64 room, .map (some bm), .slice xa xn xc] 55)) (a := ⟨w.heap.size, 2, none⟩) (hgrow1.block w.heap.size (by simp) (by simp; omega))); simp at z2)
    | go_in)
  · rename_i hc0
    have hc : c = 0 := by simpa using hc0
    subst hc
    have e2 : c2 = (Maps.size D : Int) + 1 := by
      rw [atKey_put_same hown.isMap (show WideAt.IsKeyLit (.string nm.data.toList) from trivial)] at hat2
      simp at hat2
      exact hat2.symm
    subst e2
    go_ret
    exact ⟨_, n + 1, _, rfl, Nat.le_refl _, hown1, Or.inr ⟨hat, rfl, rfl⟩, (World.grownBy_alloc _ _ _).trans hgrow1⟩
  · rename_i c' hat' hwc' hc0
    have hcc : c = c' := by
      rw [hat] at hat'
      simpa using hat'
    have hc : c ≠ 0 := by
      rw [hcc]
      simpa using hc0
    go_ret
    exact ⟨c, n, D, rfl, Nat.le_succ _, hown0, Or.inl ⟨hc, rfl, hat⟩, World.grownBy_alloc _ _ _⟩
end Go.Proofs.Ytecipjdbfmldlab
