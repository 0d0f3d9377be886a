/- The specification's reader of a code: numbers that are picked. The specification's drawn requests. -/
import Derived.Test.YthkhaemlcmkkjarGBase
import Derived.Deep.QuietTactic
import Derived.Test.YthkhaemlcmkkjarGReg
import Derived.Deep.RegionWith
import Derived.Deep.CutRange
namespace Go.Proofs.Ythkhaemlcmkkjar
set_option linter.unusedVariables false
set_option linter.unusedSimpArgs false
open Go.RowKit Go.Deep

theorem wr64 (n : Int) (h : -9223372036854775808 ≤ n ∧ n ≤ 9223372036854775807) : IntKind.i64.wrap n = n := by rw [IntKind.wrap_i64]; omega

theorem xor_small (x y : Int) (h0 : 0 ≤ x) (h1 : x < 4611686018427387904) (h2 : 0 ≤ y) (h3 : y < 4611686018427387904) : 0 ≤ bits .xor .i64 x y := by
  obtain ⟨a, rfl⟩ : ∃ a : Nat, x = a := ⟨x.toNat, by omega⟩
  obtain ⟨b, rfl⟩ : ∃ b : Nat, y = b := ⟨y.toNat, by omega⟩
  have hx : a ^^^ b < 2 ^ 62 := Nat.xor_lt_two_pow (by omega) (by omega)
  have e1 : (BitVec.ofInt 64 (a : Int)).toNat = a := by
    rw [BitVec.ofInt_natCast, BitVec.toNat_ofNat]; exact Nat.mod_eq_of_lt (by omega)
  have e2 : (BitVec.ofInt 64 (b : Int)).toNat = b := by
    rw [BitVec.ofInt_natCast, BitVec.toNat_ofNat]; exact Nat.mod_eq_of_lt (by omega)
  show 0 ≤ IntKind.i64.wrap ((BitVec.ofInt 64 (a : Int) ^^^ BitVec.ofInt 64 (b : Int)).toNat : Int)
  rw [BitVec.toNat_xor, e1, e2, wr64 _ (by omega)]
  omega

abbrev isRd : TypeId → Prop := fun t => t = 103

/-- The bytes of a code, below block B. -/
def CodeAt (B : Nat) (w : World) (a : Option Addr) (n : Nat) : Prop :=
  n = 0 ∨ ∃ b o, a = some ⟨b, o, none⟩ ∧ b < B ∧ b < w.heap.size ∧ ∀ i, i < n → ∃ z : Int, w.cell? ⟨b, o + i, none⟩ = some (.int .u8 z) ∧ 0 ≤ z ∧ z ≤ 255
theorem CodeAt.on {B : Nat} {w w' : World} {a : Option Addr} {n : Nat} (h : CodeAt B w a n) (hs : w.heap.size ≤ w'.heap.size) (hb : ∀ b, b < B → w'.heap[b]? = w.heap[b]?) : CodeAt B w' a n := by
  rcases h with h | ⟨b, o, ha, h0, h1, h⟩
  · exact Or.inl h
  · refine Or.inr ⟨b, o, ha, h0, by omega, fun i hi => ?_⟩
    obtain ⟨z, hz⟩ := h i hi
    exact ⟨z, by rw [World.cell?_of_block (w := w) (a := ⟨b, o + i, none⟩) (hb b h0)]; exact hz⟩

/-- A reader at block rb that has picked m numbers at most; its code lies below block B. -/
structure Rd (B : Nat) (w : World) (rb : Nat) (m : Int) : Prop where
  past : B ≤ rb
  here : ∃ (a : Option Addr) (n c : Nat) (p : Int), w.heap[rb]? = some (.cells #[.slice a n c, .int .i64 p] 103 (0, 0)) ∧ 0 ≤ p ∧ p ≤ m ∧ n ≤ 2000 ∧ CodeAt B w a n

theorem Rd.lt {B : Nat} {w : World} {rb : Nat} {m : Int} (h : Rd B w rb m) : rb < w.heap.size := by
  obtain ⟨_, a, n, c, p, hh, _⟩ := h
  exact (Array.getElem?_eq_some_iff.1 hh).1
theorem Rd.cells {B : Nat} {w : World} {rb : Nat} {m : Int} (h : Rd B w rb m) : CellsOf w rb 103 := by
  obtain ⟨_, a, n, c, p, hh, _⟩ := h
  exact ⟨_, hh⟩
theorem Rd.on {B : Nat} {w w' : World} {rb : Nat} {m : Int} (h : Rd B w rb m) (hs : w.heap.size ≤ w'.heap.size) (hb : ∀ b, b < B → w'.heap[b]? = w.heap[b]?) (hr : w'.heap[rb]? = w.heap[rb]?) : Rd B w' rb m := by
  obtain ⟨hB, a, n, c, p, hh, h0, h1, h2, hc⟩ := h
  exact ⟨hB, a, n, c, p, hr.trans hh, h0, h1, h2, hc.on hs hb⟩
theorem Rd.below {B : Nat} {w w' : World} {rb : Nat} {m : Int} (h : Rd B w rb m) (hb : Below w.heap.size w w') : Rd B w' rb m :=
  h.on hb.size (fun b hb' => hb.block b (Nat.lt_of_lt_of_le hb' (Nat.le_trans h.past (Nat.le_of_lt h.lt)))) (hb.block rb h.lt)
theorem Rd.alloc {B : Nat} {w : World} {rb : Nat} {m : Int} (h : Rd B w rb m) (o : Obj) : Rd B (w.alloc o) rb m := h.below ((Below.refl _ _).alloc (Nat.le_refl _) _)
theorem Rd.drew {B : Nat} {w : World} {rb : Nat} {m : Int} (h : Rd B w rb m) : Rd B w.drew rb m := h.below (Below.refl _ _).drew
theorem Rd.drewN {B : Nat} {w : World} {rb : Nat} {m : Int} (h : Rd B w rb m) (n : Nat) : Rd B (w.drewN n) rb m := h.on (Nat.le_refl _) (fun _ _ => rfl) rfl
theorem Wrote.drewN {B : Nat} {ts : TypeId → Prop} {w w' : World} (h : Wrote B ts w w') (n : Nat) : Wrote B ts w (w'.drewN n) := ⟨h.os, h.tape, h.output, h.size, h.block, h.shape⟩
theorem Wrote.drew {B : Nat} {ts : TypeId → Prop} {w w' : World} (h : Wrote B ts w w') : Wrote B ts w w'.drew := ⟨h.os, h.tape, h.output, h.size, h.block, h.shape⟩
theorem Rd.more {B : Nat} {w : World} {rb : Nat} {m m' : Int} (h : Rd B w rb m) (hm : m ≤ m') : Rd B w rb m' := by
  obtain ⟨hB, a, n, c, p, hh, h0, h1, h2, hc⟩ := h
  exact ⟨hB, a, n, c, p, hh, h0, by omega, h2, hc⟩
theorem Rd.set {B : Nat} {w : World} {rb : Nat} {m : Int} (h : Rd B w rb m) {b : Nat} (hb : B ≤ b) (hr : b ≠ rb) (i : Nat) (v : Value) : Rd B (w.setCell ⟨b, i, none⟩ v) rb m :=
  h.on (by rw [nblk_setCell]; exact Nat.le_refl _) (fun k hk => blk_setCell_other _ _ _ _ (by show k ≠ b; omega)) (blk_setCell_other _ _ _ _ (by show rb ≠ b; omega))
/-- The reader has picked once more. -/
theorem Rd.pick {B : Nat} {w : World} {rb : Nat} {m p : Int} {a : Option Addr} {n c : Nat} (hB : B ≤ rb) (hh : w.heap[rb]? = some (.cells #[.slice a n c, .int .i64 p] 103 (0, 0))) (h0 : 0 ≤ p) (h1 : p ≤ m) (h2 : n ≤ 2000) (hc : CodeAt B w a n) :
    Rd B (w.setCell ⟨rb, 1, none⟩ (.int .i64 (p + 1))) rb (m + 1) :=
  ⟨hB, a, n, c, p + 1, by rw [blk_set hh]; rfl, by omega, by omega, h2, hc.on (by rw [nblk_setCell]; exact Nat.le_refl _) (fun k hk => blk_setCell_other _ _ _ _ (by show k ≠ rb; omega))⟩
theorem Wrote.pick {B : Nat} {w : World} {rb : Nat} {c : Array Value} (hB : B ≤ rb) (hh : w.heap[rb]? = some (.cells c 103 (0, 0))) (v : Value) : Wrote B isRd w (w.setCell ⟨rb, 1, none⟩ v) :=
  (Wrote.refl B isRd w).set hB ⟨_, hh⟩ (show isRd _ from rfl) _ _

set_option maxHeartbeats 4000000 in
theorem pick_any (B rb : Nat) (m k : Int) (w : World) (h : Rd B w rb m) (hm : m ≤ 1000000) (h1 : 1 ≤ k) (h2 : k ≤ 1000000) :
    Calls Try.prog 23 #[.pointer (some ⟨rb, 0, none⟩), .int .i64 k] w fun e w' => (∃ r : Int, e = .returned (.int .i64 r) ∧ 0 ≤ r ∧ r < k) ∧ Rd B w' rb (m + 1) ∧ Wrote B isRd w w' := by
  obtain ⟨hB, a, n, c, p, hh, hp0, hpm, hn, hc⟩ := h
  have HR := hide (Rd.pick hB hh hp0 hpm hn hc)
  have HW := hide (Wrote.pick hB hh (.int .i64 (p + 1)))
  obtain ⟨c0, c1, cf⟩ := two hh
  have cf1 := cf 1
  obtain ⟨pn, rfl⟩ : ∃ q : Nat, p = q := ⟨p.toNat, by omega⟩
  clear cf
  by_cases hn0 : n = 0
  · subst hn0
    clear hc
    go_enter Try.func23, Try.ntmps23
    go_wp2_with fail
    all_goals
      go_ret
      exact ⟨⟨0, rfl, by omega, by omega⟩, unhide HR, unhide HW⟩
  obtain ⟨b, o, rfl, hbB, hbw, hc⟩ := hc.resolve_left hn0
  have hne : b ≠ rb := by omega
  have hcW : ∀ i, i < n → ∃ z : Int, (w.setCell ⟨rb, 1, none⟩ (.int .i64 (pn + 1))).cell? ⟨b, o + i, none⟩ = some (.int .u8 z) ∧ 0 ≤ z ∧ z ≤ 255 := fun i hi => by
    obtain ⟨z, hz, h0⟩ := hc i hi
    exact ⟨z, (World.cell?_of_block (w := w) (a := ⟨b, o + i, none⟩) (blk_setCell_other _ _ _ _ hne)).trans hz, h0⟩
  obtain ⟨c0W, c1W, _⟩ := two (show (w.setCell ⟨rb, 1, none⟩ (.int .i64 (pn + 1))).heap[rb]? = some (.cells #[.slice (some ⟨b, o, none⟩) n c, .int .i64 (pn + 1)] 103 (0, 0)) by rw [blk_set hh]; rfl)
  have hk1 : ¬ k < 1 := by omega
  have hnb : ((n : Int) == 0) = false := by simp; omega
  clear hh
  clear hc hbB hbw
  by_cases hpn : pn < n
  · obtain ⟨z, hz, hz0, hz1⟩ := hcW pn hpn
    clear hcW
    go_enter Try.func23, Try.ntmps23
    go_wp2_with fail
    go_ret
    exact ⟨⟨_, rfl, Int.emod_nonneg _ (by omega), Int.emod_lt_of_pos _ (by omega)⟩, unhide HR, unhide HW⟩
  · have e7 : IntKind.i64.wrap ((pn : Int) * 7) = (pn : Int) * 7 := wr64 _ (by omega)
    have e73 : IntKind.i64.wrap ((pn : Int) * 7 + 3) = (pn : Int) * 7 + 3 := wr64 _ (by omega)
    have e29 : IntKind.i64.wrap ((pn : Int) * 29) = (pn : Int) * 29 := wr64 _ (by omega)
    obtain ⟨i1, hi1, e1⟩ : ∃ i : Nat, i < n ∧ (pn : Int).tmod n = i := ⟨pn % n, Nat.mod_lt _ (by omega), by rw [Int.tmod_eq_emod_of_nonneg (by omega)]; rfl⟩
    obtain ⟨i2, hi2, e2⟩ : ∃ i : Nat, i < n ∧ ((pn : Int) * 7 + 3).tmod n = i := ⟨(pn * 7 + 3) % n, Nat.mod_lt _ (by omega), by rw [Int.tmod_eq_emod_of_nonneg (by omega)]; rfl⟩
    obtain ⟨d, hd, e3⟩ : ∃ d : Nat, d ≤ 1000000 ∧ (pn : Int).tdiv n = d := ⟨pn / n, by have := Nat.div_le_self pn n; omega, by rw [Int.tdiv_eq_ediv_of_nonneg (by omega)]; rfl⟩
    obtain ⟨z1, hz1, h10, h11⟩ := hcW i1 hi1
    obtain ⟨z2, hz2, h20, h21⟩ := hcW i2 hi2
    have f1 : IntKind.i64.wrap (z1 * 131) = z1 * 131 := wr64 _ (by omega)
    have f2 : IntKind.i64.wrap (z2 * 1117) = z2 * 1117 := wr64 _ (by omega)
    have f3 : IntKind.i64.wrap (z1 * 131 + z2 * 1117) = z1 * 131 + z2 * 1117 := wr64 _ (by omega)
    have f4 : IntKind.i64.wrap (z1 * 131 + z2 * 1117 + (pn : Int) * 29) = z1 * 131 + z2 * 1117 + (pn : Int) * 29 := wr64 _ (by omega)
    have f5 : IntKind.i64.wrap ((d : Int)) = (d : Int) := wr64 _ (by omega)
    have f6 : IntKind.i64.wrap ((d : Int) * 53) = (d : Int) * 53 := wr64 _ (by omega)
    have f7 : IntKind.i64.wrap (z1 * 131 + z2 * 1117 + (pn : Int) * 29 + (d : Int) * 53) = z1 * 131 + z2 * 1117 + (pn : Int) * 29 + (d : Int) * 53 := wr64 _ (by omega)
    clear hcW
    go_enter Try.func23, Try.ntmps23
    go_wp2_with fail
    go_quiet (fail)
    go_wp2_with fail
    go_ret
    have hx := xor_small (z1 * 131 + z2 * 1117 + (pn : Int) * 29 + (d : Int) * 53) ((z1 * 131 + z2 * 1117 + (pn : Int) * 29 + (d : Int) * 53) / 64) (by omega) (by omega) (by omega) (by omega)
    refine ⟨⟨_, rfl, ?_, ?_⟩, (unhide HR).drewN _, (unhide HW).drewN _⟩
    · rw [Int.tmod_eq_emod_of_nonneg hx]
      exact Int.emod_nonneg _ (by omega)
    · rw [Int.tmod_eq_emod_of_nonneg hx]
      exact Int.emod_lt_of_pos _ (by omega)
end Go.Proofs.Ythkhaemlcmkkjar

namespace Go.Proofs.Ythkhaemlcmkkjar
set_option linter.unusedVariables false
set_option linter.unusedSimpArgs false
set_option maxRecDepth 10000
open Go.RowKit Go.Deep

theorem Wrote.blk {B : Nat} {w w' : World} (h : Wrote B isRd w w') {b : Nat} {C : Array Value} {t : TypeId} (hb : w.heap[b]? = some (.cells C t (0, 0))) (ht : t ≠ 103) : w'.heap[b]? = some (.cells C t (0, 0)) :=
  (h.other ⟨C, hb⟩ ht).trans hb
theorem three {w : World} {b : Nat} {v0 v1 v2 : Value} {t : TypeId} (h : w.heap[b]? = some (.cells #[v0, v1, v2] t (0, 0))) :
    w.cell? ⟨b, 0, none⟩ = some v0 ∧ w.cell? ⟨b, 1, none⟩ = some v1 ∧ w.cell? ⟨b, 2, none⟩ = some v2 ∧ w.frozen? ⟨b, 0, none⟩ = false ∧ w.frozen? ⟨b, 1, none⟩ = false ∧ w.frozen? ⟨b, 2, none⟩ = false := by
  simp [World.cell?, World.frozen?, h]
end Go.Proofs.Ythkhaemlcmkkjar
