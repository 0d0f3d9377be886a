/- The specification's reader of a code: numbers that are picked. The specification's drawn requests. -/
import Derived.Test.YthkhaemlcmkkjasGreatGBase
import Derived.Deep.QuietTactic
import Derived.Test.YthkhaemlcmkkjasGreatGReg
import Derived.Deep.RegionWith
import Derived.Deep.CutRange
namespace Go.Proofs.YthkhaemlcmkkjasGreat
set_option linter.unusedVariables false
set_option linter.unusedSimpArgs false
open Go.RowKit Go.Deep

theorem wr64 (n : Int) (h : -9223372036854775808 ≤ n ∧ n ≤ 9223372036854775807) : IntKind.i64.wrap n = n := by rw [IntKind.wrap_i64]; omega

theorem xor_small (x y : Int) (h0 : 0 ≤ x) (h1 : x < 4611686018427387904) (h2 : 0 ≤ y) (h3 : y < 4611686018427387904) : 0 ≤ bits .xor .i64 x y := by
  obtain ⟨a, rfl⟩ : ∃ a : Nat, x = a := ⟨x.toNat, by omega⟩
  obtain ⟨b, rfl⟩ : ∃ b : Nat, y = b := ⟨y.toNat, by omega⟩
  have hx : a ^^^ b < 2 ^ 62 := Nat.xor_lt_two_pow (by omega) (by omega)
  have e1 : (BitVec.ofInt 64 (a : Int)).toNat = a := by
    rw [BitVec.ofInt_natCast, BitVec.toNat_ofNat]; exact Nat.mod_eq_of_lt (by omega)
  have e2 : (BitVec.ofInt 64 (b : Int)).toNat = b := by
    rw [BitVec.ofInt_natCast, BitVec.toNat_ofNat]; exact Nat.mod_eq_of_lt (by omega)
  show 0 ≤ IntKind.i64.wrap ((BitVec.ofInt 64 (a : Int) ^^^ BitVec.ofInt 64 (b : Int)).toNat : Int)
  rw [BitVec.toNat_xor, e1, e2, wr64 _ (by omega)]
  omega

abbrev isRd : TypeId → Prop := fun t => t = 70

/-- The bytes of a code, below block B. -/
def CodeAt (B : Nat) (w : World) (a : Option Addr) (n : Nat) : Prop :=
  n = 0 ∨ ∃ b o, a = some ⟨b, o, none⟩ ∧ b < B ∧ b < w.heap.size ∧ ∀ i, i < n → ∃ z : Int, w.cell? ⟨b, o + i, none⟩ = some (.int .u8 z) ∧ 0 ≤ z ∧ z ≤ 255
theorem CodeAt.on {B : Nat} {w w' : World} {a : Option Addr} {n : Nat} (h : CodeAt B w a n) (hs : w.heap.size ≤ w'.heap.size) (hb : ∀ b, b < B → w'.heap[b]? = w.heap[b]?) : CodeAt B w' a n := by
  rcases h with h | ⟨b, o, ha, h0, h1, h⟩
  · exact Or.inl h
  · refine Or.inr ⟨b, o, ha, h0, by omega, fun i hi => ?_⟩
    obtain ⟨z, hz⟩ := h i hi
    exact ⟨z, by rw [World.cell?_of_block (w := w) (a := ⟨b, o + i, none⟩) (hb b h0)]; exact hz⟩

/-- A reader at block rb that has picked m numbers at most; its code lies below block B. -/
structure Rd (B : Nat) (w : World) (rb : Nat) (m : Int) : Prop where
  past : B ≤ rb
  here : ∃ (a : Option Addr) (n c : Nat) (p : Int), w.heap[rb]? = some (.cells #[.slice a n c, .int .i64 p] 70 (0, 0)) ∧ 0 ≤ p ∧ p ≤ m ∧ n ≤ 2000 ∧ CodeAt B w a n

theorem Rd.lt {B : Nat} {w : World} {rb : Nat} {m : Int} (h : Rd B w rb m) : rb < w.heap.size := by
  obtain ⟨_, a, n, c, p, hh, _⟩ := h
  exact (Array.getElem?_eq_some_iff.1 hh).1
theorem Rd.cells {B : Nat} {w : World} {rb : Nat} {m : Int} (h : Rd B w rb m) : CellsOf w rb 70 := by
  obtain ⟨_, a, n, c, p, hh, _⟩ := h
  exact ⟨_, hh⟩
theorem Rd.on {B : Nat} {w w' : World} {rb : Nat} {m : Int} (h : Rd B w rb m) (hs : w.heap.size ≤ w'.heap.size) (hb : ∀ b, b < B → w'.heap[b]? = w.heap[b]?) (hr : w'.heap[rb]? = w.heap[rb]?) : Rd B w' rb m := by
  obtain ⟨hB, a, n, c, p, hh, h0, h1, h2, hc⟩ := h
  exact ⟨hB, a, n, c, p, hr.trans hh, h0, h1, h2, hc.on hs hb⟩
theorem Rd.below {B : Nat} {w w' : World} {rb : Nat} {m : Int} (h : Rd B w rb m) (hb : Below w.heap.size w w') : Rd B w' rb m :=
  h.on hb.size (fun b hb' => hb.block b (Nat.lt_of_lt_of_le hb' (Nat.le_trans h.past (Nat.le_of_lt h.lt)))) (hb.block rb h.lt)
theorem Rd.alloc {B : Nat} {w : World} {rb : Nat} {m : Int} (h : Rd B w rb m) (o : Obj) : Rd B (w.alloc o) rb m := h.below ((Below.refl _ _).alloc (Nat.le_refl _) _)
theorem Rd.drew {B : Nat} {w : World} {rb : Nat} {m : Int} (h : Rd B w rb m) : Rd B w.drew rb m := h.below (Below.refl _ _).drew
theorem Rd.drewN {B : Nat} {w : World} {rb : Nat} {m : Int} (h : Rd B w rb m) (n : Nat) : Rd B (w.drewN n) rb m := h.on (Nat.le_refl _) (fun _ _ => rfl) rfl
theorem Wrote.drewN {B : Nat} {ts : TypeId → Prop} {w w' : World} (h : Wrote B ts w w') (n : Nat) : Wrote B ts w (w'.drewN n) := ⟨h.os, h.tape, h.output, h.size, h.block, h.shape⟩
theorem Wrote.drew {B : Nat} {ts : TypeId → Prop} {w w' : World} (h : Wrote B ts w w') : Wrote B ts w w'.drew := ⟨h.os, h.tape, h.output, h.size, h.block, h.shape⟩
theorem Rd.more {B : Nat} {w : World} {rb : Nat} {m m' : Int} (h : Rd B w rb m) (hm : m ≤ m') : Rd B w rb m' := by
  obtain ⟨hB, a, n, c, p, hh, h0, h1, h2, hc⟩ := h
  exact ⟨hB, a, n, c, p, hh, h0, by omega, h2, hc⟩
theorem Rd.set {B : Nat} {w : World} {rb : Nat} {m : Int} (h : Rd B w rb m) {b : Nat} (hb : B ≤ b) (hr : b ≠ rb) (i : Nat) (v : Value) : Rd B (w.setCell ⟨b, i, none⟩ v) rb m :=
  h.on (by rw [nblk_setCell]; exact Nat.le_refl _) (fun k hk => blk_setCell_other _ _ _ _ (by show k ≠ b; omega)) (blk_setCell_other _ _ _ _ (by show rb ≠ b; omega))
/-- The reader has picked once more. -/
theorem Rd.pick {B : Nat} {w : World} {rb : Nat} {m p : Int} {a : Option Addr} {n c : Nat} (hB : B ≤ rb) (hh : w.heap[rb]? = some (.cells #[.slice a n c, .int .i64 p] 70 (0, 0))) (h0 : 0 ≤ p) (h1 : p ≤ m) (h2 : n ≤ 2000) (hc : CodeAt B w a n) :
    Rd B (w.setCell ⟨rb, 1, none⟩ (.int .i64 (p + 1))) rb (m + 1) :=
  ⟨hB, a, n, c, p + 1, by rw [blk_set hh]; rfl, by omega, by omega, h2, hc.on (by rw [nblk_setCell]; exact Nat.le_refl _) (fun k hk => blk_setCell_other _ _ _ _ (by show k ≠ rb; omega))⟩
theorem Wrote.pick {B : Nat} {w : World} {rb : Nat} {c : Array Value} (hB : B ≤ rb) (hh : w.heap[rb]? = some (.cells c 70 (0, 0))) (v : Value) : Wrote B isRd w (w.setCell ⟨rb, 1, none⟩ v) :=
  (Wrote.refl B isRd w).set hB ⟨_, hh⟩ (show isRd _ from rfl) _ _

set_option maxHeartbeats 4000000 in
theorem pick_any (B rb : Nat) (m k : Int) (w : World) (h : Rd B w rb m) (hm : m ≤ 1000000) (h1 : 1 ≤ k) (h2 : k ≤ 1000000) :
    Calls Tryz.prog 13 #[.pointer (some ⟨rb, 0, none⟩), .int .i64 k] w fun e w' => (∃ r : Int, e = .returned (.int .i64 r) ∧ 0 ≤ r ∧ r < k) ∧ Rd B w' rb (m + 1) ∧ Wrote B isRd w w' := by
  obtain ⟨hB, a, n, c, p, hh, hp0, hpm, hn, hc⟩ := h
  have HR := hide (Rd.pick hB hh hp0 hpm hn hc)
  have HW := hide (Wrote.pick hB hh (.int .i64 (p + 1)))
  obtain ⟨c0, c1, cf⟩ := two hh
  have cf1 := cf 1
  obtain ⟨pn, rfl⟩ : ∃ q : Nat, p = q := ⟨p.toNat, by omega⟩
  clear cf
  by_cases hn0 : n = 0
  · subst hn0
    clear hc
    go_enter Tryz.func13, Tryz.ntmps13
    go_wp2_with fail
    all_goals
      go_ret
      exact ⟨⟨0, rfl, by omega, by omega⟩, unhide HR, unhide HW⟩
  obtain ⟨b, o, rfl, hbB, hbw, hc⟩ := hc.resolve_left hn0
  have hne : b ≠ rb := by omega
  have hcW : ∀ i, i < n → ∃ z : Int, (w.setCell ⟨rb, 1, none⟩ (.int .i64 (pn + 1))).cell? ⟨b, o + i, none⟩ = some (.int .u8 z) ∧ 0 ≤ z ∧ z ≤ 255 := fun i hi => by
    obtain ⟨z, hz, h0⟩ := hc i hi
    exact ⟨z, (World.cell?_of_block (w := w) (a := ⟨b, o + i, none⟩) (blk_setCell_other _ _ _ _ hne)).trans hz, h0⟩
  obtain ⟨c0W, c1W, _⟩ := two (show (w.setCell ⟨rb, 1, none⟩ (.int .i64 (pn + 1))).heap[rb]? = some (.cells #[.slice (some ⟨b, o, none⟩) n c, .int .i64 (pn + 1)] 70 (0, 0)) by rw [blk_set hh]; rfl)
  have hk1 : ¬ k < 1 := by omega
  have hnb : ((n : Int) == 0) = false := by simp; omega
  clear hh
  clear hc hbB hbw
  by_cases hpn : pn < n
  · obtain ⟨z, hz, hz0, hz1⟩ := hcW pn hpn
    clear hcW
    go_enter Tryz.func13, Tryz.ntmps13
    go_wp2_with fail
    go_ret
    exact ⟨⟨_, rfl, Int.emod_nonneg _ (by omega), Int.emod_lt_of_pos _ (by omega)⟩, unhide HR, unhide HW⟩
  · have e7 : IntKind.i64.wrap ((pn : Int) * 7) = (pn : Int) * 7 := wr64 _ (by omega)
    have e73 : IntKind.i64.wrap ((pn : Int) * 7 + 3) = (pn : Int) * 7 + 3 := wr64 _ (by omega)
    have e29 : IntKind.i64.wrap ((pn : Int) * 29) = (pn : Int) * 29 := wr64 _ (by omega)
    obtain ⟨i1, hi1, e1⟩ : ∃ i : Nat, i < n ∧ (pn : Int).tmod n = i := ⟨pn % n, Nat.mod_lt _ (by omega), by rw [Int.tmod_eq_emod_of_nonneg (by omega)]; rfl⟩
    obtain ⟨i2, hi2, e2⟩ : ∃ i : Nat, i < n ∧ ((pn : Int) * 7 + 3).tmod n = i := ⟨(pn * 7 + 3) % n, Nat.mod_lt _ (by omega), by rw [Int.tmod_eq_emod_of_nonneg (by omega)]; rfl⟩
    obtain ⟨d, hd, e3⟩ : ∃ d : Nat, d ≤ 1000000 ∧ (pn : Int).tdiv n = d := ⟨pn / n, by have := Nat.div_le_self pn n; omega, by rw [Int.tdiv_eq_ediv_of_nonneg (by omega)]; rfl⟩
    obtain ⟨z1, hz1, h10, h11⟩ := hcW i1 hi1
    obtain ⟨z2, hz2, h20, h21⟩ := hcW i2 hi2
    have f1 : IntKind.i64.wrap (z1 * 131) = z1 * 131 := wr64 _ (by omega)
    have f2 : IntKind.i64.wrap (z2 * 1117) = z2 * 1117 := wr64 _ (by omega)
    have f3 : IntKind.i64.wrap (z1 * 131 + z2 * 1117) = z1 * 131 + z2 * 1117 := wr64 _ (by omega)
    have f4 : IntKind.i64.wrap (z1 * 131 + z2 * 1117 + (pn : Int) * 29) = z1 * 131 + z2 * 1117 + (pn : Int) * 29 := wr64 _ (by omega)
    have f5 : IntKind.i64.wrap ((d : Int)) = (d : Int) := wr64 _ (by omega)
    have f6 : IntKind.i64.wrap ((d : Int) * 53) = (d : Int) * 53 := wr64 _ (by omega)
    have f7 : IntKind.i64.wrap (z1 * 131 + z2 * 1117 + (pn : Int) * 29 + (d : Int) * 53) = z1 * 131 + z2 * 1117 + (pn : Int) * 29 + (d : Int) * 53 := wr64 _ (by omega)
    clear hcW
    go_enter Tryz.func13, Tryz.ntmps13
    go_wp2_with fail
    go_quiet (fail)
    go_wp2_with fail
    go_ret
    have hx := xor_small (z1 * 131 + z2 * 1117 + (pn : Int) * 29 + (d : Int) * 53) ((z1 * 131 + z2 * 1117 + (pn : Int) * 29 + (d : Int) * 53) / 64) (by omega) (by omega) (by omega) (by omega)
    refine ⟨⟨_, rfl, ?_, ?_⟩, (unhide HR).drewN _, (unhide HW).drewN _⟩
    · rw [Int.tmod_eq_emod_of_nonneg hx]
      exact Int.emod_nonneg _ (by omega)
    · rw [Int.tmod_eq_emod_of_nonneg hx]
      exact Int.emod_lt_of_pos _ (by omega)
end Go.Proofs.YthkhaemlcmkkjasGreat

namespace Go.Proofs.YthkhaemlcmkkjasGreat
set_option linter.unusedVariables false
set_option linter.unusedSimpArgs false
set_option maxRecDepth 10000
open Go.RowKit Go.Deep

theorem Wrote.blk {B : Nat} {w w' : World} (h : Wrote B isRd w w') {b : Nat} {C : Array Value} {t : TypeId} (hb : w.heap[b]? = some (.cells C t (0, 0))) (ht : t ≠ 70) : w'.heap[b]? = some (.cells C t (0, 0)) :=
  (h.other ⟨C, hb⟩ ht).trans hb
theorem str3 {w : World} {b : Nat} {t : TypeId} (h : w.heap[b]? = some (.cells #[.string ⟨#[97]⟩, .string ⟨#[98]⟩, .string ⟨#[99]⟩] t (0, 0))) (i : Nat) (hi : i < 3) :
    ∃ s : ByteArray, w.cell? ⟨b, i, none⟩ = some (.string s) ∧ s.size ≤ maxLen := by
  have hm : 1 ≤ maxLen := by unfold maxLen; omega
  match i, hi with
  | 0, _ => exact ⟨⟨#[97]⟩, by simp [World.cell?, h], hm⟩
  | 1, _ => exact ⟨⟨#[98]⟩, by simp [World.cell?, h], hm⟩
  | 2, _ => exact ⟨⟨#[99]⟩, by simp [World.cell?, h], hm⟩
theorem three {w : World} {b : Nat} {v0 v1 v2 : Value} {t : TypeId} (h : w.heap[b]? = some (.cells #[v0, v1, v2] t (0, 0))) :
    w.cell? ⟨b, 0, none⟩ = some v0 ∧ w.cell? ⟨b, 1, none⟩ = some v1 ∧ w.cell? ⟨b, 2, none⟩ = some v2 ∧ w.frozen? ⟨b, 0, none⟩ = false ∧ w.frozen? ⟨b, 1, none⟩ = false ∧ w.frozen? ⟨b, 2, none⟩ = false := by
  simp [World.cell?, World.frozen?, h]
theorem strNotRd : (9 : TypeId) ≠ 70 := by decide
theorem reqNotRd : (97 : TypeId) ≠ 70 := by decide

def reqCells (q : ReqD) : Obj := .cells #[.string q.name, .int .i64 q.low, .int .i64 q.high] 97 (0, 0)
def abcCells : Obj := .cells #[.string ⟨#[97]⟩, .string ⟨#[98]⟩, .string ⟨#[99]⟩] 9 (0, 0)
/-- A request that may be drawn. -/
structure OkReq (q : ReqD) : Prop where
  len : q.name.size ≤ maxLen
  low0 : 0 ≤ q.low
  low1 : q.low ≤ 500
  high0 : 0 ≤ q.high
  high1 : q.high ≤ 1000

/-- From x to y: the reader and requests from block s on alone are written, and those stay requests. -/
structure Went (B s : Nat) (x y : World) : Prop where
  os : y.os = x.os
  tape : y.tape = x.tape
  output : y.output = x.output
  size : x.heap.size ≤ y.heap.size
  block : ∀ b, b < x.heap.size → (b < B ∨ ¬ CellsOf x b 70) → (b < s ∨ ¬ CellsOf x b 97) → y.heap[b]? = x.heap[b]?
  rd : ∀ b n, Row x b 70 n → Row y b 70 n
  req : ∀ b q, s ≤ b → x.heap[b]? = some (reqCells q) → OkReq q → ∃ q', y.heap[b]? = some (reqCells q') ∧ OkReq q'

theorem Went.refl (B s : Nat) (x : World) : Went B s x x := ⟨rfl, rfl, rfl, Nat.le_refl _, fun _ _ _ _ => rfl, fun _ _ h => h, fun b q _ h hq => ⟨q, h, hq⟩⟩

theorem Went.trans {B s : Nat} {x y z : World} (h : Went B s x y) (k : Went B s y z) : Went B s x z := by
  refine ⟨k.os.trans h.os, k.tape.trans h.tape, k.output.trans h.output, Nat.le_trans h.size k.size, fun b hb h1 h2 => ?_, fun b n hb => k.rd b n (h.rd b n hb), fun b q hs hx hq => ?_⟩
  · have e := h.block b hb h1 h2
    refine (k.block b (Nat.lt_of_lt_of_le hb h.size) (h1.imp id fun hn hc => hn (hc.of_block e.symm)) (h2.imp id fun hn hc => hn (hc.of_block e.symm))).trans e
  · obtain ⟨q', hy, hq'⟩ := h.req b q hs hx hq
    exact k.req b q' hs hy hq'
theorem Went.of_below {B s : Nat} {x y : World} (h : Below x.heap.size x y) : Went B s x y :=
  ⟨h.os, h.tape, h.output, h.size, fun b hb _ _ => h.block b hb, fun b n hb => hb.of_block (h.block b hb.lt), fun b q _ hx hq => ⟨q, (h.block b (Array.getElem?_eq_some_iff.1 hx).1).trans hx, hq⟩⟩
theorem Went.alloc {B s : Nat} (x : World) (o : Obj) : Went B s x (x.alloc o) := Went.of_below ((Below.refl _ _).alloc (Nat.le_refl _) _)
theorem Went.of_wrote {B s : Nat} {x y : World} (h : Wrote B isRd x y) : Went B s x y :=
  ⟨h.os, h.tape, h.output, h.size, fun b hb h1 _ => h.block b hb (h1.imp id fun hn t ht hc => hn (by rw [show t = 70 from ht] at hc; exact hc)), fun b n hb => h.shape b _ n hb,
   fun b q _ hx hq => ⟨q, h.blk hx reqNotRd, hq⟩⟩
theorem Went.blk {B s : Nat} {x y : World} (h : Went B s x y) {b : Nat} {C : Array Value} {t : TypeId} (hb : x.heap[b]? = some (.cells C t (0, 0))) (h1 : t ≠ 70) (h2 : t ≠ 97) : y.heap[b]? = some (.cells C t (0, 0)) :=
  (h.block b (Array.getElem?_eq_some_iff.1 hb).1 (Or.inr fun hc => h1 (CellsOf.one ⟨C, hb⟩ hc)) (Or.inr fun hc => h2 (CellsOf.one ⟨C, hb⟩ hc))).trans hb
/-- One request is written anew. -/
theorem Went.one {B s : Nat} {x y : World} {g : Nat} {q q' : ReqD} (hg : s ≤ g) (hx : x.heap[g]? = some (reqCells q)) (hn : y.heap[g]? = some (reqCells q')) (hq : OkReq q') (ho : ∀ b, b ≠ g → y.heap[b]? = x.heap[b]?)
    (h1 : y.os = x.os) (h2 : y.tape = x.tape) (h3 : y.output = x.output) (h4 : x.heap.size ≤ y.heap.size) : Went B s x y := by
  refine ⟨h1, h2, h3, h4, fun b hb _ h2 => ho b fun e => ?_, fun b n hb => ?_, fun b r hs hr hrq => ?_⟩
  · subst e
    rcases h2 with h2 | h2
    · omega
    · exact h2 ⟨_, hx⟩
  · refine hb.of_block (ho b fun e => ?_)
    subst e
    exact reqNotRd (CellsOf.one ⟨_, hx⟩ hb.cells)
  · by_cases e : b = g
    · subst e
      exact ⟨q', hn, hq⟩
    · exact ⟨r, (ho b e).trans hr, hrq⟩
theorem req_store {x : World} {g : Nat} {q : ReqD} (q' : ReqD) (hx : x.heap[g]? = some (reqCells q)) :
    (((x.setCell ⟨g, 0, none⟩ (.string q'.name)).setCell ⟨g, 1, none⟩ (.int .i64 q'.low)).setCell ⟨g, 2, none⟩ (.int .i64 q'.high)).heap[g]? = some (reqCells q') := by
  rw [blk_set (blk_set (blk_set hx 0 _) 1 _) 2 _]; rfl
theorem Went.store {B s : Nat} {x : World} {g : Nat} {q q' : ReqD} (hg : s ≤ g) (hx : x.heap[g]? = some (reqCells q)) (hq : OkReq q') :
    Went B s x (((x.setCell ⟨g, 0, none⟩ (.string q'.name)).setCell ⟨g, 1, none⟩ (.int .i64 q'.low)).setCell ⟨g, 2, none⟩ (.int .i64 q'.high)) :=
  Went.one hg hx (req_store q' hx) hq (fun b hb => ((blk_setCell_other _ _ _ _ hb).trans (blk_setCell_other _ _ _ _ hb)).trans (blk_setCell_other _ _ _ _ hb)) rfl rfl rfl (by simp)
theorem high_store {x : World} {g : Nat} {q : ReqD} (r : Int) (hx : x.heap[g]? = some (reqCells q)) : (x.setCell ⟨g, 2, none⟩ (.int .i64 r)).heap[g]? = some (reqCells ⟨q.name, q.low, r⟩) := by
  rw [blk_set hx 2 _]; rfl
theorem low_store {x : World} {g : Nat} {q : ReqD} (r : Int) (hx : x.heap[g]? = some (reqCells q)) : (x.setCell ⟨g, 1, none⟩ (.int .i64 r)).heap[g]? = some (reqCells ⟨q.name, r, q.high⟩) := by
  rw [blk_set hx 1 _]; rfl
theorem Went.high {B s : Nat} {x : World} {g : Nat} {q : ReqD} (hg : s ≤ g) (hx : x.heap[g]? = some (reqCells q)) (r : Int) (hq : OkReq ⟨q.name, q.low, r⟩) : Went B s x (x.setCell ⟨g, 2, none⟩ (.int .i64 r)) :=
  Went.one hg hx (high_store r hx) hq (fun b hb => blk_setCell_other _ _ _ _ hb) rfl rfl rfl (by simp)
theorem Went.low {B s : Nat} {x : World} {g : Nat} {q : ReqD} (hg : s ≤ g) (hx : x.heap[g]? = some (reqCells q)) (r : Int) (hq : OkReq ⟨q.name, r, q.high⟩) : Went B s x (x.setCell ⟨g, 1, none⟩ (.int .i64 r)) :=
  Went.one hg hx (low_store r hx) hq (fun b hb => blk_setCell_other _ _ _ _ hb) rfl rfl rfl (by simp)
theorem Went.less {B s s' : Nat} {x y : World} (h : Went B s x y) (hs : s' ≤ s) : Went B s' x y :=
  ⟨h.os, h.tape, h.output, h.size, fun b hb h1 h2 => h.block b hb h1 (h2.imp (fun hb => by omega) id), h.rd, fun b q hb hx hq => by
    by_cases e : s ≤ b
    · exact h.req b q e hx hq
    · exact ⟨q, (h.block b (Array.getElem?_eq_some_iff.1 hx).1 (Or.inr fun hc => reqNotRd (CellsOf.one ⟨_, hx⟩ hc)) (Or.inl (by omega))).trans hx, hq⟩⟩
/-- Of what was there the reader alone is written. -/
theorem Went.wrote {B : Nat} {w y : World} {s : Nat} (h : Went B s w y) (hs : w.heap.size ≤ s) : Wrote B isRd w y :=
  ⟨h.os, h.tape, h.output, h.size, fun b hb hc => h.block b hb (hc.imp id fun hn => hn _ rfl) (Or.inl (by omega)),
   fun b t n hr => by
     by_cases e : t = 70
     · subst e; exact h.rd b n hr
     · exact hr.of_block (h.block b hr.lt (Or.inr fun hc => e (CellsOf.one hr.cells hc)) (Or.inl (by have := hr.lt; omega)))⟩
theorem slots_not {ops : Array Oper} {t : Tmp} (h : ((List.range ops.size).any fun i => slotOf ops i == some t) = false) : ∀ i, slotOf ops i ≠ some t := fun j hj => by
  have : ((List.range ops.size).any fun i => slotOf ops i == some t) = true := by
    refine List.any_eq_true.2 ⟨j, List.mem_range.2 ?_, by simp [hj]⟩
    unfold slotOf at hj
    obtain ⟨o, ho, _⟩ := Option.bind_eq_some_iff.1 hj
    exact (Array.getElem?_eq_some_iff.1 ho).1
  rw [h] at this
  cases this
theorem strNotReq : (9 : TypeId) ≠ 97 := by decide

/-- What the operations of the first region leave. -/
def T1 (B rb s : Nat) (i : Nat) (v : Value) (w : World) : Prop := match i with
  | 0 => ∃ g, v = .slice (some ⟨g, 0, none⟩) 3 3 ∧ w.heap[g]? = some abcCells
  | 1 => v = .pointer (some ⟨rb, 0, none⟩)
  | 2 => ∃ r : Nat, v = .int .i64 r ∧ r < 3
  | 3 => ∃ g i, v = .pointer (some ⟨g, i, none⟩) ∧ i < 3 ∧ w.heap[g]? = some abcCells
  | 4 => ∃ t : ByteArray, v = .string t ∧ t.size ≤ maxLen
  | 5 => v = .pointer (some ⟨rb, 0, none⟩)
  | 6 => ∃ r : Nat, v = .int .i64 r ∧ r < 2
  | 7 => ∃ r : Nat, v = .int .i64 r ∧ r < 3
  | 8 => ∃ q : ReqD, v = .agg #[.string q.name, .int .i64 q.low, .int .i64 q.high] ∧ OkReq q
  | 9 => ∃ g q, v = .pointer (some ⟨g, 0, none⟩) ∧ s ≤ g ∧ w.heap[g]? = some (reqCells q) ∧ OkReq q
  | _ => True

def T2 (rb g : Nat) (i : Nat) (v : Value) : Prop := match i with
  | 0 => v = .pointer (some ⟨g, 1, none⟩)
  | 1 => ∃ r : Nat, v = .int .i64 r ∧ r ≤ 500
  | 2 => v = .pointer (some ⟨rb, 0, none⟩)
  | 3 => ∃ r : Nat, v = .int .i64 r ∧ r < 2
  | 4 => ∃ r : Nat, v = .int .i64 r ∧ r ≤ 502
  | 5 => v = .pointer (some ⟨g, 2, none⟩)
  | _ => True

set_option maxHeartbeats 1000000 in
theorem l71Req_any (B rb : Nat) (m : Int) (w : World) (h : Rd B w rb m) (hm : m ≤ 100000) :
    Calls Tryz.prog 48 #[.pointer (some ⟨rb, 0, none⟩)] w fun e w' => (∃ q : ReqD, e = .returned (.agg #[.string q.name, .int .i64 q.low, .int .i64 q.high]) ∧ OkReq q) ∧ Rd B w' rb (m + 20) ∧ Wrote B isRd w w' := by
  go_enter Tryz.func48, Tryz.ntmps48
  go_wp2_with fail
  go_cut [3] from 4 to 13 (fun s3 wx => ∃ g q, s3 = .pointer (some ⟨g, 0, none⟩) ∧ w.heap.size + 1 ≤ g ∧ wx.heap[g]? = some (reqCells q) ∧ OkReq q ∧ Rd B wx rb (m + 11) ∧ Went B (w.heap.size + 1) (w.alloc (.cells #[.string ⟨#[]⟩, .int .i64 0, .int .i64 0] 97 (0, 0))) wx)
  case first =>
    refine wp_region_typed (by kernel_rfl) (by kernel_rfl) (by kernel_rfl) (T1 B rb (w.heap.size + 1)) (fun n x => Rd B x rb (m + n)) (Went B (w.heap.size + 1)) (fun _ _ _ h k => h.trans k) (Went.refl _ _ _) ?_ ((h.alloc _).drew.more (by simp)) ?_ ?_
    · intro i v x y hx hE
      unfold T1 at hx ⊢
      split at hx
      · obtain ⟨g, hv, hg⟩ := hx
        exact ⟨g, hv, hE.blk hg strNotRd strNotReq⟩
      · exact hx
      · exact hx
      · obtain ⟨g, i, hv, hi, hg⟩ := hx
        exact ⟨g, i, hv, hi, hE.blk hg strNotRd strNotReq⟩
      · exact hx
      · exact hx
      · exact hx
      · exact hx
      · exact hx
      · obtain ⟨g, q, hv, hg, hq, ho⟩ := hx
        obtain ⟨q', h1, h2⟩ := hE.req g q hg hq ho
        exact ⟨g, q', hv, hg, h1, h2⟩
      · trivial
    · intro i o hi a x n hn ha hc he hd
      match i with
      | 0 =>
        simp at hi
        subst hi
        go_simp
        exact ⟨_, rfl, ⟨_, rfl, blk_alloc_new _ _⟩, (hc.alloc _).more (by omega), Went.alloc _ _⟩
      | 1 =>
        simp at hi
        subst hi
        have h0 : a.tmps[0]? = some (.pointer (some ⟨rb, 0, none⟩)) := (ha.slot 0 (slots_not (by kernel_rfl))).trans rfl
        go_simp
        exact ⟨_, rfl, rfl, hc.more (by omega), Went.refl _ _ _⟩
      | 2 =>
        simp at hi
        subst hi
        have h1 := hd ⟨1, .data⟩ (by simp) rfl
        rw [valOf_at (d := 5) rfl] at h1
        have h1' : a.tmps[5]?.getD undef = .pointer (some ⟨rb, 0, none⟩) := h1
        go_simp
        refine (pick_any B rb _ 3 _ hc (by simp at hn; omega) (by omega) (by omega)).mono ?_
        rintro e y ⟨⟨r, rfl, hr0, hr1⟩, hR, hW⟩
        exact ⟨_, rfl, ⟨r.toNat, by rw [Int.toNat_of_nonneg hr0], by omega⟩, hR.more (by omega), Went.of_wrote hW⟩
      | 3 =>
        simp at hi
        subst hi
        obtain ⟨g, hg, hg'⟩ := hd ⟨0, .data⟩ (by simp) rfl
        obtain ⟨r, hr, hr'⟩ := hd ⟨2, .data⟩ (by simp) rfl
        rw [valOf_at (d := 4) rfl] at hg
        rw [valOf_at (d := 6) rfl] at hr
        have hr3 : (r : Int) < 3 := by omega
        go_simp
        exact ⟨_, rfl, ⟨g, r, by simp, hr', hg'⟩, hc.more (by omega), Went.refl _ _ _⟩
      | 4 =>
        simp at hi
        subst hi
        obtain ⟨g, r, hg, hr, hg'⟩ := hd ⟨3, .data⟩ (by simp) rfl
        rw [valOf_at (d := 7) rfl] at hg
        obtain ⟨t, ht, htl⟩ := str3 hg' r hr
        clear hg'
        go_simp
        exact ⟨_, rfl, ⟨t, rfl, htl⟩, hc.more (by omega), Went.refl _ _ _⟩
      | 5 =>
        simp at hi
        subst hi
        have h0 : a.tmps[0]? = some (.pointer (some ⟨rb, 0, none⟩)) := (ha.slot 0 (slots_not (by kernel_rfl))).trans rfl
        go_simp
        exact ⟨_, rfl, rfl, hc.more (by omega), Went.refl _ _ _⟩
      | 6 =>
        simp at hi
        subst hi
        have h1 := hd ⟨5, .data⟩ (by simp) rfl
        rw [valOf_at (d := 9) rfl] at h1
        have h1' : a.tmps[9]?.getD undef = .pointer (some ⟨rb, 0, none⟩) := h1
        go_simp
        refine (pick_any B rb _ 2 _ hc (by simp at hn; omega) (by omega) (by omega)).mono ?_
        rintro e y ⟨⟨r, rfl, hr0, hr1⟩, hR, hW⟩
        exact ⟨_, rfl, ⟨r.toNat, by rw [Int.toNat_of_nonneg hr0], by omega⟩, hR.more (by omega), Went.of_wrote hW⟩
      | 7 =>
        simp at hi
        subst hi
        obtain ⟨r, hr, hr'⟩ := hd ⟨6, .data⟩ (by simp) rfl
        rw [valOf_at (d := 10) rfl] at hr
        have hw := wr64 ((r : Int) + 1) (by omega)
        go_simp
        exact ⟨_, rfl, ⟨r + 1, by simp, by omega⟩, hc.more (by omega), Went.refl _ _ _⟩
      | 8 =>
        simp at hi
        subst hi
        obtain ⟨t, ht, htl⟩ := hd ⟨4, .data⟩ (by simp) rfl
        obtain ⟨r, hr, hr'⟩ := hd ⟨7, .data⟩ (by simp) rfl
        rw [valOf_at (d := 8) rfl] at ht
        rw [valOf_at (d := 11) rfl] at hr
        go_simp
        exact ⟨_, rfl, ⟨⟨t, r, 0⟩, rfl, htl, by simp, by simp; omega, by simp, by simp⟩, hc.more (by omega), Went.refl _ _ _⟩
      | 9 =>
        simp at hi
        subst hi
        have hz := he.size
        simp at hz
        have hm1 : 0 ≤ maxLen := Nat.zero_le _
        go_simp
        exact ⟨_, rfl, ⟨x.heap.size, ⟨⟨#[]⟩, 0, 0⟩, rfl, by omega, blk_alloc_new _ _, hm1, by simp, by simp, by simp, by simp⟩, (hc.alloc _).more (by omega), Went.alloc _ _⟩
      | 10 =>
        simp at hi
        subst hi
        obtain ⟨g, q, hg, hgs, hgq, hq⟩ := hd ⟨9, .data⟩ (by simp) rfl
        obtain ⟨q', hv, hq'⟩ := hd ⟨8, .data⟩ (by simp) rfl
        rw [valOf_at (d := 3) rfl] at hg
        rw [valOf_at (d := 12) rfl] at hv
        obtain ⟨k0, k1, k2, f0, f1, f2⟩ := three hgq
        have HG := hide hgq
        clear hgq
        have hz := he.size
        simp at hz
        have hrg := hc.lt
        go_simp
        have hrl := h.lt
        have hpB := h.past
        exact ⟨trivial, (((hc.set (by omega) (by omega) _ _).set (by omega) (by omega) _ _).set (by omega) (by omega) _ _).more (by omega), Went.store hgs (unhide HG) hq'⟩
      | k + 11 => simp at hi
    · intro a x ha hc he ht
      obtain ⟨g, q, hv, hgs, hgq, hq⟩ := ht 9 (by simp)
      rw [valOf_at (d := 3) rfl] at hv
      have hc' : Rd B x rb (m + 11) := hc
      have hl := ha.list
      simp [slotOf, List.range_succ] at hl
      rw [hl]
      clear hl
      rename_i J K1 hJ hK1
      exact hK1 _ _ (Met.intro (hJ _ _ ⟨_, _, _, _, _, _, _, _, _, _, _, ⟨g, q, hv, hgs, hgq, hq, hc', ⟨he.os, he.tape, he.output, he.size, he.block, he.rd, he.req⟩⟩, rfl⟩))
  case rest =>
    obtain ⟨g, q, rfl, hgs, hgq, hq, hR, hW⟩ := hcut
    rename World => w1
    have hrl := h.lt
    have hpB := h.past
    go_wp2_with fail
    go_cut [] from 13 to 19 (fun wx => ∃ q, wx.heap[g]? = some (reqCells q) ∧ OkReq q ∧ Rd B wx rb (m + 18) ∧ Went B (w.heap.size + 1) w1 wx)
    case first =>
      refine wp_region_typed (by kernel_rfl) (by kernel_rfl) (by kernel_rfl) (fun i v _ => T2 rb g i v) (fun n x => Rd B x rb (m + 11 + n) ∧ ∃ q, x.heap[g]? = some (reqCells q) ∧ OkReq q) (Went B (w.heap.size + 1)) (fun _ _ _ h k => h.trans k) (Went.refl _ _ _) (fun _ _ _ _ h _ => h) ⟨hR.drew.more (by simp), q, hgq, hq⟩ ?_ ?_
      · rintro i o hi a x n hn ha ⟨hR, q1, hg1, hq1⟩ he hd
        have HG := hide hg1
        clear hg1
        match i with
        | 0 =>
          simp at hi
          subst hi
          have h3 : a.tmps[3]? = some (.pointer (some ⟨g, 0, none⟩)) := (ha.slot 3 (slots_not (by kernel_rfl))).trans rfl
          go_simp
          exact ⟨_, rfl, rfl, ⟨hR.more (by omega), q1, unhide HG, hq1⟩, Went.refl _ _ _⟩
        | 1 =>
          simp at hi
          subst hi
          have h0 := hd ⟨0, .data⟩ (by simp) rfl
          rw [valOf_at (d := 13) rfl] at h0
          have h0' : a.tmps[13]?.getD undef = .pointer (some ⟨g, 1, none⟩) := h0
          obtain ⟨k0, k1, k2, _⟩ := three (unhide HG)
          go_simp
          exact ⟨_, rfl, ⟨q1.low.toNat, by rw [Int.toNat_of_nonneg hq1.low0], by have := hq1.low1; omega⟩, ⟨hR.more (by omega), q1, unhide HG, hq1⟩, Went.refl _ _ _⟩
        | 2 =>
          simp at hi
          subst hi
          have h3 : a.tmps[0]? = some (.pointer (some ⟨rb, 0, none⟩)) := (ha.slot 0 (slots_not (by kernel_rfl))).trans rfl
          go_simp
          exact ⟨_, rfl, rfl, ⟨hR.more (by omega), q1, unhide HG, hq1⟩, Went.refl _ _ _⟩
        | 3 =>
          simp at hi
          subst hi
          have h1 := hd ⟨2, .data⟩ (by simp) rfl
          rw [valOf_at (d := 15) rfl] at h1
          have h1' : a.tmps[15]?.getD undef = .pointer (some ⟨rb, 0, none⟩) := h1
          go_simp
          refine (pick_any B rb _ 2 _ hR (by simp at hn; omega) (by omega) (by omega)).mono ?_
          rintro e y ⟨⟨r, rfl, hr0, hr1⟩, hRy, hWy⟩
          exact ⟨_, rfl, ⟨r.toNat, by rw [Int.toNat_of_nonneg hr0], by omega⟩, ⟨hRy.more (by omega), q1, hWy.blk (unhide HG) reqNotRd, hq1⟩, Went.of_wrote hWy⟩
        | 4 =>
          simp at hi
          subst hi
          obtain ⟨r, hr, hr'⟩ := hd ⟨1, .data⟩ (by simp) rfl
          obtain ⟨u, hu, hu'⟩ := hd ⟨3, .data⟩ (by simp) rfl
          rw [valOf_at (d := 14) rfl] at hr
          rw [valOf_at (d := 16) rfl] at hu
          have hw := wr64 ((r : Int) + (u : Int)) (by omega)
          go_simp
          exact ⟨_, rfl, ⟨r + u, by simp, by omega⟩, ⟨hR.more (by omega), q1, unhide HG, hq1⟩, Went.refl _ _ _⟩
        | 5 =>
          simp at hi
          subst hi
          have h3 : a.tmps[3]? = some (.pointer (some ⟨g, 0, none⟩)) := (ha.slot 3 (slots_not (by kernel_rfl))).trans rfl
          go_simp
          exact ⟨_, rfl, rfl, ⟨hR.more (by omega), q1, unhide HG, hq1⟩, Went.refl _ _ _⟩
        | 6 =>
          simp at hi
          subst hi
          have h5 := hd ⟨5, .data⟩ (by simp) rfl
          rw [valOf_at (d := 18) rfl] at h5
          have h5' : a.tmps[18]?.getD undef = .pointer (some ⟨g, 2, none⟩) := h5
          obtain ⟨r, hr, hr'⟩ := hd ⟨4, .data⟩ (by simp) rfl
          rw [valOf_at (d := 17) rfl] at hr
          obtain ⟨k0, k1, k2, f0, f1, f2⟩ := three (unhide HG)
          go_simp
          have hq2 : OkReq ⟨q1.name, q1.low, r⟩ := ⟨hq1.len, hq1.low0, hq1.low1, by simp, by simp; omega⟩
          exact ⟨trivial, ⟨(hR.set (by omega) (by omega) _ _).more (by omega), _, high_store _ (unhide HG), hq2⟩, Went.high hgs (unhide HG) _ hq2⟩
        | k + 7 => simp at hi
      · rintro a x ha ⟨hRx, q1, hg1, hq1⟩ he ht
        have hl := ha.list
        simp [slotOf, List.range_succ] at hl
        rw [hl]
        clear hl
        have hRx' : Rd B x rb (m + 18) := hRx.more (by simp; omega)
        rename_i J K1 hJ hK1
        exact hK1 _ _ (Met.intro (hJ _ _ ⟨_, _, _, _, _, _, _, ⟨q1, hg1, hq1, hRx', ⟨he.os, he.tape, he.output, he.size, he.block, he.rd, he.req⟩⟩, rfl⟩))
    case rest =>
      obtain ⟨q1, hg1, hq1, hR1, hW1⟩ := hcut
      rename World => w2
      have hWA := hW.trans hW1
      have hr0 : w2.heap[w.heap.size]? = some (reqCells ⟨⟨#[]⟩, 0, 0⟩) :=
        (hWA.block w.heap.size (by simp) (Or.inr fun hc => reqNotRd (CellsOf.one ⟨_, blk_alloc_new _ _⟩ hc)) (Or.inl (by omega))).trans (blk_alloc_new _ _)
      have HG := hide hg1
      have HR := hide hr0
      clear hg1 hr0
      go_wp2_with fail
      refine (pick_any B rb _ 3 _ hR1 (by omega) (by omega) (by omega)).mono ?_
      rintro e w3 ⟨⟨r, rfl, h0, h1⟩, hR3, hW3⟩
      have HG3 := hide (hW3.blk (unhide HG) reqNotRd)
      have HR3 := hide (hW3.blk (unhide HR) reqNotRd)
      have HW3 := hide (hWA.trans (Went.of_wrote hW3))
      clear hW3 HG HR
      obtain ⟨k0, k1, k2, f0, f1, f2⟩ := three (unhide HG3)
      obtain ⟨l0, l1, l2, e0, e1, e2⟩ := three (unhide HR3)
      have hne : g ≠ w.heap.size := by omega
      have hne' : w.heap.size ≠ g := by omega
      have HA := hide ((Went.alloc (B := B) (s := w.heap.size) w (.cells #[.string ⟨#[]⟩, .int .i64 0, .int .i64 0] 97 (0, 0))).trans ((unhide HW3).less (Nat.le_succ _)))
      by_cases hr : r = 0
      · subst hr
        have q2 : OkReq ⟨q1.name, 0, q1.high⟩ := ⟨hq1.len, by simp, by simp, hq1.high0, hq1.high1⟩
        have q3 : OkReq ⟨q1.name, 0, 99⟩ := ⟨hq1.len, by simp, by simp, by simp, by simp⟩
        have hWa := Went.low (B := B) (s := w.heap.size) (by omega) (unhide HG3) 0 q2
        have hWb := Went.high (B := B) (s := w.heap.size) (by omega) (low_store 0 (unhide HG3)) 99 q3
        have hrW := ((blk_setCell_other (w3.setCell ⟨g, 1, none⟩ (.int .i64 0)) ⟨g, 2, none⟩ (.int .i64 99) w.heap.size hne').trans (blk_setCell_other w3 ⟨g, 1, none⟩ (.int .i64 0) w.heap.size hne')).trans (unhide HR3)
        have hWc := Went.store (B := B) (Nat.le_refl _) hrW q3
        have HE := hide (((unhide HA).trans hWa).trans (hWb.trans hWc))
        have HS := hide (three (req_store ⟨q1.name, 0, 99⟩ hrW))
        clear hWa hWb hWc hrW
        go_wp2_with fail
        obtain ⟨R0, R1, R2, _⟩ := unhide HS
        refine bodyPost_ret (v := .agg #[.string q1.name, .int .i64 0, .int .i64 99]) (by simp [results, Tryz.results48, go_sem, R0, R1, R2]) rfl ⟨⟨⟨q1.name, 0, 99⟩, rfl, q3⟩, ?_, (unhide HE).wrote (Nat.le_refl _)⟩
        exact (((((hR3.set (by omega) (by omega) _ _).set (by omega) (by omega) _ _).set (by omega) (by omega) _ _).set (by omega) (by omega) _ _).set (by omega) (by omega) _ _).more (by omega)
      · have hrb : (r == 0) = false := by simp [hr]
        have hWc := Went.store (B := B) (Nat.le_refl _) (unhide HR3) hq1
        have HE := hide ((unhide HA).trans hWc)
        have HS := hide (three (req_store q1 (unhide HR3)))
        clear hWc
        go_wp2_with fail
        obtain ⟨R0, R1, R2, _⟩ := unhide HS
        refine bodyPost_ret (v := .agg #[.string q1.name, .int .i64 q1.low, .int .i64 q1.high]) (by simp [results, Tryz.results48, go_sem, R0, R1, R2]) rfl ⟨⟨q1, rfl, hq1⟩, ?_, (unhide HE).wrote (Nat.le_refl _)⟩
        exact (((hR3.set (by omega) (by omega) _ _).set (by omega) (by omega) _ _).set (by omega) (by omega) _ _).more (by omega)
end Go.Proofs.YthkhaemlcmkkjasGreat
