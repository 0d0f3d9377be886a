/- The specification's reader of a code: numbers that are picked. A region that draws its order, by what holds all along: one thing to show for each of its operations, in whatever order they come. -/
import Derived.Test.YtnegiggafgfmkaaGBase
import Derived.Deep.QuietTactic
import Derived.Test.YtnegiggafgfmkaaProg
import Derived.Orders
import Derived.WalkKit
namespace Go.Proofs.Ytnegiggafgfmkaa
set_option linter.unusedVariables false
set_option linter.unusedSimpArgs false
open Go.RowKit Go.Deep

theorem wr64 (n : Int) (h : -9223372036854775808 ≤ n ∧ n ≤ 9223372036854775807) : IntKind.i64.wrap n = n := by rw [IntKind.wrap_i64]; omega

theorem xor_small (x y : Int) (h0 : 0 ≤ x) (h1 : x < 4611686018427387904) (h2 : 0 ≤ y) (h3 : y < 4611686018427387904) : 0 ≤ bits .xor .i64 x y := by
  obtain ⟨a, rfl⟩ : ∃ a : Nat, x = a := ⟨x.toNat, by omega⟩
  obtain ⟨b, rfl⟩ : ∃ b : Nat, y = b := ⟨y.toNat, by omega⟩
  have hx : a ^^^ b < 2 ^ 62 := Nat.xor_lt_two_pow (by omega) (by omega)
  have e1 : (BitVec.ofInt 64 (a : Int)).toNat = a := by
    rw [BitVec.ofInt_natCast, BitVec.toNat_ofNat]; exact Nat.mod_eq_of_lt (by omega)
  have e2 : (BitVec.ofInt 64 (b : Int)).toNat = b := by
    rw [BitVec.ofInt_natCast, BitVec.toNat_ofNat]; exact Nat.mod_eq_of_lt (by omega)
  show 0 ≤ IntKind.i64.wrap ((BitVec.ofInt 64 (a : Int) ^^^ BitVec.ofInt 64 (b : Int)).toNat : Int)
  rw [BitVec.toNat_xor, e1, e2, wr64 _ (by omega)]
  omega

abbrev isRd : TypeId → Prop := fun t => t = 71

/-- The bytes of a code, below block B. -/
def CodeAt (B : Nat) (w : World) (a : Option Addr) (n : Nat) : Prop :=
  n = 0 ∨ ∃ b o, a = some ⟨b, o, none⟩ ∧ b < B ∧ b < w.heap.size ∧ ∀ i, i < n → ∃ z : Int, w.cell? ⟨b, o + i, none⟩ = some (.int .u8 z) ∧ 0 ≤ z ∧ z ≤ 255
theorem CodeAt.on {B : Nat} {w w' : World} {a : Option Addr} {n : Nat} (h : CodeAt B w a n) (hs : w.heap.size ≤ w'.heap.size) (hb : ∀ b, b < B → w'.heap[b]? = w.heap[b]?) : CodeAt B w' a n := by
  rcases h with h | ⟨b, o, ha, h0, h1, h⟩
  · exact Or.inl h
  · refine Or.inr ⟨b, o, ha, h0, by omega, fun i hi => ?_⟩
    obtain ⟨z, hz⟩ := h i hi
    exact ⟨z, by rw [World.cell?_of_block (w := w) (a := ⟨b, o + i, none⟩) (hb b h0)]; exact hz⟩

/-- A reader at block rb that has picked m numbers at most; its code lies below block B. -/
structure Rd (B : Nat) (w : World) (rb : Nat) (m : Int) : Prop where
  past : B ≤ rb
  here : ∃ (a : Option Addr) (n c : Nat) (p : Int), w.heap[rb]? = some (.cells #[.slice a n c, .int .i64 p] 71 (0, 0)) ∧ 0 ≤ p ∧ p ≤ m ∧ n ≤ 2000 ∧ CodeAt B w a n

theorem Rd.lt {B : Nat} {w : World} {rb : Nat} {m : Int} (h : Rd B w rb m) : rb < w.heap.size := by
  obtain ⟨_, a, n, c, p, hh, _⟩ := h
  exact (Array.getElem?_eq_some_iff.1 hh).1
theorem Rd.cells {B : Nat} {w : World} {rb : Nat} {m : Int} (h : Rd B w rb m) : CellsOf w rb 71 := by
  obtain ⟨_, a, n, c, p, hh, _⟩ := h
  exact ⟨_, hh⟩
theorem Rd.on {B : Nat} {w w' : World} {rb : Nat} {m : Int} (h : Rd B w rb m) (hs : w.heap.size ≤ w'.heap.size) (hb : ∀ b, b < B → w'.heap[b]? = w.heap[b]?) (hr : w'.heap[rb]? = w.heap[rb]?) : Rd B w' rb m := by
  obtain ⟨hB, a, n, c, p, hh, h0, h1, h2, hc⟩ := h
  exact ⟨hB, a, n, c, p, hr.trans hh, h0, h1, h2, hc.on hs hb⟩
theorem Rd.below {B : Nat} {w w' : World} {rb : Nat} {m : Int} (h : Rd B w rb m) (hb : Below w.heap.size w w') : Rd B w' rb m :=
  h.on hb.size (fun b hb' => hb.block b (Nat.lt_of_lt_of_le hb' (Nat.le_trans h.past (Nat.le_of_lt h.lt)))) (hb.block rb h.lt)
theorem Rd.alloc {B : Nat} {w : World} {rb : Nat} {m : Int} (h : Rd B w rb m) (o : Obj) : Rd B (w.alloc o) rb m := h.below ((Below.refl _ _).alloc (Nat.le_refl _) _)
theorem Rd.drew {B : Nat} {w : World} {rb : Nat} {m : Int} (h : Rd B w rb m) : Rd B w.drew rb m := h.below (Below.refl _ _).drew
theorem Rd.drewN {B : Nat} {w : World} {rb : Nat} {m : Int} (h : Rd B w rb m) (n : Nat) : Rd B (w.drewN n) rb m := h.on (Nat.le_refl _) (fun _ _ => rfl) rfl
theorem Wrote.drewN {B : Nat} {ts : TypeId → Prop} {w w' : World} (h : Wrote B ts w w') (n : Nat) : Wrote B ts w (w'.drewN n) := ⟨h.os, h.tape, h.output, h.size, h.block, h.shape⟩
theorem Wrote.drew {B : Nat} {ts : TypeId → Prop} {w w' : World} (h : Wrote B ts w w') : Wrote B ts w w'.drew := ⟨h.os, h.tape, h.output, h.size, h.block, h.shape⟩
theorem Rd.more {B : Nat} {w : World} {rb : Nat} {m m' : Int} (h : Rd B w rb m) (hm : m ≤ m') : Rd B w rb m' := by
  obtain ⟨hB, a, n, c, p, hh, h0, h1, h2, hc⟩ := h
  exact ⟨hB, a, n, c, p, hh, h0, by omega, h2, hc⟩
theorem Rd.set {B : Nat} {w : World} {rb : Nat} {m : Int} (h : Rd B w rb m) {b : Nat} (hb : B ≤ b) (hr : b ≠ rb) (i : Nat) (v : Value) : Rd B (w.setCell ⟨b, i, none⟩ v) rb m :=
  h.on (by rw [nblk_setCell]; exact Nat.le_refl _) (fun k hk => blk_setCell_other _ _ _ _ (by show k ≠ b; omega)) (blk_setCell_other _ _ _ _ (by show rb ≠ b; omega))
/-- The reader has picked once more. -/
theorem Rd.pick {B : Nat} {w : World} {rb : Nat} {m p : Int} {a : Option Addr} {n c : Nat} (hB : B ≤ rb) (hh : w.heap[rb]? = some (.cells #[.slice a n c, .int .i64 p] 71 (0, 0))) (h0 : 0 ≤ p) (h1 : p ≤ m) (h2 : n ≤ 2000) (hc : CodeAt B w a n) :
    Rd B (w.setCell ⟨rb, 1, none⟩ (.int .i64 (p + 1))) rb (m + 1) :=
  ⟨hB, a, n, c, p + 1, by rw [blk_set hh]; rfl, by omega, by omega, h2, hc.on (by rw [nblk_setCell]; exact Nat.le_refl _) (fun k hk => blk_setCell_other _ _ _ _ (by show k ≠ rb; omega))⟩
theorem Wrote.pick {B : Nat} {w : World} {rb : Nat} {c : Array Value} (hB : B ≤ rb) (hh : w.heap[rb]? = some (.cells c 71 (0, 0))) (v : Value) : Wrote B isRd w (w.setCell ⟨rb, 1, none⟩ v) :=
  (Wrote.refl B isRd w).set hB ⟨_, hh⟩ (show isRd _ from rfl) _ _

set_option maxHeartbeats 4000000 in
theorem pick_any (B rb : Nat) (m k : Int) (w : World) (h : Rd B w rb m) (hm : m ≤ 1000000) (h1 : 1 ≤ k) (h2 : k ≤ 1000000) :
    Calls Try.prog 28 #[.pointer (some ⟨rb, 0, none⟩), .int .i64 k] w fun e w' => (∃ r : Int, e = .returned (.int .i64 r) ∧ 0 ≤ r ∧ r < k) ∧ Rd B w' rb (m + 1) ∧ Wrote B isRd w w' := by
  obtain ⟨hB, a, n, c, p, hh, hp0, hpm, hn, hc⟩ := h
  have HR := hide (Rd.pick hB hh hp0 hpm hn hc)
  have HW := hide (Wrote.pick hB hh (.int .i64 (p + 1)))
  obtain ⟨c0, c1, cf⟩ := two hh
  have cf1 := cf 1
  obtain ⟨pn, rfl⟩ : ∃ q : Nat, p = q := ⟨p.toNat, by omega⟩
  clear cf
  by_cases hn0 : n = 0
  · subst hn0
    clear hc
    go_enter Try.func28, Try.ntmps28
    go_wp2_with fail
    all_goals
      go_ret
      exact ⟨⟨0, rfl, by omega, by omega⟩, unhide HR, unhide HW⟩
  obtain ⟨b, o, rfl, hbB, hbw, hc⟩ := hc.resolve_left hn0
  have hne : b ≠ rb := by omega
  have hcW : ∀ i, i < n → ∃ z : Int, (w.setCell ⟨rb, 1, none⟩ (.int .i64 (pn + 1))).cell? ⟨b, o + i, none⟩ = some (.int .u8 z) ∧ 0 ≤ z ∧ z ≤ 255 := fun i hi => by
    obtain ⟨z, hz, h0⟩ := hc i hi
    exact ⟨z, (World.cell?_of_block (w := w) (a := ⟨b, o + i, none⟩) (blk_setCell_other _ _ _ _ hne)).trans hz, h0⟩
  obtain ⟨c0W, c1W, _⟩ := two (show (w.setCell ⟨rb, 1, none⟩ (.int .i64 (pn + 1))).heap[rb]? = some (.cells #[.slice (some ⟨b, o, none⟩) n c, .int .i64 (pn + 1)] 71 (0, 0)) by rw [blk_set hh]; rfl)
  have hk1 : ¬ k < 1 := by omega
  have hnb : ((n : Int) == 0) = false := by simp; omega
  clear hh
  clear hc hbB hbw
  by_cases hpn : pn < n
  · obtain ⟨z, hz, hz0, hz1⟩ := hcW pn hpn
    clear hcW
    go_enter Try.func28, Try.ntmps28
    go_wp2_with fail
    go_ret
    exact ⟨⟨_, rfl, Int.emod_nonneg _ (by omega), Int.emod_lt_of_pos _ (by omega)⟩, unhide HR, unhide HW⟩
  · have e7 : IntKind.i64.wrap ((pn : Int) * 7) = (pn : Int) * 7 := wr64 _ (by omega)
    have e73 : IntKind.i64.wrap ((pn : Int) * 7 + 3) = (pn : Int) * 7 + 3 := wr64 _ (by omega)
    have e29 : IntKind.i64.wrap ((pn : Int) * 29) = (pn : Int) * 29 := wr64 _ (by omega)
    obtain ⟨i1, hi1, e1⟩ : ∃ i : Nat, i < n ∧ (pn : Int).tmod n = i := ⟨pn % n, Nat.mod_lt _ (by omega), by rw [Int.tmod_eq_emod_of_nonneg (by omega)]; rfl⟩
    obtain ⟨i2, hi2, e2⟩ : ∃ i : Nat, i < n ∧ ((pn : Int) * 7 + 3).tmod n = i := ⟨(pn * 7 + 3) % n, Nat.mod_lt _ (by omega), by rw [Int.tmod_eq_emod_of_nonneg (by omega)]; rfl⟩
    obtain ⟨d, hd, e3⟩ : ∃ d : Nat, d ≤ 1000000 ∧ (pn : Int).tdiv n = d := ⟨pn / n, by have := Nat.div_le_self pn n; omega, by rw [Int.tdiv_eq_ediv_of_nonneg (by omega)]; rfl⟩
    obtain ⟨z1, hz1, h10, h11⟩ := hcW i1 hi1
    obtain ⟨z2, hz2, h20, h21⟩ := hcW i2 hi2
    have f1 : IntKind.i64.wrap (z1 * 131) = z1 * 131 := wr64 _ (by omega)
    have f2 : IntKind.i64.wrap (z2 * 1117) = z2 * 1117 := wr64 _ (by omega)
    have f3 : IntKind.i64.wrap (z1 * 131 + z2 * 1117) = z1 * 131 + z2 * 1117 := wr64 _ (by omega)
    have f4 : IntKind.i64.wrap (z1 * 131 + z2 * 1117 + (pn : Int) * 29) = z1 * 131 + z2 * 1117 + (pn : Int) * 29 := wr64 _ (by omega)
    have f5 : IntKind.i64.wrap ((d : Int)) = (d : Int) := wr64 _ (by omega)
    have f6 : IntKind.i64.wrap ((d : Int) * 53) = (d : Int) * 53 := wr64 _ (by omega)
    have f7 : IntKind.i64.wrap (z1 * 131 + z2 * 1117 + (pn : Int) * 29 + (d : Int) * 53) = z1 * 131 + z2 * 1117 + (pn : Int) * 29 + (d : Int) * 53 := wr64 _ (by omega)
    clear hcW
    go_enter Try.func28, Try.ntmps28
    go_wp2_with fail
    go_quiet (fail)
    go_wp2_with fail
    go_ret
    have hx := xor_small (z1 * 131 + z2 * 1117 + (pn : Int) * 29 + (d : Int) * 53) ((z1 * 131 + z2 * 1117 + (pn : Int) * 29 + (d : Int) * 53) / 64) (by omega) (by omega) (by omega) (by omega)
    refine ⟨⟨_, rfl, ?_, ?_⟩, (unhide HR).drewN _, (unhide HW).drewN _⟩
    · rw [Int.tmod_eq_emod_of_nonneg hx]
      exact Int.emod_nonneg _ (by omega)
    · rw [Int.tmod_eq_emod_of_nonneg hx]
      exact Int.emod_lt_of_pos _ (by omega)
end Go.Proofs.Ytnegiggafgfmkaa

namespace Go.Proofs.Ytnegiggafgfmkaa
set_option linter.unusedVariables false
set_option linter.unusedSimpArgs false

/-- How many operations are not listed yet. -/
def leftOver (n : Nat) (listed : Array Bool) : Nat := (List.range n).countP fun i => !listed.getD i true

theorem count_less {p q : Nat → Bool} {i : Nat} (hi : p i = true) (hq : q i = false) (h : ∀ j, j ≠ i → q j = p j) : ∀ n, i < n → (List.range n).countP q + 1 = (List.range n).countP p
  | 0, hn => absurd hn (Nat.not_lt_zero _)
  | n + 1, hn => by
    rw [List.range_succ, List.countP_append, List.countP_append, List.countP_singleton, List.countP_singleton]
    by_cases e : i = n
    · subst e
      have e2 : (List.range i).countP q = (List.range i).countP p := by
        apply List.countP_congr
        intro x hx
        rw [h x (by have := List.mem_range.1 hx; omega)]
      rw [e2, hi, hq]
      simp
    · have := count_less hi hq h n (by omega)
      rw [h n (fun x => e x.symm)]
      omega

theorem left_step {md : Region.Mode} {ops : Array Oper} {listed : Array Bool} {i : Nat} (hi : i ∈ Region.ready md ops listed) : leftOver ops.size (listed.setIfInBounds i true) + 1 = leftOver ops.size listed := by
  unfold Region.ready at hi
  obtain ⟨h1, h2⟩ := List.mem_filter.1 hi
  have hlt : i < ops.size := List.mem_range.1 h1
  have hf : listed.getD i true = false := by
    cases h : listed.getD i true
    · rfl
    · rw [h] at h2; simp at h2
  have hin : i < listed.size := by
    refine Nat.lt_of_not_le fun hge => ?_
    rw [Array.getD_eq_getD_getElem?, Array.getElem?_eq_none hge] at hf
    cases hf
  refine count_less (p := fun i => !listed.getD i true) (q := fun j => !(listed.setIfInBounds i true).getD j true) (by rw [hf]; rfl) ?_ ?_ ops.size hlt
  · simp [Array.getD_eq_getD_getElem?, Array.getElem?_setIfInBounds, hin]
  · intro j hj
    simp [Array.getD_eq_getD_getElem?, Array.getElem?_setIfInBounds, Ne.symm hj]

variable {P : Program} {ops : Array Oper} {Q : Exit → Act → World → Prop} {md : Region.Mode}

theorem wpAny_inv {I : Array Bool → Act → World → Prop}
    (hstep : ∀ listed a w, I listed a w → ∀ i ∈ Region.ready md ops listed, wpOp P ops Q i (I (listed.setIfInBounds i true)) a w)
    (hend : ∀ listed a w, I listed a w → Region.ready md ops listed = [] → Q .normal a w) :
    ∀ (fuel : Nat) (listed : Array Bool) (a : Act) (w : World), leftOver ops.size listed ≤ fuel → I listed a w → wpAny P md ops Q fuel listed a w
  | 0, listed, a, w, hf, h => by
    have hr : Region.ready md ops listed = [] := by
      cases hr : Region.ready md ops listed with
      | nil => rfl
      | cons x xs =>
        have := left_step (md := md) (ops := ops) (listed := listed) (i := x) (by rw [hr]; simp)
        omega
    exact ⟨hr, hend _ _ _ h hr⟩
  | fuel + 1, listed, a, w, hf, h =>
    ⟨fun hr => hend _ _ _ h hr, fun i hi => wpOp_mono (fun a' w' h' => wpAny_inv hstep hend fuel _ a' w' (by have := left_step hi; omega) h') (hstep _ _ _ h i hi)⟩

theorem left_all (n : Nat) (listed : Array Bool) : leftOver n listed ≤ n := by
  have := List.countP_le_length (p := fun i => !listed.getD i true) (l := List.range n)
  rwa [List.length_range] at this

theorem wp_region_inv {id : Nat} {a : Act} {w : World} (hm : P.follows .mixedOrders = true) (I : Array Bool → Act → World → Prop)
    (h0 : I (Array.replicate ops.size false) a w.drew)
    (hstep : ∀ listed a w, I listed a w → ∀ i ∈ Region.ready .any ops listed, wpOp P ops Q i (I (listed.setIfInBounds i true)) a w)
    (hend : ∀ listed a w, I listed a w → Region.ready .any ops listed = [] → Q .normal a w) : (Code.region id ops true).wp P Q a w :=
  wp_region_any hm (wpAny_inv hstep hend ops.size _ a _ (left_all _ _) h0)

/-- The slot of operation i. -/
def slotOf (ops : Array Oper) (i : Nat) : Option Tmp := (ops[i]?).bind (·.dst)
/-- A frame that differs from another in the region's own slots alone. -/
structure Agree (ops : Array Oper) (a0 a : Act) : Prop where
  defers : a.defers = a0.defers
  size : a.tmps.size = a0.tmps.size
  slot : ∀ t, (∀ i, slotOf ops i ≠ some t) → a.tmps[t]? = a0.tmps[t]?
theorem Agree.refl (ops : Array Oper) (a : Act) : Agree ops a a := ⟨rfl, rfl, fun _ _ => rfl⟩
theorem Agree.put {ops : Array Oper} {a0 a : Act} (h : Agree ops a0 a) {i : Nat} {o : Oper} (hi : ops[i]? = some o) (v : Value) : Agree ops a0 (a.put o.dst v) := by
  have hs : slotOf ops i = o.dst := by simp [slotOf, hi]
  cases hd : o.dst with
  | none => exact h
  | some d =>
    refine ⟨h.defers, by simp [Act.put, h.size], fun t ht => ?_⟩
    have hne : d ≠ t := fun e => ht i (by rw [hs, hd, e])
    simp only [Act.put, Array.getElem?_setIfInBounds, hne, if_false]
    exact h.slot t ht

/-- What may be checked of a region ahead: no guard, edges backward alone, each slot once. -/
def plainB (ops : Array Oper) : Bool :=
  (List.range ops.size).all fun i => match ops[i]? with
    | some o => o.guard.isNone && o.after.all (fun e => decide (e.on < i)) && (match o.dst with | some d => (List.range i).all (fun j => slotOf ops j != some d) | none => true)
    | none => true

theorem plain_at (h : plainB ops = true) {i : Nat} {o : Oper} (hi : ops[i]? = some o) : o.guard = none ∧ (∀ e ∈ o.after, e.on < i) ∧ ∀ d, o.dst = some d → ∀ j, j < i → slotOf ops j ≠ some d := by
  have hlt : i < ops.size := (Array.getElem?_eq_some_iff.1 hi).1
  have h1 := List.all_eq_true.1 h i (List.mem_range.2 hlt)
  simp only [hi] at h1
  rw [Bool.and_eq_true, Bool.and_eq_true] at h1
  obtain ⟨⟨h2, h3⟩, h4⟩ := h1
  refine ⟨by simpa using h2, fun e he => ?_, fun d hd j hj => ?_⟩
  · have := Array.all_eq_true'.1 h3 e he
    simpa using this
  · rw [hd] at h4
    have := List.all_eq_true.1 h4 j (List.mem_range.2 hj)
    simpa using this

theorem slot_once (h : plainB ops = true) {i j : Nat} {d : Tmp} (hi : slotOf ops i = some d) (hj : slotOf ops j = some d) : i = j := by
  have key : ∀ i j, slotOf ops i = some d → slotOf ops j = some d → ¬ j < i := fun i j hi hj hlt => by
    unfold slotOf at hi
    obtain ⟨o, ho, hd⟩ := Option.bind_eq_some_iff.1 hi
    exact (plain_at h ho).2.2 d hd j hlt hj
  have := key i j hi hj
  have := key j i hj hi
  omega

/-- Where nothing is ready all is listed. -/
theorem all_listed (h : plainB ops = true) {listed : Array Bool} (hr : Region.ready md ops listed = []) (hs : listed.size = ops.size) : ∀ i, i < ops.size → listed.getD i false = true := by
  intro i
  induction i using Nat.strongRecOn with
  | _ i ih =>
    intro hi
    have ho : ops[i]? = some ops[i] := by simp [hi]
    cases hl : listed.getD i false
    · exfalso
      have hin : i ∈ Region.ready md ops listed := by
        unfold Region.ready
        refine List.mem_filter.2 ⟨List.mem_range.2 hi, ?_⟩
        have hl' : listed.getD i true = false := by
          simp [Array.getD, hs, hi] at hl ⊢
          exact hl
        rw [hl', ho]
        simp only [Option.map_some, Option.getD_some, Bool.not_false, Bool.true_and]
        refine Array.all_eq_true'.2 fun e he => ?_
        have := ih e.on ((plain_at h ho).2.1 e he) (Nat.lt_trans ((plain_at h ho).2.1 e he) hi)
        rw [this]
        simp
      rw [hr] at hin
      cases hin
    · rfl

def slotsB (ops : Array Oper) (n : Nat) : Bool := (List.range ops.size).all fun i => match slotOf ops i with | some d => decide (d < n) | none => true
theorem slots_at {n : Nat} (h : slotsB ops n = true) {i : Nat} {d : Tmp} (hi : slotOf ops i = some d) : d < n := by
  have hlt : i < ops.size := by
    unfold slotOf at hi
    obtain ⟨o, ho, _⟩ := Option.bind_eq_some_iff.1 hi
    exact (Array.getElem?_eq_some_iff.1 ho).1
  have h1 := List.all_eq_true.1 h i (List.mem_range.2 hlt)
  simp only [hi] at h1
  simpa using h1

/-- What operation i has left in its slot. -/
def valOf (ops : Array Oper) (a : Act) (i : Nat) : Value := match slotOf ops i with | some d => a.eval (.tmp d) | none => undef

theorem eval_tmp (a : Act) (d : Tmp) : a.eval (.tmp d) = a.tmps.getD d undef := rfl

theorem valOf_put_same {a : Act} {i : Nat} {o : Oper} (hi : ops[i]? = some o) (hs : ∀ d, o.dst = some d → d < a.tmps.size) (v : Value) : valOf ops (a.put o.dst v) i = o.dst.elim undef fun _ => v := by
  have e : slotOf ops i = o.dst := by simp [slotOf, hi]
  unfold valOf
  rw [e]
  cases hd : o.dst with
  | none => rfl
  | some d =>
    simp only [Option.elim_some]
    rw [eval_tmp]
    simp [Act.put, Array.getD_eq_getD_getElem?, Array.getElem?_setIfInBounds, hs d hd]

theorem valOf_put_other (h : plainB ops = true) {a : Act} {i j : Nat} {o : Oper} (hi : ops[i]? = some o) (hne : j ≠ i) (v : Value) : valOf ops (a.put o.dst v) j = valOf ops a j := by
  have e : slotOf ops i = o.dst := by simp [slotOf, hi]
  unfold valOf
  cases hj : slotOf ops j with
  | none => rfl
  | some d =>
    simp only
    cases hd : o.dst with
    | none => rfl
    | some d' =>
      have hdd : d' ≠ d := fun x => hne (slot_once h hj (by rw [e, hd, x]))
      rw [eval_tmp, eval_tmp]
      simp [Act.put, Array.getD_eq_getD_getElem?, Array.getElem?_setIfInBounds, hdd]

theorem wp_region_typed {id : Nat} {a0 : Act} {w0 : World} (hm : P.follows .mixedOrders = true) (hp : plainB ops = true) (hs : slotsB ops a0.tmps.size = true)
    (T : Nat → Value → World → Prop) (C : Nat → World → Prop) (E : World → World → Prop)
    (hE : ∀ x y z, E x y → E y z → E x z) (hE0 : E w0.drew w0.drew) (hT : ∀ i v x y, T i v x → E x y → T i v y) (hC : C 0 w0.drew)
    (hop : ∀ (i : Nat) (o : Oper), ops[i]? = some o → ∀ (a : Act) (w : World) (n : Nat), n < ops.size → Agree ops a0 a → C n w → E w0.drew w → (∀ e ∈ o.after, Region.binds .any e = true → T e.on (valOf ops a e.on) w) →
      o.wp P a w (fun a' w' => ∃ v, a' = a.put o.dst v ∧ T i (o.dst.elim undef fun _ => v) w' ∧ C (n + 1) w' ∧ E w w') Q)
    (hend : ∀ a w, Agree ops a0 a → C ops.size w → E w0.drew w → (∀ i, i < ops.size → T i (valOf ops a i) w) → Q .normal a w) :
    (Code.region id ops true).wp P Q a0 w0 := by
  refine wp_region_inv hm (fun listed a w => listed.size = ops.size ∧ Agree ops a0 a ∧ C (ops.size - leftOver ops.size listed) w ∧ E w0.drew w ∧ ∀ i, i < ops.size → listed.getD i false = true → T i (valOf ops a i) w) ?_ ?_ ?_
  · refine ⟨by simp, Agree.refl _ _, ?_, hE0, fun i hi h => ?_⟩
    · have e : leftOver ops.size (Array.replicate ops.size false) = ops.size := by
        unfold leftOver
        rw [List.countP_eq_length.2, List.length_range]
        intro i hi
        have := List.mem_range.1 hi
        simp [Array.getD, this]
      rw [e, Nat.sub_self]
      exact hC
    · simp [Array.getD, hi] at h
  · rintro listed a w ⟨hl, ha, hc, he, ht⟩ i hi
    have hls := left_step hi
    have hla := left_all ops.size listed
    unfold Region.ready at hi
    obtain ⟨hi1, hi2⟩ := List.mem_filter.1 hi
    have hlt : i < ops.size := List.mem_range.1 hi1
    have ho : ops[i]? = some ops[i] := by simp [hlt]
    obtain ⟨o, hoe⟩ : ∃ o, o = ops[i] := ⟨_, rfl⟩
    rw [← hoe] at ho
    rw [ho] at hi2
    simp only [Option.map_some, Option.getD_some, Bool.and_eq_true] at hi2
    have hdep : ∀ e ∈ o.after, Region.binds .any e = true → T e.on (valOf ops a e.on) w := fun e hee hb => by
      have h1 := Array.all_eq_true'.1 hi2.2 e hee
      rw [hb] at h1
      simp only [Bool.not_true, Bool.false_or] at h1
      exact ht e.on (Nat.lt_trans ((plain_at hp ho).2.1 e hee) hlt) h1
    have hw := hop i o ho a w _ (by omega) ha hc he hdep
    unfold wpOp
    simp only [ho]
    rw [if_pos (by simp [Region.wanted, (plain_at hp ho).1])]
    refine Or.inl (Oper.wp_mono ?_ hw)
    rintro a' w' ⟨v, rfl, hv, hc', he'⟩
    refine ⟨by simpa using hl, ha.put ho v, ?_, hE _ _ _ he he', fun j hj hjl => ?_⟩
    · rw [show ops.size - leftOver ops.size (listed.setIfInBounds i true) = ops.size - leftOver ops.size listed + 1 by omega]
      exact hc'
    · by_cases e : j = i
      · subst e
        rw [valOf_put_same ho (fun d hd => by rw [ha.size]; exact slots_at hs (i := j) (by simp [slotOf, ho, hd]))]
        exact hv
      · rw [valOf_put_other hp ho e]
        refine hT _ _ _ _ (ht j hj ?_) he'
        rw [← hjl]
        simp [Array.getD_eq_getD_getElem?, Array.getElem?_setIfInBounds, Ne.symm e]
  · rintro listed a w ⟨hl, ha, hc, he, ht⟩ hr
    have hall := all_listed hp hr hl
    have h0 : leftOver ops.size listed = 0 := by
      unfold leftOver
      rw [List.countP_eq_zero]
      intro i hi
      have hi' := List.mem_range.1 hi
      have := hall i hi'
      simp [Array.getD, hl, hi'] at this ⊢
      exact this
    rw [h0] at hc
    exact hend a w ha hc he fun i hi => ht i hi (hall i hi)

/-- The same, where what the slots hold is known at a level that may rise by one with each operation. -/
theorem wp_region_levels {id : Nat} {a0 : Act} {w0 : World} (hm : P.follows .mixedOrders = true) (hp : plainB ops = true) (hs : slotsB ops a0.tmps.size = true)
    (T : Nat → Nat → Value → World → Prop) (C : Nat → World → Prop) (E : World → World → Prop) (E1 : Nat → World → World → Prop)
    (hE : ∀ x y z, E x y → E y z → E x z) (hE0 : E w0.drew w0.drew) (hT : ∀ i k v x y, T i k v x → E1 k x y → T i (k + 1) v y) (hC : C 0 w0.drew)
    (hop : ∀ (i : Nat) (o : Oper), ops[i]? = some o → ∀ (a : Act) (w : World) (n : Nat), n < ops.size → Agree ops a0 a → C n w → E w0.drew w → (∀ e ∈ o.after, Region.binds .any e = true → T e.on n (valOf ops a e.on) w) →
      o.wp P a w (fun a' w' => ∃ v, a' = a.put o.dst v ∧ T i (n + 1) (o.dst.elim undef fun _ => v) w' ∧ C (n + 1) w' ∧ E w w' ∧ E1 n w w') Q)
    (hend : ∀ a w, Agree ops a0 a → C ops.size w → E w0.drew w → (∀ i, i < ops.size → T i ops.size (valOf ops a i) w) → Q .normal a w) :
    (Code.region id ops true).wp P Q a0 w0 := by
  refine wp_region_inv hm (fun listed a w => listed.size = ops.size ∧ Agree ops a0 a ∧ C (ops.size - leftOver ops.size listed) w ∧ E w0.drew w ∧ ∀ i, i < ops.size → listed.getD i false = true → T i (ops.size - leftOver ops.size listed) (valOf ops a i) w) ?_ ?_ ?_
  · refine ⟨by simp, Agree.refl _ _, ?_, hE0, fun i hi h => ?_⟩
    · have e : leftOver ops.size (Array.replicate ops.size false) = ops.size := by
        unfold leftOver
        rw [List.countP_eq_length.2, List.length_range]
        intro i hi
        have := List.mem_range.1 hi
        simp [Array.getD, this]
      rw [e, Nat.sub_self]
      exact hC
    · simp [Array.getD, hi] at h
  · rintro listed a w ⟨hl, ha, hc, he, ht⟩ i hi
    have hls := left_step hi
    have hla := left_all ops.size listed
    unfold Region.ready at hi
    obtain ⟨hi1, hi2⟩ := List.mem_filter.1 hi
    have hlt : i < ops.size := List.mem_range.1 hi1
    have ho : ops[i]? = some ops[i] := by simp [hlt]
    obtain ⟨o, hoe⟩ : ∃ o, o = ops[i] := ⟨_, rfl⟩
    rw [← hoe] at ho
    rw [ho] at hi2
    simp only [Option.map_some, Option.getD_some, Bool.and_eq_true] at hi2
    have hdep : ∀ e ∈ o.after, Region.binds .any e = true → T e.on (ops.size - leftOver ops.size listed) (valOf ops a e.on) w := fun e hee hb => by
      have h1 := Array.all_eq_true'.1 hi2.2 e hee
      rw [hb] at h1
      simp only [Bool.not_true, Bool.false_or] at h1
      exact ht e.on (Nat.lt_trans ((plain_at hp ho).2.1 e hee) hlt) h1
    have hw := hop i o ho a w _ (by omega) ha hc he hdep
    unfold wpOp
    simp only [ho]
    rw [if_pos (by simp [Region.wanted, (plain_at hp ho).1])]
    refine Or.inl (Oper.wp_mono ?_ hw)
    rintro a' w' ⟨v, rfl, hv, hc', he', he1⟩
    have hcount : ops.size - leftOver ops.size (listed.setIfInBounds i true) = ops.size - leftOver ops.size listed + 1 := by omega
    rw [hcount]
    refine ⟨by simpa using hl, ha.put ho v, hc', hE _ _ _ he he', fun j hj hjl => ?_⟩
    · by_cases e : j = i
      · subst e
        rw [valOf_put_same ho (fun d hd => by rw [ha.size]; exact slots_at hs (i := j) (by simp [slotOf, ho, hd]))]
        exact hv
      · rw [valOf_put_other hp ho e]
        refine hT _ _ _ _ _ (ht j hj ?_) he1
        rw [← hjl]
        simp [Array.getD_eq_getD_getElem?, Array.getElem?_setIfInBounds, Ne.symm e]
  · rintro listed a w ⟨hl, ha, hc, he, ht⟩ hr
    have hall := all_listed hp hr hl
    have h0 : leftOver ops.size listed = 0 := by
      unfold leftOver
      rw [List.countP_eq_zero]
      intro i hi
      have hi' := List.mem_range.1 hi
      have := hall i hi'
      simp [Array.getD, hl, hi'] at this ⊢
      exact this
    rw [h0] at hc ht
    exact hend a w ha hc he fun i hi => ht i hi (hall i hi)

/-- The frame written out: the region's own slots as they are, the others as they were. -/
theorem Agree.list {ops : Array Oper} {a0 a : Act} (ha : Agree ops a0 a) :
    a = ⟨((List.range a0.tmps.size).map fun t => if (List.range ops.size).any (fun i => slotOf ops i == some t) then a.tmps[t]?.getD undef else a0.tmps[t]?.getD undef).toArray, a0.defers⟩ := by
  obtain ⟨t, d⟩ := a
  have h1 : d = a0.defers := ha.defers
  have h2 : t.size = a0.tmps.size := ha.size
  subst h1
  congr 1
  apply Array.ext
  · simp [h2]
  · intro i hi1 hi2
    simp only [List.getElem_toArray, List.getElem_map, List.getElem_range]
    split
    · simp [hi1]
    · rename_i hn
      have := ha.slot i (fun j hj => hn (by
        refine List.any_eq_true.2 ⟨j, List.mem_range.2 ?_, by simp [hj]⟩
        unfold slotOf at hj
        obtain ⟨o, ho, _⟩ := Option.bind_eq_some_iff.1 hj
        exact (Array.getElem?_eq_some_iff.1 ho).1))
      have h3 : t[i]? = a0.tmps[i]? := this
      rw [← h3]
      simp [hi1]

theorem valOf_at {ops : Array Oper} {i : Nat} {d : Tmp} (h : slotOf ops i = some d) (a : Act) : valOf ops a i = a.tmps[d]?.getD undef := by
  unfold valOf
  rw [h]
  simp only
  rw [eval_tmp, Array.getD_eq_getD_getElem?]
end Go.Proofs.Ytnegiggafgfmkaa
