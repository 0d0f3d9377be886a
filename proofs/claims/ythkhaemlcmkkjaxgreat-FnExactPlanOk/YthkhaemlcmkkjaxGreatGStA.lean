/- States: the specification's form and size of some packs. The specification's StateSize. -/
import Derived.Test.YthkhaemlcmkkjaxGreatGSpec
import Derived.Test.YthkhaemlcmkkjaxGreatGBase
import Derived.Deep.QuietTactic
import Derived.BigQuiet
namespace Go.Proofs.YthkhaemlcmkkjaxGreat
set_option linter.unusedVariables false
set_option linter.unusedSimpArgs false
open Go.RowKit Go.Deep

/-- Numbers that lie in memory, read alone. -/
def SetAt (w : World) (a : Option Addr) (l : List Int) : Prop := l.length ≤ 1048576 ∧ (l = [] ∨ ∃ b o, a = some ⟨b, o, none⟩ ∧ b < w.heap.size ∧ ∀ i, i < l.length → w.cell? ⟨b, o + i, none⟩ = some (.int .i64 (l.getD i 0)))
theorem SetAt.on {w w' : World} {a : Option Addr} {l : List Int} (h : SetAt w a l) (hb : Below w.heap.size w w') : SetAt w' a l := by
  obtain ⟨hl, h⟩ := h
  refine ⟨hl, h.imp id fun ⟨b, o, ha, hlt, hc⟩ => ⟨b, o, ha, Nat.lt_of_lt_of_le hlt hb.size, fun i hi => ?_⟩⟩
  rw [World.cell?_of_block (w := w) (a := ⟨b, o + i, none⟩) (hb.block b hlt)]
  exact hc i hi
/-- Place i of some is a place of n packs, behind the one ahead of it. -/
def placeB (n : Nat) (set : List Int) (i : Nat) : Bool := inB (set.getD i 0) 0 ((n : Int) - 1) && (i == 0 || decide (set.getD (i - 1) 0 < set.getD i 0))
def placesB (n : Nat) (set : List Int) : Bool := (List.range set.length).all (placeB n set)
def formB (l : List PackD) (room : Int) (set : List Int) : Bool := placesB l.length set && repoB ⟨l, room⟩

set_option maxHeartbeats 4000000 in
theorem l2Form_any (a : Option Addr) (l : List PackD) (cap : Nat) (room : Int) (sa : Option Addr) (set : List Int) (sc : Nat) (w : World) (h : PacksAt (Old w) w a l) (hs : SetAt w sa set) :
    Calls Tryz.prog 55 #[.agg #[.slice a l.length cap, .int .i64 room], .slice sa set.length sc] w fun e w' => e = .returned (.bool (formB l room set)) ∧ Below w.heap.size w w' := by
  obtain ⟨hsl, hset⟩ := hs
  have hm := h.1
  unfold maxLen at hm
  have HP := hide (h.on ((Below.refl w.heap.size w).alloc (Nat.le_refl _) (.cells #[.slice a l.length cap, .int .i64 room] 33)))
  have hw1 := IntKind.wrap_i64 ((l.length : Int) - 1)
  have hw2 : IntKind.i64.wrap ((l.length : Int) - 1) = (l.length : Int) - 1 := by rw [hw1]; omega
  clear h hw1
  go_enter Tryz.func55, Tryz.ntmps55
  go_wp2_with fail
  go_loopw [5] (fun i wr => ∃ k : Nat, k ≤ set.length ∧ i = .int .i64 k ∧ Hid ((List.range k).all (placeB l.length set) = true) ∧ Drawn (w.alloc (.cells #[.slice a l.length cap, .int .i64 room] 33)) wr) (fun i _ => set.length - (intOf i).toNat)
  case atStart => exact ⟨0, Nat.zero_le _, rfl, rfl, Drawn.refl _⟩
  case round =>
    rename World => wo
    obtain ⟨k, hk, rfl, HA, hw⟩ := hrel
    by_cases hlt : k < set.length
    · rcases hset with hset | ⟨b, o, rfl, hbl, hset⟩
      · subst hset; simp at hlt
      have c0 := hset k hlt
      have c1 := hset (k - 1) (by omega)
      have hne : b ≠ w.heap.size := by omega
      have e0 : (w.alloc (.cells #[.slice a l.length cap, .int .i64 room] 33)).cell? ⟨b, o + k, none⟩ = some (.int .i64 (set.getD k 0)) := (World.cell?_of_block (w := w) (a := ⟨b, o + k, none⟩) (blk_alloc_lt _ _ _ hbl)).trans c0
      have e1 : (w.alloc (.cells #[.slice a l.length cap, .int .i64 room] 33)).cell? ⟨b, o + (k - 1), none⟩ = some (.int .i64 (set.getD (k - 1) 0)) := (World.cell?_of_block (w := w) (a := ⟨b, o + (k - 1), none⟩) (blk_alloc_lt _ _ _ hbl)).trans c1
      have x0 : (w.alloc (.cells #[.slice a l.length cap, .int .i64 room] 33)).cell? ⟨w.heap.size, 0, none⟩ = some (.slice a l.length cap) := by simp
      rw [← hw.cell] at e0 e1 x0
      have hpl : placeB l.length set k = (inB (set.getD k 0) 0 ((l.length : Int) - 1) && (k == 0 || decide (set.getD (k - 1) 0 < set.getD k 0))) := rfl
      have hall : (List.range (k + 1)).all (placeB l.length set) = ((List.range k).all (placeB l.length set) && placeB l.length set k) := by rw [List.range_succ]; simp
      have hno : placeB l.length set k = false → formB l room set = false := fun hf => by
        unfold formB placesB
        rw [Bool.and_eq_false_iff]
        left
        rw [List.all_eq_false]
        exact ⟨k, List.mem_range.2 hlt, by simp [hf]⟩
      have HNO := hide hno
      have HALL := hide hall
      generalize set.getD k 0 = z at e0 hpl
      generalize set.getD (k - 1) 0 = y at e1 hpl
      have j1 : (k : Int) < (set.length : Int) := by omega
      clear c0 c1 hset hno hall
      cases hin : inB z 0 ((l.length : Int) - 1) with
      | false =>
        rw [hin] at hpl
        have HF := hide ((unhide HNO) (by rw [hpl]; rfl))
        clear hpl HNO
        go_wp2_with fail
        go_quiet (first | (go_at_call 77; exact Calls.quiet_of_same (l6In_any _ _ _ _)))
        go_wp2_with fail
        go_ret
        exact ⟨ret_bool (unhide HF).symm, ((Below.refl w.heap.size w).alloc (Nat.le_refl _) (.cells #[.slice a l.length cap, .int .i64 room] 33)).trans ((hw.more _).below w.heap.size)⟩
      | true =>
        by_cases hk0 : k = 0
        · subst hk0
          have hd0 : decide ((0 : Int) < ((0 : Nat) : Int)) = false := by decide
          have HA' := hide ((unhide HALL).trans (by (rw [unhide HA, hpl, hin]) <;> rfl))
          clear hpl HNO HALL HA e1
          rw [Nat.add_zero] at e0
          go_wp2_with fail
          go_quiet (first | (go_at_call 77; exact Calls.quiet_of_same (l6In_any _ _ _ _)))
          go_wp2_with fail
          go_roundw
          case rel => exact ⟨0 + 1, by omega, by go_num, unhide HA', hw.more _⟩
          case measure => simp [intOf]; omega
        · have hkp : (0 : Int) < (k : Int) := by omega
          have hkn : 0 < k := by omega
          have hwk : IntKind.i64.wrap ((k : Int) - 1) = ((k - 1 : Nat) : Int) := by rw [IntKind.wrap_i64]; omega
          have hj2 : ((k - 1 : Nat) : Int) < (set.length : Int) := by omega
          by_cases hyz : z ≤ y
          · have HF := hide ((unhide HNO) (by rw [hpl, hin]; simp [hk0] <;> omega))
            clear hpl HNO HALL HA
            go_wp2_with fail
            go_quiet (first | (go_at_call 77; exact Calls.quiet_of_same (l6In_any _ _ _ _)))
            go_wp2_with fail
            go_ret
            exact ⟨ret_bool (unhide HF).symm, ((Below.refl w.heap.size w).alloc (Nat.le_refl _) (.cells #[.slice a l.length cap, .int .i64 room] 33)).trans ((hw.more _).below w.heap.size)⟩
          · have hdz : decide (z ≤ y) = false := by simp <;> omega
            have hyz' : y < z := by omega
            have HA' : Hid ((List.range (k + 1)).all (placeB l.length set) = true) := (unhide HALL).trans (by rw [unhide HA, hpl, hin]; simp [hk0, hyz'])
            clear hpl HNO HALL HA
            go_wp2_with fail
            go_quiet (first | (go_at_call 77; exact Calls.quiet_of_same (l6In_any _ _ _ _)))
            go_wp2_with fail
            go_roundw
            case rel => exact ⟨k + 1, by omega, by go_num, unhide HA', hw.more _⟩
            case measure => simp [intOf]; omega
    · have j1 : ¬ (k : Int) < (set.length : Int) := by omega
      have hkk : k = set.length := by omega
      have x0 : (w.alloc (.cells #[.slice a l.length cap, .int .i64 room] 33)).cell? ⟨w.heap.size, 0, none⟩ = some (.slice a l.length cap) := by simp
      have x1 : (w.alloc (.cells #[.slice a l.length cap, .int .i64 room] 33)).cell? ⟨w.heap.size, 1, none⟩ = some (.int .i64 room) := by simp
      rw [← hw.cell] at x0 x1
      go_wp2_with fail
      refine (specRepoOk_any a l cap room _ ((unhide HP).on (hw.below _))).mono ?_
      rintro e w2 ⟨rfl, b2⟩
      have HB := hide (((Below.refl w.heap.size w).alloc (Nat.le_refl _) (.cells #[.slice a l.length cap, .int .i64 room] 33)).trans ((hw.below w.heap.size).trans (b2.mono (by have := (hw.below w.heap.size).size; simp at this; omega))))
      have HE := hide (show formB l room set = repoB ⟨l, room⟩ by unfold formB placesB; rw [← hkk, unhide HA]; rfl)
      clear b2
      go_wp2_with fail
      go_ret
      exact ⟨ret_bool (unhide HE).symm, unhide HB⟩
end Go.Proofs.YthkhaemlcmkkjaxGreat

namespace Go.Proofs.YthkhaemlcmkkjaxGreat
set_option linter.unusedVariables false
set_option linter.unusedSimpArgs false
open Go.RowKit Go.Deep

def sumTo (l : List PackD) (set : List Int) : Nat → Int
  | 0 => 0
  | k + 1 => sumTo l set k + (l.getD (set.getD k 0).toNat dPack).size
def sizeZ (l : List PackD) (room : Int) (set : List Int) : Int := if formB l room set then sumTo l set set.length else -1
theorem form_place {l : List PackD} {room : Int} {set : List Int} (h : formB l room set = true) {k : Nat} (hk : k < set.length) : 0 ≤ set.getD k 0 ∧ set.getD k 0 < l.length := by
  simp only [formB, Bool.and_eq_true] at h
  have := List.all_eq_true.1 h.1 k (List.mem_range.2 hk)
  simp only [placeB, inB, Bool.and_eq_true, decide_eq_true_eq] at this
  omega
theorem form_size {l : List PackD} {room : Int} {set : List Int} (h : formB l room set = true) {q : Nat} (hq : q < l.length) : 0 ≤ (l.getD q dPack).size ∧ (l.getD q dPack).size ≤ 999 := by
  simp only [formB, repoB, Bool.and_eq_true] at h
  have := List.all_eq_true.1 h.2.1.2 _ (getD_mem (d := dPack) hq)
  simp only [packB, inB, Bool.and_eq_true, decide_eq_true_eq] at this
  exact this.1.1.1.1.2
theorem sum_bound {l : List PackD} {room : Int} {set : List Int} (h : formB l room set = true) : ∀ k, k ≤ set.length → 0 ≤ sumTo l set k ∧ sumTo l set k ≤ 999 * k
  | 0, _ => by simp [sumTo]
  | k + 1, hk => by
    have ih := sum_bound h k (by omega)
    have hp := form_place h (show k < set.length by omega)
    have hs := form_size h (q := (set.getD k 0).toNat) (by omega)
    simp only [sumTo]
    omega

set_option maxHeartbeats 4000000 in
theorem specStateSize_any (a : Option Addr) (l : List PackD) (cap : Nat) (room : Int) (sa : Option Addr) (set : List Int) (sc : Nat) (w : World) (h : PacksAt (Old w) w a l) (hs : SetAt w sa set) :
    Calls Tryz.prog 37 #[.agg #[.slice a l.length cap, .int .i64 room], .slice sa set.length sc] w fun e w' => e = .returned (.int .i64 (sizeZ l room set)) ∧ Below w.heap.size w w' := by
  have bA := (Below.refl w.heap.size w).alloc (Nat.le_refl _) (.cells #[.slice a l.length cap, .int .i64 room] 33)
  have HC := hide (l2Form_any a l cap room sa set sc _ (h.on bA) (hs.on bA))
  have HP := hide (h.on bA)
  have HS := hide (hs.on bA)
  have hm := h.1
  have hsl := hs.1
  unfold maxLen at hm
  clear h hs
  go_enter Tryz.func37, Tryz.ntmps37
  go_wp2_with fail
  refine (unhide HC).mono ?_
  rintro e w1 ⟨rfl, b1⟩
  have x0 := b1.cell (p := ⟨w.heap.size, 0, none⟩) (by simp)
  have hz1 := b1.size
  simp at x0 hz1
  have HP1 := hide ((unhide HP).on b1)
  have HS1 := hide ((unhide HS).on b1)
  have HB1 := hide (bA.trans (b1.mono (by simp)))
  clear HC HP HS b1 bA
  cases hf : formB l room set with
  | false =>
    have HE := hide (show sizeZ l room set = -1 by unfold sizeZ; rw [hf]; rfl)
    go_wp2_with fail
    go_ret
    exact ⟨by rw [unhide HE]; rfl, unhide HB1⟩
  | true =>
    have HF := hide hf
    have HE := hide (show sizeZ l room set = sumTo l set set.length by unfold sizeZ; rw [hf]; rfl)
    clear hf
    go_wp2_with fail
    go_loopw [5, 6] (fun m i wr => ∃ k : Nat, k ≤ set.length ∧ i = .int .i64 k ∧ m = .int .i64 (sumTo l set k) ∧ Drawn w1 wr) (fun _ i _ => set.length - (intOf i).toNat)
    case atStart => exact ⟨0, Nat.zero_le _, rfl, rfl, Drawn.refl _⟩
    case round =>
      rename World => wo
      obtain ⟨k, hk, rfl, rfl, hw⟩ := hrel
      by_cases hlt : k < set.length
      · rcases (unhide HS1).2 with hset | ⟨b, o, rfl, hbl, hset⟩
        · rw [hset] at hlt; simp at hlt
        have c0 := hset k hlt
        have hpl := form_place (unhide HF) hlt
        have hbd := sum_bound (unhide HF) k hk
        have hsz := form_size (unhide HF) (q := (set.getD k 0).toNat) (by omega)
        have hsum : sumTo l set (k + 1) = sumTo l set k + (l.getD (set.getD k 0).toNat dPack).size := rfl
        obtain ⟨q, hq⟩ : ∃ q : Nat, set.getD k 0 = q := ⟨(set.getD k 0).toNat, by omega⟩
        rw [hq] at c0 hpl hsz hsum
        simp only [Int.toNat_natCast] at hsz hsum
        rcases (unhide HP1).2 with hnil | ⟨pb, po, rfl, hpS, hpk⟩
        · rw [hnil] at hpl; simp at hpl; omega
        obtain ⟨a1, c1, a2, c2, a3, c3, hcells, _⟩ := hpk q (by omega)
        have n2 := hcells.size
        generalize (l.getD q dPack).size = s at n2 hsz hsum
        generalize sumTo l set k = t at hbd hsum ⊢
        have X0 := x0
        rw [← hw.cell] at c0 n2 X0
        have j1 : (k : Int) < (set.length : Int) := by omega
        have j2 : (q : Int) < (l.length : Int) := by omega
        have hws : IntKind.i64.wrap (t + s) = t + s := by rw [IntKind.wrap_i64]; omega
        have HSUM := hide hsum
        clear hcells hpk hset hq hsum
        go_wp2_with fail
        go_quiet (fail)
        go_wp2_with fail
        go_roundw
        case rel => exact ⟨k + 1, by omega, by go_num, by rw [unhide HSUM], hw.more _⟩
        case measure => simp [intOf]; omega
      · have hkk : k = set.length := by omega
        subst hkk
        have j1 : ¬ ((set.length : Nat) : Int) < (set.length : Int) := by omega
        go_wp2_with fail
        go_ret
        exact ⟨by rw [unhide HE]; rfl, (unhide HB1).trans (hw.below w.heap.size)⟩
end Go.Proofs.YthkhaemlcmkkjaxGreat
