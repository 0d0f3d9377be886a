/- The specification's StateSize. -/
import Derived.Test.YtecipjdbfmldlabStA
namespace Go.Proofs.Ytecipjdbfmldlab
set_option linter.unusedVariables false
set_option linter.unusedSimpArgs false
open Go.RowKit Go.Deep

def sumTo (l : List PackD) (set : List Int) : Nat → Int
  | 0 => 0
  | k + 1 => sumTo l set k + (l.getD (set.getD k 0).toNat dPack).size
def sizeZ (l : List PackD) (room : Int) (set : List Int) : Int := if formB l room set then sumTo l set set.length else -1
theorem form_place {l : List PackD} {room : Int} {set : List Int} (h : formB l room set = true) {k : Nat} (hk : k < set.length) : 0 ≤ set.getD k 0 ∧ set.getD k 0 < l.length := by
  simp only [formB, Bool.and_eq_true] at h
  have := List.all_eq_true.1 h.1 k (List.mem_range.2 hk)
  simp only [placeB, inB, Bool.and_eq_true, decide_eq_true_eq] at this
  omega
theorem form_size {l : List PackD} {room : Int} {set : List Int} (h : formB l room set = true) {q : Nat} (hq : q < l.length) : 0 ≤ (l.getD q dPack).size ∧ (l.getD q dPack).size ≤ 999 := by
  simp only [formB, repoB, Bool.and_eq_true] at h
  have := List.all_eq_true.1 h.2.1.2 _ (getD_mem (d := dPack) hq)
  simp only [packB, inB, Bool.and_eq_true, decide_eq_true_eq] at this
  exact this.1.1.1.1.2
theorem sum_bound {l : List PackD} {room : Int} {set : List Int} (h : formB l room set = true) : ∀ k, k ≤ set.length → 0 ≤ sumTo l set k ∧ sumTo l set k ≤ 999 * k
  | 0, _ => by simp [sumTo]
  | k + 1, hk => by
    have ih := sum_bound h k (by omega)
    have hp := form_place h (show k < set.length by omega)
    have hs := form_size h (q := (set.getD k 0).toNat) (by omega)
    simp only [sumTo]
    omega

set_option maxHeartbeats 4000000 in
theorem specStateSize_any (a : Option Addr) (l : List PackD) (cap : Nat) (room : Int) (sa : Option Addr) (set : List Int) (sc : Nat) (w : World) (h : PacksAt (Old w) w a l) (hs : SetAt w sa set) :
    Calls Try.prog 32 #[.agg #[.slice a l.length cap, .int .i64 room], .slice sa set.length sc] w fun e w' => e = .returned (.int .i64 (sizeZ l room set)) ∧ Below w.heap.size w w' := by
  have bA := (Below.refl w.heap.size w).alloc (Nat.le_refl _) (.cells #[.slice a l.length cap, .int .i64 room] 25)
  have HC := hide (l2Form_any a l cap room sa set sc _ (h.on bA) (hs.on bA))
  have HP := hide (h.on bA)
  have HS := hide (hs.on bA)
  have hm := h.1
  have hsl := hs.1
  unfold maxLen at hm
  clear h hs
  go_enter Try.func32, Try.ntmps32
  go_wp2_with fail
  refine (unhide HC).mono ?_
  rintro e w1 ⟨rfl, b1⟩
  have x0 := b1.cell (p := ⟨w.heap.size, 0, none⟩) (by simp)
  have hz1 := b1.size
  simp at x0 hz1
  have HP1 := hide ((unhide HP).on b1)
  have HS1 := hide ((unhide HS).on b1)
  have HB1 := hide (bA.trans (b1.mono (by simp)))
  clear HC HP HS b1 bA
  cases hf : formB l room set with
  | false =>
    have HE := hide (show sizeZ l room set = -1 by unfold sizeZ; rw [hf]; rfl)
    go_wp2_with fail
    go_ret
    exact ⟨by rw [unhide HE]; rfl, unhide HB1⟩
  | true =>
    have HF := hide hf
    have HE := hide (show sizeZ l room set = sumTo l set set.length by unfold sizeZ; rw [hf]; rfl)
    clear hf
    go_wp2_with fail
    go_loopw [5, 6] (fun m i wr => ∃ k : Nat, k ≤ set.length ∧ i = .int .i64 k ∧ m = .int .i64 (sumTo l set k) ∧ Drawn w1 wr) (fun _ i _ => set.length - (intOf i).toNat)
    case atStart => exact ⟨0, Nat.zero_le _, rfl, rfl, Drawn.refl _⟩
    case round =>
      rename World => wo
      obtain ⟨k, hk, rfl, rfl, hw⟩ := hrel
      by_cases hlt : k < set.length
      · rcases (unhide HS1).2 with hset | ⟨b, o, rfl, hbl, hset⟩
        · rw [hset] at hlt; simp at hlt
        have c0 := hset k hlt
        have hpl := form_place (unhide HF) hlt
        have hbd := sum_bound (unhide HF) k hk
        have hsz := form_size (unhide HF) (q := (set.getD k 0).toNat) (by omega)
        have hsum : sumTo l set (k + 1) = sumTo l set k + (l.getD (set.getD k 0).toNat dPack).size := rfl
        obtain ⟨q, hq⟩ : ∃ q : Nat, set.getD k 0 = q := ⟨(set.getD k 0).toNat, by omega⟩
        rw [hq] at c0 hpl hsz hsum
        simp only [Int.toNat_natCast] at hsz hsum
        rcases (unhide HP1).2 with hnil | ⟨pb, po, rfl, hpS, hpk⟩
        · rw [hnil] at hpl; simp at hpl; omega
        obtain ⟨a1, c1, a2, c2, a3, c3, hcells, _⟩ := hpk q (by omega)
        have n2 := hcells.size
        generalize (l.getD q dPack).size = s at n2 hsz hsum
        generalize sumTo l set k = t at hbd hsum ⊢
        have X0 := x0
        rw [← hw.cell] at c0 n2 X0
        have j1 : (k : Int) < (set.length : Int) := by omega
        have j2 : (q : Int) < (l.length : Int) := by omega
        have hws : IntKind.i64.wrap (t + s) = t + s := by rw [IntKind.wrap_i64]; omega
        have HSUM := hide hsum
        clear hcells hpk hset hq hsum
        go_wp2_with fail
        go_quiet (fail)
        go_wp2_with fail
        go_roundw
        case rel => exact ⟨k + 1, by omega, by go_num, by rw [unhide HSUM], hw.more _⟩
        case measure => simp [intOf]; omega
      · have hkk : k = set.length := by omega
        subst hkk
        have j1 : ¬ ((set.length : Nat) : Int) < (set.length : Int) := by omega
        go_wp2_with fail
        go_ret
        exact ⟨by rw [unhide HE]; rfl, (unhide HB1).trans (hw.below w.heap.size)⟩
end Go.Proofs.Ytecipjdbfmldlab
