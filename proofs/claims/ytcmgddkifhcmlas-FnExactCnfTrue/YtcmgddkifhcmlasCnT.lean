/- Whether clauses hold of what is so: of both sides. -/
import Derived.Test.YtcmgddkifhcmlasCnI
namespace Go.Proofs.Ytcmgddkifhcmlas
set_option linter.unusedVariables false
set_option linter.unusedSimpArgs false
open Go.RowKit Go.Deep Go.Sort

/-- What is so, in memory, read alone. -/
def BoolsAt (w : World) (a : Option Addr) (m : List Bool) : Prop := m.length ≤ 1048576 ∧ (m = [] ∨ ∃ b o, a = some ⟨b, o, none⟩ ∧ b < w.heap.size ∧ ∀ i, i < m.length → w.cell? ⟨b, o + i, none⟩ = some (.bool (m.getD i false)))
theorem BoolsAt.on {w w' : World} {a : Option Addr} {m : List Bool} (h : BoolsAt w a m) (hb : Below w.heap.size w w') : BoolsAt w' a m := by
  obtain ⟨hl, h⟩ := h
  exact ⟨hl, h.imp id fun ⟨b, o, ha, hlt, hc⟩ => ⟨b, o, ha, Nat.lt_of_lt_of_le hlt hb.size, fun i hi => (hb.cell (p := ⟨b, o + i, none⟩) hlt).trans (hc i hi)⟩⟩
/-- A literal is so. -/
def soB (m : List Bool) (x : Int) : Bool := if 0 < x then m.getD (x - 1).toNat false else !m.getD (-x - 1).toNat false
def holdsB (m : List Bool) (c : List Int) : Bool := c.any (soB m)
def cnfTrueB (vars : Int) (cs : List (List Int)) (m : List Bool) : Bool := cnfB vars cs && (decide ((m.length : Int) = vars) && cs.all (holdsB m))
theorem lit_parts {vars x : Int} (h : litB vars x = true) : x ≠ 0 ∧ -vars ≤ x ∧ x ≤ vars := by
  simp [litB, inB] at h
  exact ⟨h.1, h.2.1, h.2.2⟩
theorem any_take_succ {α : Type} {l : List α} {d : α} {f : α → Bool} {k : Nat} (h : k < l.length) : (l.take (k + 1)).any f = ((l.take k).any f || f (l.getD k d)) := by
  rw [List.take_add_one, List.any_append]
  simp [List.getD, h]
theorem any_here {α : Type} {l : List α} {d : α} {f : α → Bool} {k : Nat} (h : k < l.length) (hf : f (l.getD k d) = true) : l.any f = true := List.any_eq_true.2 ⟨_, getD_mem h, hf⟩
theorem any_of_take {α : Type} {l : List α} {f : α → Bool} {k : Nat} (h : ¬ k < l.length) : (l.take k).any f = l.any f := by rw [List.take_of_length_le (by omega)]

/-- Where a literal's variable lies. -/
theorem so_at {w : World} {a : Option Addr} {m : List Bool} {x : Int} (h : BoolsAt w a m) (hx : x ≠ 0) (h1 : -(m.length : Int) ≤ x) (h2 : x ≤ m.length) : ∃ b o n : Nat, a = some ⟨b, o, none⟩ ∧ n < m.length ∧ w.cell? ⟨b, o + n, none⟩ = some (.bool (m.getD n false)) ∧ (0 < x → IntKind.i64.wrap (x - 1) = (n : Int) ∧ soB m x = m.getD n false) ∧ (x < 0 → IntKind.i64.wrap (-x) = -x ∧ IntKind.i64.wrap (-x - 1) = (n : Int) ∧ soB m x = !m.getD n false) := by
  obtain ⟨hm, h⟩ := h
  rcases h with rfl | ⟨b, o, rfl, hb, hc⟩
  · simp at h1 h2; omega
  by_cases hp : 0 < x
  · refine ⟨b, o, (x - 1).toNat, rfl, by omega, hc _ (by omega), fun _ => ⟨by rw [IntKind.wrap_i64]; omega, by simp [soB, hp]⟩, fun hn => by omega⟩
  · refine ⟨b, o, (-x - 1).toNat, rfl, by omega, hc _ (by omega), fun h => absurd h hp, fun hn => ⟨by rw [IntKind.wrap_i64]; omega, by rw [IntKind.wrap_i64]; omega, by simp [soB, hp]⟩⟩

set_option maxHeartbeats 2000000 in
theorem holds_any (a : Option Addr) (l : List Int) (cap : Nat) (ma : Option Addr) (m : List Bool) (mc : Nat) (w : World) (h : SetAt w a l) (hm : BoolsAt w ma m) (hl : ∀ x ∈ l, x ≠ 0 ∧ -(m.length : Int) ≤ x ∧ x ≤ m.length) :
    Calls Try.prog 62 #[.slice a l.length cap, .slice ma m.length mc] w fun e w' => e = .returned (.bool (holdsB m l)) ∧ w' = w := by
  obtain ⟨hll, h⟩ := h
  have HM := hide hm
  have HL := hide hl
  have hml := hm.1
  clear hm hl
  go_enter Try.func62, Try.ntmps62
  go_wp2
  go_loopw [9] (fun i wr => ∃ k : Nat, k ≤ l.length ∧ i = .int .i64 k ∧ Hid ((l.take k).any (soB m) = false) ∧ wr = w) (fun i _ => l.length - (intOf i).toNat)
  case atStart => exact ⟨0, Nat.zero_le _, rfl, rfl, rfl⟩
  case round =>
    rename World => wo
    obtain ⟨k, hk, rfl, hn, rfl⟩ := hrel
    by_cases hlt : k < l.length
    · have j1 : (k : Int) < (l.length : Int) := by omega
      rcases h with h | ⟨b, o, rfl, hSb, h⟩
      · subst h; simp at hlt
      have c0 := h k hlt
      obtain ⟨q1, q2, q3⟩ := unhide HL _ (getD_mem (d := 0) hlt)
      have H := hide (@any_take_succ Int l 0 (soB m) k hlt)
      have HN := hide (@any_here Int l 0 (soB m) k hlt)
      clear h
      generalize l.getD k 0 = x at c0 q1 q2 q3 H HN
      obtain ⟨mb, mo, n, rfl, hnl, d0, hp, hq⟩ := so_at (unhide HM) q1 q2 q3
      have j2 : (n : Int) < (m.length : Int) := by omega
      by_cases hpos : 0 < x
      · obtain ⟨e1, e2⟩ := hp hpos
        have hng : ¬ x < 0 := by omega
        cases hb : m.getD n false with
        | true =>
          rw [hb] at d0 e2
          have HF := hide (unhide HN e2)
          clear H HN hp hq e2
          go_wp2_with fail
          go_ret
          exact ⟨ret_bool (unhide HF).symm, rfl⟩
        | false =>
          rw [hb] at d0 e2
          have HA : Hid ((l.take (k + 1)).any (soB m) = false) := (unhide H).trans (by rw [hn.out, e2]; rfl)
          clear H HN hp hq e2
          go_wp2_with fail
          go_roundw
          case rel => exact ⟨k + 1, by omega, by go_num, unhide HA, by first | rfl | trivial⟩
          case measure => simp [intOf]; omega
      · have hng : x < 0 := by omega
        obtain ⟨e0, e1, e2⟩ := hq hng
        cases hb : m.getD n false with
        | false =>
          rw [hb] at d0 e2
          have HF := hide (unhide HN e2)
          clear H HN hp hq e2
          go_wp2_with fail
          go_ret
          exact ⟨ret_bool (unhide HF).symm, rfl⟩
        | true =>
          rw [hb] at d0 e2
          have HA : Hid ((l.take (k + 1)).any (soB m) = false) := (unhide H).trans (by rw [hn.out, e2]; rfl)
          clear H HN hp hq e2
          go_wp2_with fail
          go_roundw
          case rel => exact ⟨k + 1, by omega, by go_num, unhide HA, by first | rfl | trivial⟩
          case measure => simp [intOf]; omega
    · have j1 : ¬ (k : Int) < (l.length : Int) := by omega
      have HF := hide ((any_of_take (f := soB m) hlt).symm.trans hn.out)
      go_wp2_with fail
      go_ret
      exact ⟨ret_bool (unhide HF).symm, rfl⟩

theorem cls_lits {vars : Int} {cs : List (List Int)} {k : Nat} (h : cnfB vars cs = true) (hk : k < cs.length) : ∀ x ∈ cs.getD k [], x ≠ 0 ∧ -vars ≤ x ∧ x ≤ vars := by
  simp only [cnfB, Bool.and_eq_true, List.all_eq_true] at h
  have := h.2.2 _ (getD_mem (d := []) hk)
  simp only [litsB, Bool.and_eq_true, List.all_eq_true] at this
  exact fun x hx => lit_parts (this.2 x hx)

set_option maxHeartbeats 2000000 in
theorem implCnfTrue_any (vars : Int) (a : Option Addr) (cs : List (List Int)) (cap : Nat) (ma : Option Addr) (m : List Bool) (mc : Nat) (w : World) (h : ClsAt w a cs) (hm : BoolsAt w ma m) :
    Calls Try.prog 24 #[.agg #[.int .i64 vars, .slice a cs.length cap], .slice ma m.length mc] w fun e w' => e = .returned (.bool (cnfTrueB vars cs m)) ∧ Below w.heap.size w w' := by
  have hml := hm.1
  have hcl := h.1
  have HV := hide h
  have HM := hide hm
  have HO := hide (fun W (hW : Below w.heap.size w W) => implCnfOk_any vars a cs cap W (h.on hW))
  clear h hm
  cases hok : cnfB vars cs with
  | false =>
    have e : cnfTrueB vars cs m = false := by simp [cnfTrueB, hok]
    have HE := hide e
    clear e
    go_enter Try.func24, Try.ntmps24
    go_wp2_with fail
    refine (unhide HO _ ((Below.refl _ _).alloc (Nat.le_refl _) _)).mono ?_
    rintro e w1 ⟨rfl, hb⟩
    have HB := hide (((Below.refl w.heap.size w).alloc (Nat.le_refl _) _).trans (hb.mono (by simp)))
    clear hb
    rw [hok]
    go_wp2_with fail
    go_ret
    exact ⟨ret_bool (unhide HE).symm, unhide HB⟩
  | true =>
    by_cases hl : (m.length : Int) = vars
    · have HOK := hide hok
      have HVL := hide hl
      go_enter Try.func24, Try.ntmps24
      go_wp2_with fail
      refine (unhide HO _ ((Below.refl _ _).alloc (Nat.le_refl _) _)).mono ?_
      rintro e w1 ⟨rfl, hb⟩
      have x0 := hb.cell (p := ⟨w.heap.size, 0, none⟩) (by simp)
      have x1 := hb.cell (p := ⟨w.heap.size, 1, none⟩) (by simp)
      simp at x0 x1
      have HB := hide (((Below.refl w.heap.size w).alloc (Nat.le_refl _) _).trans (hb.mono (by simp)))
      clear hb
      rw [hok]
      obtain ⟨hcm, hc⟩ := (unhide HV).on (unhide HB)
      have HMM := hide ((unhide HM).on (unhide HB))
      clear hok
      go_wp2_with fail
      go_loopw [20] (fun i wr => ∃ k : Nat, k ≤ cs.length ∧ i = .int .i64 k ∧ Hid ((cs.take k).all (holdsB m) = true) ∧ wr = w1) (fun i _ => cs.length - (intOf i).toNat)
      case atStart => exact ⟨0, Nat.zero_le _, rfl, rfl, rfl⟩
      case round =>
        rename World => wo
        obtain ⟨k, hk, rfl, hn, rfl⟩ := hrel
        by_cases hlt : k < cs.length
        · have j1 : (k : Int) < (cs.length : Int) := by omega
          rcases hc with hc | ⟨b, o, rfl, hSb, hc⟩
          · subst hc; simp at hlt
          obtain ⟨a', c', c0, hq⟩ := hc k hlt
          clear hc
          have hls := cls_lits (unhide HOK) hlt
          have H := hide (@all_take_succ (List Int) cs [] (holdsB m) k hlt)
          have HN := hide (@all_not_take (List Int) cs [] (holdsB m) k hlt)
          generalize cs.getD k [] = q at c0 H HN hq hls
          have HC := hide (holds_any a' q c' ma m mc wo hq (unhide HMM) (by rw [unhide HVL]; exact hls))
          clear hq hls
          go_wp2_with fail
          refine (unhide HC).mono ?_
          rintro e w2 ⟨rfl, hw2⟩
          cases hb : holdsB m q with
          | false =>
            have HF := hide (unhide HN hb)
            clear H HN HC
            rw [hw2]
            go_wp2_with fail
            go_ret
            exact ⟨ret_bool (by simp [cnfTrueB, unhide HF]), unhide HB⟩
          | true =>
            have HA : Hid ((cs.take (k + 1)).all (holdsB m) = true) := (unhide H).trans (by rw [hn.out, hb]; rfl)
            clear H HN HC
            rw [hw2]
            go_wp2_with fail
            go_roundw
            case rel => exact ⟨k + 1, by omega, by go_num, unhide HA, by first | rfl | trivial⟩
            case measure => simp [intOf]; omega
        · have j1 : ¬ (k : Int) < (cs.length : Int) := by omega
          have HF := hide (all_of_take hlt hn.out)
          go_wp2_with fail
          go_ret
          exact ⟨ret_bool (by simp [cnfTrueB, unhide HF, unhide HOK, unhide HVL]), unhide HB⟩
    · have e : cnfTrueB vars cs m = false := by simp [cnfTrueB, hl]
      have HE := hide e
      have hl' : ((m.length : Int) != vars) = true := by simpa using hl
      clear e
      go_enter Try.func24, Try.ntmps24
      go_wp2_with fail
      refine (unhide HO _ ((Below.refl _ _).alloc (Nat.le_refl _) _)).mono ?_
      rintro e w1 ⟨rfl, hb⟩
      have x0 := hb.cell (p := ⟨w.heap.size, 0, none⟩) (by simp)
      simp at x0
      have HB := hide (((Below.refl w.heap.size w).alloc (Nat.le_refl _) _).trans (hb.mono (by simp)))
      clear hb
      rw [hok]
      go_wp2_with fail
      go_ret
      exact ⟨ret_bool (unhide HE).symm, unhide HB⟩
end Go.Proofs.Ytcmgddkifhcmlas
