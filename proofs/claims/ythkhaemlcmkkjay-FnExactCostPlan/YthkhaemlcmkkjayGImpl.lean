/- The program's own functions on names and requests. The program's own searches, and what asks whether all of a list are ok. The program's own packOk, packsAscend and RepoOk. The program's own packsAscend and RepoOk. -/
import Derived.Test.YthkhaemlcmkkjayGSpec
import Derived.Lib.QuietBelow
namespace Go.Proofs.Ythkhaemlcmkkjay
set_option linter.unusedVariables false
set_option linter.unusedSimpArgs false
open Go.RowKit

set_option maxHeartbeats 400000 in
theorem within_any (n low high : Int) (w : World) :
    Calls Try.prog 46 #[.int .i64 n, .int .i64 low, .int .i64 high] w fun e w' => e = .returned (.bool (inB n low high)) ∧ w' = w := by
  by_cases h1 : low ≤ n
  · by_cases h2 : n ≤ high
    · go_enter Try.func46, Try.ntmps46
      go_wp2
      go_ret
      exact ⟨by simp [inB, h1, h2], rfl⟩
    · go_enter Try.func46, Try.ntmps46
      go_wp2
      go_ret
      exact ⟨by simp [inB, h1, h2], rfl⟩
  · have e : inB n low high = false := by simp [inB, h1]
    go_enter Try.func46, Try.ntmps46
    go_wp2
    go_ret
    exact ⟨by first | rfl | (rw [e]; rfl), rfl⟩

theorem below_iter (w : World) (s : ByteArray) (pos : Nat) : Below w.heap.size w (w.iter s pos) := (Below.refl _ _).alloc (Nat.le_refl _) _

set_option maxHeartbeats 1000000 in
set_option maxRecDepth 100000 in
theorem nameOk_any (s : ByteArray) (w : World) (hs : s.size ≤ maxLen) :
    Calls Try.prog 82 #[.string s] w fun e w' => e = .returned (.bool (nameB s)) ∧ Below w.heap.size w w' := by
  unfold maxLen at hs
  cases hin : inB s.size 1 6 with
  | false =>
    have e : nameB s = false := by simp [nameB, hin]
    go_enter Try.func82, Try.ntmps82
    go_wp2_with (go_at_call 46; refine (within_any _ _ _ _).mono ?_; rintro e w' ⟨rfl, hww⟩; obtain rfl := hww.symm)
    go_ret
    exact ⟨by first | rfl | (rw [e]; rfl), Below.refl _ _⟩
  | true =>
    go_enter Try.func82, Try.ntmps82
    go_wp2_with (go_at_call 46; refine (within_any _ _ _ _).mono ?_; rintro e w' ⟨rfl, hww⟩; obtain rfl := hww.symm)
    go_loopw [4] (fun _ wr => ∃ k : Nat, k ≤ s.size ∧ wr = w.iter s k ∧ Hid (lettersB (s.data.toList.take k) = true)) (fun _ wr => s.size - wr.iterPos w.heap.size)
    case atStart => exact ⟨0, Nat.zero_le _, rfl, rfl⟩
    case round =>
      obtain ⟨k, hk, rfl, hl⟩ := hrel
      by_cases hlt : k < s.size
      · by_cases hasc : (s[k].toNat) < 128
        · have hnx : ∀ ty, (Instr.next (.pointer (some ⟨w.heap.size, 0, none⟩)) true ty).run Try.prog (w.iter s k) = _ := fun ty => run_next_ascii w s k ty hlt hasc
          by_cases ha : (s[k].toNat : Int) < 97
          · have e : nameB s = false := by rw [nameB, letters_not s k hlt (by simp only [letterB]; simp; omega), Bool.and_false]
            go_wp2
            go_ret
            exact ⟨by first | rfl | (rw [e]; rfl), below_iter _ _ _⟩
          · by_cases hb : (122 : Int) < (s[k].toNat : Int)
            · have e : nameB s = false := by rw [nameB, letters_not s k hlt (by simp only [letterB]; simp; omega), Bool.and_false]
              go_wp2
              go_ret
              exact ⟨by first | rfl | (rw [e]; rfl), below_iter _ _ _⟩
            · go_wp2
              go_roundw
              case rel => exact ⟨k + 1, by omega, rfl, by show _ = true; rw [letters_take s k hlt, hl.out]; simp only [letterB]; simp; omega⟩
              case measure => simp; omega
        · have hnx : ∀ ty, (Instr.next (.pointer (some ⟨w.heap.size, 0, none⟩)) true ty).run Try.prog (w.iter s k) = _ := fun ty => run_next_any w s k ty hlt
          have hhi := (decode_high s k hlt (by omega)).1
          have e : nameB s = false := by rw [nameB, letters_not s k hlt (by simp only [letterB]; simp; omega), Bool.and_false]
          generalize (Utf8.decode s k).1 = r at hnx hhi
          generalize k + (Utf8.decode s k).2 = k' at hnx
          have hr1 : ¬ (r : Int) < 97 := by omega
          have hr2 : (122 : Int) < (r : Int) := by omega
          go_wp2
          go_ret
          exact ⟨by first | rfl | (rw [e]; rfl), below_iter _ _ _⟩
      · have hnx : ∀ ty, (Instr.next (.pointer (some ⟨w.heap.size, 0, none⟩)) true ty).run Try.prog (w.iter s k) = _ := fun ty => run_next_end w s k ty hlt
        go_wp2
        go_ret
        refine ⟨ret_bool ?_, below_iter _ _ _⟩
        have hl' := hl.out
        rw [List.take_of_length_le (by simp; omega)] at hl'
        rw [nameB, hl', hin]; rfl

set_option maxHeartbeats 1000000 in
theorem reqOk_any (q : ReqD) (w : World) (hs : q.name.size ≤ maxLen) :
    Calls Try.prog 95 #[.agg #[.string q.name, .int .i64 q.low, .int .i64 q.high]] w fun e w' => e = .returned (.bool (reqB q)) ∧ Below w.heap.size w w' := by
  have H23 := hide (fun W => nameOk_any q.name W hs)
  clear hs
  cases hv0 : nameB q.name with
  | false =>
    have e : reqB q = false := by simp [reqB, hv0]
    go_enter Try.func95, Try.ntmps95
    go_wp2_with fail
    refine (unhide H23 _).mono ?_
    rintro e w1 ⟨rfl, hb⟩
    go_wp2_with fail
    go_ret
    exact ⟨by first | rfl | (rw [e]; rfl), ((Below.refl _ _).alloc (Nat.le_refl _) _).trans (hb.mono (by simp))⟩
  | true =>
    go_enter Try.func95, Try.ntmps95
    go_wp2_with fail
    refine (unhide H23 _).mono ?_
    rintro e w1 ⟨rfl, hb⟩
    have hz := hb.size
    have c1 := hb.cell (p := ⟨w.heap.size, 1, none⟩) (by simp)
    have c2 := hb.cell (p := ⟨w.heap.size, 2, none⟩) (by simp)
    simp at c1 c2 hz
    have HB := hide (((Below.refl w.heap.size w).alloc (Nat.le_refl _) _).trans (hb.mono (by simp)))
    clear hb
    cases hv1 : inB q.high 0 99 with
    | false =>
      have e : reqB q = false := by simp [reqB, hv1]
      go_wp2_with (go_at_call 46; refine (within_any _ _ _ _).mono ?_; rintro e w' ⟨rfl, hww⟩; obtain rfl := hww.symm)
      go_ret
      exact ⟨by first | rfl | (rw [e]; rfl), unhide HB⟩
    | true =>
      go_wp2_with (go_at_call 46; refine (within_any _ _ _ _).mono ?_; rintro e w' ⟨rfl, hww⟩; obtain rfl := hww.symm)
      go_ret
      exact ⟨ret_bool (by simp [reqB, hv0, hv1]), unhide HB⟩
end Go.Proofs.Ythkhaemlcmkkjay

namespace Go.Proofs.Ythkhaemlcmkkjay
set_option linter.unusedVariables false
set_option linter.unusedSimpArgs false
open Go.RowKit

theorem all_of_take {α : Type} {l : List α} {f : α → Bool} {k : Nat} (h : ¬ k < l.length) (hl : (l.take k).all f = true) : l.all f = true := by
  rwa [List.take_of_length_le (by omega)] at hl
theorem all_not_take {α : Type} {l : List α} {d : α} {f : α → Bool} {k : Nat} (h : k < l.length) (hf : f (l.getD k d) = false) : l.all f = false := by
  rw [← List.take_append_drop (k + 1) l, List.all_append, all_take_succ (d := d) h, hf]; simp


set_option maxHeartbeats 1000000 in
theorem litReq_any (q : ReqD) (g : Nat) (w : World) (hs : q.name.size ≤ maxLen)
    (hg : w.cell? ⟨g, 0, none⟩ = some (.func (.func 95) #[] #[])) :
    Calls Try.prog 100 #[.agg #[.string q.name, .int .i64 q.low, .int .i64 q.high], .pointer (some ⟨g, 0, none⟩)] w fun e w' => e = .returned (.bool (!reqB q)) ∧ Below w.heap.size w w' := by
  have hgl := block_lt_of_cell hg
  have hg' : ∀ o, (w.alloc o).cell? ⟨g, 0, none⟩ = some (.func (.func 95) #[] #[]) := fun o => (((Below.refl w.heap.size w).alloc (Nat.le_refl _) o).cell hgl).trans hg
  go_enter Try.func100, Try.ntmps100
  go_wp2_with fail
  refine (reqOk_any q _ hs).mono ?_
  rintro e w1 ⟨rfl, hb⟩
  go_wp2_with fail
  go_ret
  exact ⟨rfl, ((Below.refl _ _).alloc (Nat.le_refl _) _).trans (hb.mono (by simp))⟩

set_option maxHeartbeats 1000000 in
theorem searchReq_any (a : Option Addr) (l : List ReqD) (cap g : Nat) (w : World) (h : ReqsAt (Old w) w a l)
    (hg : w.cell? ⟨g, 0, none⟩ = some (.func (.func 95) #[] #[])) :
    Calls Try.prog 99 #[.slice a l.length cap, .int .i64 0, .func (.func 100) #[] #[.pointer (some ⟨g, 0, none⟩)]] w
      fun e w' => (∃ k : Nat, e = .returned (.int .i64 k) ∧ k ≤ l.length ∧ ((k == l.length) = l.all reqB)) ∧ Below w.heap.size w w' := by
  obtain ⟨hm, h⟩ := h
  unfold maxLen at hm
  go_enter Try.func99, Try.ntmps99
  go_wp2
  go_loopw [1] (fun i wr => ∃ k : Nat, k ≤ l.length ∧ i = .int .i64 k ∧ Hid ((l.take k).all reqB = true) ∧ Below w.heap.size w wr) (fun i _ => l.length - (intOf i).toNat)
  case atStart => exact ⟨0, Nat.zero_le _, rfl, rfl, Below.refl _ _⟩
  case round =>
    rename World => wo
    obtain ⟨k, hk, rfl, hl, hw⟩ := hrel
    by_cases hlt : k < l.length
    · rcases h with h | ⟨b, o, rfl, hSb, h⟩
      · subst h; simp at hlt
      · have hq := h k hlt
        clear h
        have H := hide (@all_take_succ (ReqD) l dReq reqB k hlt)
        have HN := hide (@all_not_take (ReqD) l dReq reqB k hlt)
        generalize l.getD k dReq = q at hq H HN
        obtain ⟨c0, c1, c2, hn⟩ := hq
        rw [← hw.cell (p := ⟨b, _, none⟩) hSb] at c0 c1 c2
        have hg' := (hw.cell (p := ⟨g, 0, none⟩) (block_lt_of_cell hg)).trans hg
        have HW := hide hw
        clear hw
        go_wp2_with fail
        refine (litReq_any q g _ hn hg').mono ?_
        rintro e w1 ⟨rfl, hb⟩
        have hbe := (unhide HW).trans (hb.mono (unhide HW).size)
        have HBE := hide hbe
        clear hb hbe
        cases hv : reqB q with
        | true =>
          go_wp2_with fail
          go_roundw
          case rel => exact ⟨k + 1, by omega, by go_num, by show _ = true; rw [unhide H, hl.out, hv]; rfl, unhide HBE⟩
          case measure => simp [intOf]; omega
        | false =>
          have e1 := unhide HN hv
          have HE := hide e1
          clear e1
          go_wp2_with fail
          go_ret
          refine ⟨⟨k, rfl, by omega, ?_⟩, unhide HBE⟩
          rw [unhide HE, beq_eq_false_iff_ne]; omega
    · go_wp2_with fail
      go_ret
      refine ⟨⟨k, rfl, by omega, ?_⟩, hw⟩
      rw [all_of_take hlt hl.out, beq_iff_eq]; omega

set_option maxHeartbeats 1000000 in
theorem allReq_any (a : Option Addr) (l : List ReqD) (cap : Nat) (w : World) (h : ReqsAt (Old w) w a l) :
    Calls Try.prog 94 #[.slice a l.length cap, .func (.func 95) #[] #[]] w fun e w' => e = .returned (.bool (l.all reqB)) ∧ Below w.heap.size w w' := by
  have H := hide (fun (o : Obj) g hg => searchReq_any a l cap g (w.alloc o) (h.on ((Below.refl _ _).alloc (Nat.le_refl _) _)) hg)
  clear h
  go_enter Try.func94, Try.ntmps94
  go_wp2_with fail
  refine (unhide H _ _ ?_).mono ?_
  · simp
  · rintro e w1 ⟨⟨k, rfl, hk, he⟩, hb⟩
    have HE := hide he
    clear he
    go_wp2_with fail
    go_ret
    refine ⟨ret_bool ?_, ((Below.refl _ _).alloc (Nat.le_refl _) _).trans (hb.mono (by simp))⟩
    rw [← unhide HE, Bool.eq_iff_iff]; simp; omega

set_option maxHeartbeats 1000000 in
theorem reqsOk_any (a : Option Addr) (l : List ReqD) (cap : Nat) (w : World) (h : ReqsAt (Old w) w a l) :
    Calls Try.prog 85 #[.slice a l.length cap] w fun e w' => e = .returned (.bool (reqsB l)) ∧ Below w.heap.size w w' := by
  have hm := h.1
  unfold maxLen at hm
  have H := hide (allReq_any a l cap w h)
  clear h
  by_cases h4 : (l.length : Int) ≤ 4
  · have h4' : Hid (l.length ≤ 4) := by show _ ≤ _; omega
    go_enter Try.func85, Try.ntmps85
    go_wp2_with fail
    refine (unhide H).mono ?_
    rintro e w1 ⟨rfl, hb⟩
    go_wp2_with fail
    go_ret
    exact ⟨ret_bool (by simp [reqsB, h4'.out]), hb⟩
  · have e : reqsB l = false := by simp only [reqsB]; simp; omega
    go_enter Try.func85, Try.ntmps85
    go_wp2_with fail
    go_ret
    exact ⟨by first | rfl | (rw [e]; rfl), Below.refl _ _⟩

set_option maxHeartbeats 1000000 in
theorem rowOk_any (a : Option Addr) (l : List ReqD) (cap : Nat) (w : World) (h : ReqsAt (Old w) w a l) :
    Calls Try.prog 84 #[.slice a l.length cap] w fun e w' => e = .returned (.bool (rowB l)) ∧ Below w.heap.size w w' := by
  have hm := h.1
  unfold maxLen at hm
  have H := hide (reqsOk_any a l cap w h)
  clear h
  by_cases h0 : 0 < l.length
  · have h0' : Hid (0 < l.length) := h0
    go_enter Try.func84, Try.ntmps84
    go_wp2_with fail
    refine (unhide H).mono ?_
    rintro e w1 ⟨rfl, hb⟩
    go_wp2_with fail
    go_ret
    exact ⟨ret_bool (by simp [rowB, h0'.out]), hb⟩
  · have e : rowB l = false := by simp only [rowB]; simp; omega
    go_enter Try.func84, Try.ntmps84
    go_wp2_with fail
    go_ret
    exact ⟨by first | rfl | (rw [e]; rfl), Below.refl _ _⟩

set_option maxHeartbeats 1000000 in
theorem litRow_any (a : Option Addr) (l : List ReqD) (cap g : Nat) (w : World) (h : ReqsAt (Old w) w a l)
    (hg : w.cell? ⟨g, 0, none⟩ = some (.func (.func 84) #[] #[])) :
    Calls Try.prog 93 #[.slice a l.length cap, .pointer (some ⟨g, 0, none⟩)] w fun e w' => e = .returned (.bool (!rowB l)) ∧ Below w.heap.size w w' := by
  have H := hide (rowOk_any a l cap w h)
  clear h
  go_enter Try.func93, Try.ntmps93
  go_wp2_with fail
  refine (unhide H).mono ?_
  rintro e w1 ⟨rfl, hb⟩
  go_wp2_with fail
  go_ret
  exact ⟨rfl, hb⟩

set_option maxHeartbeats 1000000 in
theorem searchRow_any (a : Option Addr) (l : List (List ReqD)) (cap g : Nat) (w : World) (h : RowsAt (Old w) w a l)
    (hg : w.cell? ⟨g, 0, none⟩ = some (.func (.func 84) #[] #[])) :
    Calls Try.prog 92 #[.slice a l.length cap, .int .i64 0, .func (.func 93) #[] #[.pointer (some ⟨g, 0, none⟩)]] w
      fun e w' => (∃ k : Nat, e = .returned (.int .i64 k) ∧ k ≤ l.length ∧ ((k == l.length) = l.all rowB)) ∧ Below w.heap.size w w' := by
  obtain ⟨hm, h⟩ := h
  unfold maxLen at hm
  go_enter Try.func92, Try.ntmps92
  go_wp2
  go_loopw [1] (fun i wr => ∃ k : Nat, k ≤ l.length ∧ i = .int .i64 k ∧ Hid ((l.take k).all rowB = true) ∧ Below w.heap.size w wr) (fun i _ => l.length - (intOf i).toNat)
  case atStart => exact ⟨0, Nat.zero_le _, rfl, rfl, Below.refl _ _⟩
  case round =>
    rename World => wo
    obtain ⟨k, hk, rfl, hl, hw⟩ := hrel
    by_cases hlt : k < l.length
    · rcases h with h | ⟨b, o, rfl, hSb, h⟩
      · subst h; simp at hlt
      · have hq := h k hlt
        clear h
        have H := hide (@all_take_succ ((List ReqD)) l [] rowB k hlt)
        have HN := hide (@all_not_take ((List ReqD)) l [] rowB k hlt)
        generalize l.getD k [] = q at hq H HN
        obtain ⟨a', c', hc, hrow⟩ := hq
        rw [← hw.cell (p := ⟨b, _, none⟩) hSb] at hc
        have hrow' := hide ((hrow.stay (Old.of hw)).wider (Old.grow hw))
        clear hrow
        have hg' := (hw.cell (p := ⟨g, 0, none⟩) (block_lt_of_cell hg)).trans hg
        have HW := hide hw
        clear hw
        go_wp2_with fail
        refine (litRow_any a' q c' g _ (unhide hrow') hg').mono ?_
        rintro e w1 ⟨rfl, hb⟩
        have hbe := (unhide HW).trans (hb.mono (unhide HW).size)
        have HBE := hide hbe
        clear hb hbe
        cases hv : rowB q with
        | true =>
          go_wp2_with fail
          go_roundw
          case rel => exact ⟨k + 1, by omega, by go_num, by show _ = true; rw [unhide H, hl.out, hv]; rfl, unhide HBE⟩
          case measure => simp [intOf]; omega
        | false =>
          have e1 := unhide HN hv
          have HE := hide e1
          clear e1
          go_wp2_with fail
          go_ret
          refine ⟨⟨k, rfl, by omega, ?_⟩, unhide HBE⟩
          rw [unhide HE, beq_eq_false_iff_ne]; omega
    · go_wp2_with fail
      go_ret
      refine ⟨⟨k, rfl, by omega, ?_⟩, hw⟩
      rw [all_of_take hlt hl.out, beq_iff_eq]; omega

set_option maxHeartbeats 1000000 in
theorem allRow_any (a : Option Addr) (l : List (List ReqD)) (cap : Nat) (w : World) (h : RowsAt (Old w) w a l) :
    Calls Try.prog 83 #[.slice a l.length cap, .func (.func 84) #[] #[]] w fun e w' => e = .returned (.bool (l.all rowB)) ∧ Below w.heap.size w w' := by
  have H := hide (fun (o : Obj) g hg => searchRow_any a l cap g (w.alloc o) (h.on ((Below.refl _ _).alloc (Nat.le_refl _) _)) hg)
  clear h
  go_enter Try.func83, Try.ntmps83
  go_wp2_with fail
  refine (unhide H _ _ ?_).mono ?_
  · simp
  · rintro e w1 ⟨⟨k, rfl, hk, he⟩, hb⟩
    have HE := hide he
    clear he
    go_wp2_with fail
    go_ret
    refine ⟨ret_bool ?_, ((Below.refl _ _).alloc (Nat.le_refl _) _).trans (hb.mono (by simp))⟩
    rw [← unhide HE, Bool.eq_iff_iff]; simp; omega
end Go.Proofs.Ythkhaemlcmkkjay

namespace Go.Proofs.Ythkhaemlcmkkjay
set_option linter.unusedVariables false
set_option linter.unusedSimpArgs false
open Go.RowKit Go.Sort

set_option maxHeartbeats 2000000 in
theorem packOk_any (p : PackD) (a1 : Option Addr) (c1 : Nat) (a2 : Option Addr) (c2 : Nat) (a3 : Option Addr) (c3 : Nat) (w : World) (h : PackVal (Old w) w a1 a2 a3 p) :
    Calls Try.prog 59 #[.agg #[.string p.name, .int .i64 p.ver, .int .i64 p.size, .slice a1 p.deps.length c1, .slice a2 p.pres.length c2, .slice a3 p.bans.length c3]] w fun e w' => e = .returned (.bool (packB p)) ∧ Below w.heap.size w w' := by
  have H23 := hide (fun W => nameOk_any p.name W h.len)
  have HV := hide h
  clear h
  have hm := (unhide HV).deps.1
  unfold maxLen at hm
  go_enter Try.func59, Try.ntmps59
  go_wp2_with fail
  refine (unhide H23 _).mono ?_
  rintro e w1 ⟨rfl, hb⟩
  have hz := hb.size
  have x1 := hb.cell (p := ⟨w.heap.size, 1, none⟩) (by simp)
  have x2 := hb.cell (p := ⟨w.heap.size, 2, none⟩) (by simp)
  have x3 := hb.cell (p := ⟨w.heap.size, 3, none⟩) (by simp)
  have x4 := hb.cell (p := ⟨w.heap.size, 4, none⟩) (by simp)
  have x5 := hb.cell (p := ⟨w.heap.size, 5, none⟩) (by simp)
  simp at x1 x2 x3 x4 x5 hz
  have hb1 : Below w.heap.size w w1 := ((Below.refl w.heap.size w).alloc (Nat.le_refl _) _).trans (hb.mono (by simp))
  have HB := hide hb1
  clear hb hb1
  cases hv0 : nameB p.name with
  | false =>
    have e : packB p = false := by simp [packB, hv0]
    go_wp2_with fail
    go_ret
    exact ⟨by first | rfl | (rw [e]; rfl), unhide HB⟩
  | true =>
  cases hv1 : inB p.ver 0 99 with
  | false =>
    have e : packB p = false := by simp [packB, hv1]
    go_wp2_with (go_at_call 46; refine (within_any _ _ _ _).mono ?_; rintro e w' ⟨rfl, hww⟩; obtain rfl := hww.symm)
    go_ret
    exact ⟨by first | rfl | (rw [e]; rfl), unhide HB⟩
  | true =>
  cases hv2 : inB p.size 0 999 with
  | false =>
    have e : packB p = false := by simp [packB, hv2]
    go_wp2_with (go_at_call 46; refine (within_any _ _ _ _).mono ?_; rintro e w' ⟨rfl, hww⟩; obtain rfl := hww.symm)
    go_ret
    exact ⟨by first | rfl | (rw [e]; rfl), unhide HB⟩
  | true =>
  by_cases h4 : (p.deps.length : Int) ≤ 4
  case neg =>
    have e : packB p = false := by simp only [packB]; simp; omega
    go_wp2_with (go_at_call 46; refine (within_any _ _ _ _).mono ?_; rintro e w' ⟨rfl, hww⟩; obtain rfl := hww.symm)
    go_ret
    exact ⟨by first | rfl | (rw [e]; rfl), unhide HB⟩
  case pos =>
  go_wp2_with (go_at_call 46; refine (within_any _ _ _ _).mono ?_; rintro e w' ⟨rfl, hww⟩; obtain rfl := hww.symm)
  refine (allRow_any a1 p.deps _ _ ((unhide HV).deps.on (unhide HB))).mono ?_
  rintro e w2 ⟨rfl, hb⟩
  rw [← hb.cell (p := ⟨w.heap.size, _, none⟩) (by simp; omega)] at x4 x5
  have hz2 := hb.size
  have hb2 : Below w.heap.size w w2 := (unhide HB).trans (hb.mono (unhide HB).size)
  have HB2 := hide hb2
  clear hb hb2 HB
  cases hv3 : p.deps.all rowB with
  | false =>
    have e : packB p = false := by simp only [packB, hv3]; simp
    go_wp2_with fail
    go_ret
    exact ⟨by first | rfl | (rw [e]; rfl), unhide HB2⟩
  | true =>
  go_wp2_with fail
  refine (reqsOk_any a2 p.pres _ _ ((unhide HV).pres.on (unhide HB2))).mono ?_
  rintro e w3 ⟨rfl, hb⟩
  rw [← hb.cell (p := ⟨w.heap.size, _, none⟩) (by simp; omega)] at x5
  have hz3 := hb.size
  have hb3 : Below w.heap.size w w3 := (unhide HB2).trans (hb.mono (unhide HB2).size)
  have HB3 := hide hb3
  clear hb hb3 HB2
  cases hv4 : reqsB p.pres with
  | false =>
    have e : packB p = false := by simp only [packB, hv4]; simp
    go_wp2_with fail
    go_ret
    exact ⟨by first | rfl | (rw [e]; rfl), unhide HB3⟩
  | true =>
  go_wp2_with fail
  refine (reqsOk_any a3 p.bans _ _ ((unhide HV).bans.on (unhide HB3))).mono ?_
  rintro e w4 ⟨rfl, hb⟩
  have hb4 : Below w.heap.size w w4 := (unhide HB3).trans (hb.mono (unhide HB3).size)
  have HB4 := hide hb4
  clear hb hb4 HB3
  go_wp2_with fail
  go_ret
  refine ⟨ret_bool ?_, unhide HB4⟩
  have h4' : p.deps.length ≤ 4 := by omega
  simp only [packB, hv0, hv1, hv2, hv3, hv4, h4', decide_true, Bool.true_and]

set_option maxHeartbeats 1000000 in
theorem litPack_any (p : PackD) (a1 : Option Addr) (c1 : Nat) (a2 : Option Addr) (c2 : Nat) (a3 : Option Addr) (c3 : Nat) (g : Nat) (w : World) (h : PackVal (Old w) w a1 a2 a3 p)
    (hg : w.cell? ⟨g, 0, none⟩ = some (.func (.func 59) #[] #[])) :
    Calls Try.prog 81 #[.agg #[.string p.name, .int .i64 p.ver, .int .i64 p.size, .slice a1 p.deps.length c1, .slice a2 p.pres.length c2, .slice a3 p.bans.length c3], .pointer (some ⟨g, 0, none⟩)] w fun e w' => e = .returned (.bool (!packB p)) ∧ Below w.heap.size w w' := by
  have hgl := block_lt_of_cell hg
  have hg' : ∀ o, (w.alloc o).cell? ⟨g, 0, none⟩ = some (.func (.func 59) #[] #[]) := fun o => (((Below.refl w.heap.size w).alloc (Nat.le_refl _) o).cell hgl).trans hg
  have H := hide (fun (o : Obj) => packOk_any p a1 c1 a2 c2 a3 c3 (w.alloc o) (h.on ((Below.refl _ _).alloc (Nat.le_refl _) _)))
  clear h
  go_enter Try.func81, Try.ntmps81
  go_wp2_with fail
  refine (unhide H _).mono ?_
  rintro e w1 ⟨rfl, hb⟩
  go_wp2_with fail
  go_ret
  exact ⟨rfl, ((Below.refl _ _).alloc (Nat.le_refl _) _).trans (hb.mono (by simp))⟩

set_option maxHeartbeats 1000000 in
theorem searchPack_any (a : Option Addr) (l : List PackD) (cap g : Nat) (w : World) (h : PacksAt (Old w) w a l)
    (hg : w.cell? ⟨g, 0, none⟩ = some (.func (.func 59) #[] #[])) :
    Calls Try.prog 80 #[.slice a l.length cap, .int .i64 0, .func (.func 81) #[] #[.pointer (some ⟨g, 0, none⟩)]] w
      fun e w' => (∃ k : Nat, e = .returned (.int .i64 k) ∧ k ≤ l.length ∧ ((k == l.length) = l.all packB)) ∧ Below w.heap.size w w' := by
  obtain ⟨hm, h⟩ := h
  unfold maxLen at hm
  go_enter Try.func80, Try.ntmps80
  go_wp2
  go_loopw [1] (fun i wr => ∃ k : Nat, k ≤ l.length ∧ i = .int .i64 k ∧ Hid ((l.take k).all packB = true) ∧ Below w.heap.size w wr) (fun i _ => l.length - (intOf i).toNat)
  case atStart => exact ⟨0, Nat.zero_le _, rfl, rfl, Below.refl _ _⟩
  case round =>
    rename World => wo
    obtain ⟨k, hk, rfl, hl, hw⟩ := hrel
    by_cases hlt : k < l.length
    · rcases h with h | ⟨b, o, rfl, hSb, h⟩
      · subst h; simp at hlt
      · have hq := h k hlt
        clear h
        have H := hide (@all_take_succ (PackD) l dPack packB k hlt)
        have HN := hide (@all_not_take (PackD) l dPack packB k hlt)
        generalize l.getD k dPack = q at hq H HN
        obtain ⟨a1, c1, a2, c2, a3, c3, ⟨p0, p1, p2, p3, p4, p5⟩, hv⟩ := hq
        rw [← hw.cell (p := ⟨b, _, none⟩) hSb] at p0 p1 p2 p3 p4 p5
        have hv' := hide (hv.on hw)
        clear hv
        have hg' := (hw.cell (p := ⟨g, 0, none⟩) (block_lt_of_cell hg)).trans hg
        have HW := hide hw
        clear hw
        go_wp2_with fail
        refine (litPack_any q a1 c1 a2 c2 a3 c3 g _ (unhide hv') hg').mono ?_
        rintro e w1 ⟨rfl, hb⟩
        have hbe := (unhide HW).trans (hb.mono (unhide HW).size)
        have HBE := hide hbe
        clear hb hbe
        cases hv : packB q with
        | true =>
          go_wp2_with fail
          go_roundw
          case rel => exact ⟨k + 1, by omega, by go_num, by show _ = true; rw [unhide H, hl.out, hv]; rfl, unhide HBE⟩
          case measure => simp [intOf]; omega
        | false =>
          have e1 := unhide HN hv
          have HE := hide e1
          clear e1
          go_wp2_with fail
          go_ret
          refine ⟨⟨k, rfl, by omega, ?_⟩, unhide HBE⟩
          rw [unhide HE, beq_eq_false_iff_ne]; omega
    · go_wp2_with fail
      go_ret
      refine ⟨⟨k, rfl, by omega, ?_⟩, hw⟩
      rw [all_of_take hlt hl.out, beq_iff_eq]; omega

set_option maxHeartbeats 1000000 in
theorem allPack_any (a : Option Addr) (l : List PackD) (cap : Nat) (w : World) (h : PacksAt (Old w) w a l) :
    Calls Try.prog 58 #[.slice a l.length cap, .func (.func 59) #[] #[]] w fun e w' => e = .returned (.bool (l.all packB)) ∧ Below w.heap.size w w' := by
  have H := hide (fun (o : Obj) g hg => searchPack_any a l cap g (w.alloc o) (h.on ((Below.refl _ _).alloc (Nat.le_refl _) _)) hg)
  clear h
  go_enter Try.func58, Try.ntmps58
  go_wp2_with fail
  refine (unhide H _ _ ?_).mono ?_
  · simp
  · rintro e w1 ⟨⟨k, rfl, hk, he⟩, hb⟩
    have HE := hide he
    clear he
    go_wp2_with fail
    go_ret
    refine ⟨ret_bool ?_, ((Below.refl _ _).alloc (Nat.le_refl _) _).trans (hb.mono (by simp))⟩
    rw [← unhide HE, Bool.eq_iff_iff]; simp; omega

set_option maxHeartbeats 1000000 in
theorem packAhead_any (p q : PackD) (a1 : Option Addr) (c1 : Nat) (a2 : Option Addr) (c2 : Nat) (a3 : Option Addr) (c3 : Nat) (z1 : Option Addr) (d1 : Nat) (z2 : Option Addr) (d2 : Nat) (z3 : Option Addr) (d3 : Nat) (w : World) :
    Calls Try.prog 86 #[.agg #[.string p.name, .int .i64 p.ver, .int .i64 p.size, .slice a1 p.deps.length c1, .slice a2 p.pres.length c2, .slice a3 p.bans.length c3], .agg #[.string q.name, .int .i64 q.ver, .int .i64 q.size, .slice z1 q.deps.length d1, .slice z2 q.pres.length d2, .slice z3 q.bans.length d3]] w fun e w' => e = .returned (.bool (aheadB p q)) ∧ Below w.heap.size w w' := by
  cases hL : Op.bytesLess p.name.toList q.name.toList with
  | true =>
    have e : aheadB p q = true := by simp [aheadB, hL]
    go_enter Try.func86, Try.ntmps86
    go_wp2_with fail
    go_ret
    exact ⟨by first | rfl | (rw [e]; rfl), ((Below.refl _ _).alloc (Nat.le_refl _) _).alloc (by simp) _⟩
  | false =>
    cases hE : (p.name.toList == q.name.toList) with
    | false =>
      have e : aheadB p q = false := by simp only [aheadB, hL, hE]; rfl
      go_enter Try.func86, Try.ntmps86
      go_wp2_with fail
      go_ret
      exact ⟨by first | rfl | (rw [e]; rfl), ((Below.refl _ _).alloc (Nat.le_refl _) _).alloc (by simp) _⟩
    | true =>
      have HE := hide (show aheadB p q = decide (p.ver < q.ver) by simp only [aheadB, hL, hE]; simp)
      go_enter Try.func86, Try.ntmps86
      go_wp2_with fail
      go_ret
      exact ⟨ret_bool (unhide HE).symm, ((Below.refl _ _).alloc (Nat.le_refl _) _).alloc (by simp) _⟩
end Go.Proofs.Ythkhaemlcmkkjay

namespace Go.Proofs.Ythkhaemlcmkkjay
set_option linter.unusedVariables false
set_option linter.unusedSimpArgs false
open Go.RowKit Go.Sort

theorem asc_not {packs : List PackD} {k : Nat} (h : k < packs.length) (h0 : 0 < k) (hf : aheadB (packs.getD (k - 1) dPack) (packs.getD k dPack) = false) : ascB packs = false := by
  rw [← Bool.not_eq_true]
  intro ht
  have := List.all_eq_true.1 ht (k - 1) (by simp; omega)
  rw [show k - 1 + 1 = k by omega, hf] at this
  exact absurd this (by decide)

theorem asc_short {packs : List PackD} (h : packs.length ≤ 1) : ascB packs = true := by
  simp only [ascB]
  rw [show packs.length - 1 = 0 by omega]; rfl

set_option maxHeartbeats 2000000 in
theorem packsAscend_any (a : Option Addr) (packs : List PackD) (cap : Nat) (w : World) (h : PacksAt (Old w) w a packs) :
    Calls Try.prog 60 #[.slice a packs.length cap] w fun e w' => e = .returned (.bool (ascB packs)) ∧ Below w.heap.size w w' := by
  obtain ⟨hm, h⟩ := h
  unfold maxLen at hm
  go_enter Try.func60, Try.ntmps60
  go_wp2
  go_loopw [3] (fun i wr => ∃ k : Nat, 1 ≤ k ∧ i = .int .i64 k ∧ (k ≤ packs.length ∨ k = 1) ∧ Hid (ascB (packs.take k) = true) ∧ Below w.heap.size w wr) (fun i _ => packs.length + 1 - (intOf i).toNat)
  case atStart => exact ⟨1, Nat.le_refl _, rfl, Or.inr rfl, asc_one packs, Below.refl _ _⟩
  case round =>
    rename World => wo
    obtain ⟨k, hk0, rfl, hk, hl, hw⟩ := hrel
    by_cases hlt : k < packs.length
    · rcases h with h | ⟨b, o, rfl, hSb, h⟩
      · subst h; simp at hlt
      · have hq := h k hlt
        have hq' := h (k - 1) (by omega)
        clear h
        have H := hide (@asc_take packs k hlt (by omega))
        have HN := hide (@asc_not packs k hlt (by omega))
        generalize packs.getD (k - 1) dPack = p' at hq' H HN
        generalize packs.getD k dPack = p at hq H HN
        obtain ⟨a1, c1, a2, c2, a3, c3, ⟨p0, p1, p2, p3, p4, p5⟩, hv⟩ := hq
        obtain ⟨z1, d1, z2, d2, z3, d3, ⟨q0, q1, q2, q3, q4, q5⟩, _⟩ := hq'
        obtain ⟨z, hz⟩ : ∃ z : Int, z = (k : Int) - 1 := ⟨_, rfl⟩
        have hkn : z.toNat = k - 1 := by omega
        rw [← hkn, ← hw.cell (p := ⟨b, _, none⟩) hSb] at q0 q1 q2 q3 q4 q5
        rw [← hw.cell (p := ⟨b, _, none⟩) hSb] at p0 p1 p2 p3 p4 p5
        have hwr : IntKind.i64.wrap ((k : Int) - 1) = z := by rw [IntKind.wrap_i64]; omega
        have i0 : (0 : Int) ≤ z := by omega
        have i1 : z < (packs.length : Int) := by omega
        have j0 : (0 : Int) ≤ (k : Int) := by omega
        have j1 : (k : Int) < (packs.length : Int) := by omega
        have HK := hide hk
        have HW := hide hw
        clear hkn hz hv hk hw
        have r0 := cell_regrown p0
        have r1 := cell_regrown p1
        have r2 := cell_regrown p2
        have r3 := cell_regrown p3
        have r4 := cell_regrown p4
        have r5 := cell_regrown p5
        have s0 := cell_regrown q0
        have s1 := cell_regrown q1
        have s2 := cell_regrown q2
        have s3 := cell_regrown q3
        have s4 := cell_regrown q4
        have s5 := cell_regrown q5
        have cC := hide (fun d os => Calls.regrown_of (packAhead_any p' p z1 d1 z2 d2 z3 d3 a1 c1 a2 c2 a3 c3 (grow (redrawn wo d) os)))
        go_wp2_with fail
        refine wp_region_quiet_below (by kernel_rfl) (by kernel_rfl) ?_
        repeat (quiet_step (exact unhide cC _ _))
        refine wpQuiet_nil ?_
        intro _ hw'
        obtain ⟨⟨dq, osq⟩, hw''⟩ := hw'
        subst hw''
        have hbe := (unhide HW).trans ((below_regrown wo dq osq).mono (unhide HW).size)
        have HBE := hide hbe
        clear hbe r0 r1 r2 r3 r4 r5 s0 s1 s2 s3 s4 s5
        cases hah : aheadB p' p with
        | true =>
          go_wp2
          go_roundw
          case rel => exact ⟨k + 1, by omega, by go_num, Or.inl (by omega), by show _ = true; rw [unhide H, hl.out, hah]; rfl, unhide HBE⟩
          case measure => simp [intOf]; omega
        | false =>
          have e := unhide HN hah
          go_wp2
          go_ret
          exact ⟨by first | rfl | (rw [e]; rfl), unhide HBE⟩
    · go_wp2
      go_ret
      refine ⟨ret_bool ?_, hw⟩
      by_cases h1 : packs.length ≤ 1
      · rw [asc_short h1]
      · have hl' := hl.out
        rw [List.take_of_length_le (by omega)] at hl'
        rw [hl']

set_option maxHeartbeats 2000000 in
theorem implRepoOk_any (a : Option Addr) (packs : List PackD) (cap : Nat) (room : Int) (w : World) (h : PacksAt (Old w) w a packs) :
    Calls Try.prog 37 #[.agg #[.slice a packs.length cap, .int .i64 room]] w fun e w' => e = .returned (.bool (repoB ⟨packs, room⟩)) ∧ Below w.heap.size w w' := by
  have hm := h.1
  unfold maxLen at hm
  have HV := hide h
  clear h
  by_cases h8 : (packs.length : Int) ≤ 8
  case neg =>
    have e : repoB ⟨packs, room⟩ = false := by simp only [repoB]; simp; omega
    go_enter Try.func37, Try.ntmps37
    go_wp2_with fail
    go_ret
    exact ⟨by first | rfl | (rw [e]; rfl), (Below.refl _ _).alloc (Nat.le_refl _) _⟩
  case pos =>
  have h8' : Hid (packs.length ≤ 8) := by show _ ≤ _; omega
  cases hr : inB room 0 999 with
  | false =>
    have e : repoB ⟨packs, room⟩ = false := by simp [repoB, hr]
    go_enter Try.func37, Try.ntmps37
    go_wp2_with (go_at_call 46; refine (within_any _ _ _ _).mono ?_; rintro e w' ⟨rfl, hww⟩; obtain rfl := hww.symm)
    go_ret
    exact ⟨by first | rfl | (rw [e]; rfl), (Below.refl _ _).alloc (Nat.le_refl _) _⟩
  | true =>
  go_enter Try.func37, Try.ntmps37
  go_wp2_with (go_at_call 46; refine (within_any _ _ _ _).mono ?_; rintro e w' ⟨rfl, hww⟩; obtain rfl := hww.symm)
  refine (allPack_any a packs _ _ ((unhide HV).on ((Below.refl _ _).alloc (Nat.le_refl _) _))).mono ?_
  rintro e w1 ⟨rfl, hb⟩
  have x0 := hb.cell (p := ⟨w.heap.size, 0, none⟩) (by simp)
  have hz := hb.size
  simp at x0 hz
  have hb1 : Below w.heap.size w w1 := ((Below.refl w.heap.size w).alloc (Nat.le_refl _) _).trans (hb.mono (by simp))
  have HB := hide hb1
  clear hb hb1
  cases hp : packs.all packB with
  | false =>
    have e : repoB ⟨packs, room⟩ = false := by simp only [repoB, hp]; simp
    go_wp2_with fail
    go_ret
    exact ⟨by first | rfl | (rw [e]; rfl), unhide HB⟩
  | true =>
  go_wp2_with fail
  refine (packsAscend_any a packs _ _ ((unhide HV).on (unhide HB))).mono ?_
  rintro e w2 ⟨rfl, hb⟩
  go_wp2_with fail
  go_ret
  refine ⟨ret_bool ?_, (unhide HB).trans (hb.mono (unhide HB).size)⟩
  simp only [repoB, hp, hr, h8'.out, decide_true, Bool.true_and]
end Go.Proofs.Ythkhaemlcmkkjay
