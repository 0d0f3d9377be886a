/- The program's own searches, and what asks whether all of a list are ok. -/
import Derived.Test.YtecipjdbfmldlabImplA
namespace Go.Proofs.Ytecipjdbfmldlab
set_option linter.unusedVariables false
set_option linter.unusedSimpArgs false
open Go.RowKit

theorem all_of_take {α : Type} {l : List α} {f : α → Bool} {k : Nat} (h : ¬ k < l.length) (hl : (l.take k).all f = true) : l.all f = true := by
  rwa [List.take_of_length_le (by omega)] at hl
theorem all_not_take {α : Type} {l : List α} {d : α} {f : α → Bool} {k : Nat} (h : k < l.length) (hf : f (l.getD k d) = false) : l.all f = false := by
  rw [← List.take_append_drop (k + 1) l, List.all_append, all_take_succ (d := d) h, hf]; simp


set_option maxHeartbeats 1000000 in
theorem litReq_any (q : ReqD) (g : Nat) (w : World) (hs : q.name.size ≤ maxLen)
    (hg : w.cell? ⟨g, 0, none⟩ = some (.func (.func 79) #[] #[])) :
    Calls Try.prog 81 #[.agg #[.string q.name, .int .i64 q.low, .int .i64 q.high], .pointer (some ⟨g, 0, none⟩)] w fun e w' => e = .returned (.bool (!reqB q)) ∧ Below w.heap.size w w' := by
  have hgl := block_lt_of_cell hg
  have hg' : ∀ o, (w.alloc o).cell? ⟨g, 0, none⟩ = some (.func (.func 79) #[] #[]) := fun o => (((Below.refl w.heap.size w).alloc (Nat.le_refl _) o).cell hgl).trans hg
  go_enter Try.func81, Try.ntmps81
  go_wp2_with fail
  refine (reqOk_any q _ hs).mono ?_
  rintro e w1 ⟨rfl, hb⟩
  go_wp2_with fail
  go_ret
  exact ⟨rfl, ((Below.refl _ _).alloc (Nat.le_refl _) _).trans (hb.mono (by simp))⟩

set_option maxHeartbeats 1000000 in
theorem searchReq_any (a : Option Addr) (l : List ReqD) (cap g : Nat) (w : World) (h : ReqsAt (Old w) w a l)
    (hg : w.cell? ⟨g, 0, none⟩ = some (.func (.func 79) #[] #[])) :
    Calls Try.prog 80 #[.slice a l.length cap, .int .i64 0, .func (.func 81) #[] #[.pointer (some ⟨g, 0, none⟩)]] w
      fun e w' => (∃ k : Nat, e = .returned (.int .i64 k) ∧ k ≤ l.length ∧ ((k == l.length) = l.all reqB)) ∧ Below w.heap.size w w' := by
  obtain ⟨hm, h⟩ := h
  unfold maxLen at hm
  go_enter Try.func80, Try.ntmps80
  go_wp2
  go_loopw [1] (fun i wr => ∃ k : Nat, k ≤ l.length ∧ i = .int .i64 k ∧ Hid ((l.take k).all reqB = true) ∧ Below w.heap.size w wr) (fun i _ => l.length - (intOf i).toNat)
  case atStart => exact ⟨0, Nat.zero_le _, rfl, rfl, Below.refl _ _⟩
  case round =>
    rename World => wo
    obtain ⟨k, hk, rfl, hl, hw⟩ := hrel
    by_cases hlt : k < l.length
    · rcases h with h | ⟨b, o, rfl, hSb, h⟩
      · subst h; simp at hlt
      · have hq := h k hlt
        clear h
        have H := hide (@all_take_succ (ReqD) l dReq reqB k hlt)
        have HN := hide (@all_not_take (ReqD) l dReq reqB k hlt)
        generalize l.getD k dReq = q at hq H HN
        obtain ⟨c0, c1, c2, hn⟩ := hq
        rw [← hw.cell (p := ⟨b, _, none⟩) hSb] at c0 c1 c2
        have hg' := (hw.cell (p := ⟨g, 0, none⟩) (block_lt_of_cell hg)).trans hg
        have HW := hide hw
        clear hw
        go_wp2_with fail
        refine (litReq_any q g _ hn hg').mono ?_
        rintro e w1 ⟨rfl, hb⟩
        have hbe := (unhide HW).trans (hb.mono (unhide HW).size)
        have HBE := hide hbe
        clear hb hbe
        cases hv : reqB q with
        | true =>
          go_wp2_with fail
          go_roundw
          case rel => exact ⟨k + 1, by omega, by go_num, by show _ = true; rw [unhide H, hl.out, hv]; rfl, unhide HBE⟩
          case measure => simp [intOf]; omega
        | false =>
          have e1 := unhide HN hv
          have HE := hide e1
          clear e1
          go_wp2_with fail
          go_ret
          refine ⟨⟨k, rfl, by omega, ?_⟩, unhide HBE⟩
          rw [unhide HE, beq_eq_false_iff_ne]; omega
    · go_wp2_with fail
      go_ret
      refine ⟨⟨k, rfl, by omega, ?_⟩, hw⟩
      rw [all_of_take hlt hl.out, beq_iff_eq]; omega

set_option maxHeartbeats 1000000 in
theorem allReq_any (a : Option Addr) (l : List ReqD) (cap : Nat) (w : World) (h : ReqsAt (Old w) w a l) :
    Calls Try.prog 78 #[.slice a l.length cap, .func (.func 79) #[] #[]] w fun e w' => e = .returned (.bool (l.all reqB)) ∧ Below w.heap.size w w' := by
  have H := hide (fun (o : Obj) g hg => searchReq_any a l cap g (w.alloc o) (h.on ((Below.refl _ _).alloc (Nat.le_refl _) _)) hg)
  clear h
  go_enter Try.func78, Try.ntmps78
  go_wp2_with fail
  refine (unhide H _ _ ?_).mono ?_
  · simp
  · rintro e w1 ⟨⟨k, rfl, hk, he⟩, hb⟩
    have HE := hide he
    clear he
    go_wp2_with fail
    go_ret
    refine ⟨ret_bool ?_, ((Below.refl _ _).alloc (Nat.le_refl _) _).trans (hb.mono (by simp))⟩
    rw [← unhide HE, Bool.eq_iff_iff]; simp; omega

set_option maxHeartbeats 1000000 in
theorem reqsOk_any (a : Option Addr) (l : List ReqD) (cap : Nat) (w : World) (h : ReqsAt (Old w) w a l) :
    Calls Try.prog 72 #[.slice a l.length cap] w fun e w' => e = .returned (.bool (reqsB l)) ∧ Below w.heap.size w w' := by
  have hm := h.1
  unfold maxLen at hm
  have H := hide (allReq_any a l cap w h)
  clear h
  by_cases h4 : (l.length : Int) ≤ 4
  · have h4' : Hid (l.length ≤ 4) := by show _ ≤ _; omega
    go_enter Try.func72, Try.ntmps72
    go_wp2_with fail
    refine (unhide H).mono ?_
    rintro e w1 ⟨rfl, hb⟩
    go_wp2_with fail
    go_ret
    exact ⟨ret_bool (by simp [reqsB, h4'.out]), hb⟩
  · have e : reqsB l = false := by simp only [reqsB]; simp; omega
    go_enter Try.func72, Try.ntmps72
    go_wp2_with fail
    go_ret
    exact ⟨by first | rfl | (rw [e]; rfl), Below.refl _ _⟩

set_option maxHeartbeats 1000000 in
theorem rowOk_any (a : Option Addr) (l : List ReqD) (cap : Nat) (w : World) (h : ReqsAt (Old w) w a l) :
    Calls Try.prog 71 #[.slice a l.length cap] w fun e w' => e = .returned (.bool (rowB l)) ∧ Below w.heap.size w w' := by
  have hm := h.1
  unfold maxLen at hm
  have H := hide (reqsOk_any a l cap w h)
  clear h
  by_cases h0 : 0 < l.length
  · have h0' : Hid (0 < l.length) := h0
    go_enter Try.func71, Try.ntmps71
    go_wp2_with fail
    refine (unhide H).mono ?_
    rintro e w1 ⟨rfl, hb⟩
    go_wp2_with fail
    go_ret
    exact ⟨ret_bool (by simp [rowB, h0'.out]), hb⟩
  · have e : rowB l = false := by simp only [rowB]; simp; omega
    go_enter Try.func71, Try.ntmps71
    go_wp2_with fail
    go_ret
    exact ⟨by first | rfl | (rw [e]; rfl), Below.refl _ _⟩

set_option maxHeartbeats 1000000 in
theorem litRow_any (a : Option Addr) (l : List ReqD) (cap g : Nat) (w : World) (h : ReqsAt (Old w) w a l)
    (hg : w.cell? ⟨g, 0, none⟩ = some (.func (.func 71) #[] #[])) :
    Calls Try.prog 77 #[.slice a l.length cap, .pointer (some ⟨g, 0, none⟩)] w fun e w' => e = .returned (.bool (!rowB l)) ∧ Below w.heap.size w w' := by
  have H := hide (rowOk_any a l cap w h)
  clear h
  go_enter Try.func77, Try.ntmps77
  go_wp2_with fail
  refine (unhide H).mono ?_
  rintro e w1 ⟨rfl, hb⟩
  go_wp2_with fail
  go_ret
  exact ⟨rfl, hb⟩

set_option maxHeartbeats 1000000 in
theorem searchRow_any (a : Option Addr) (l : List (List ReqD)) (cap g : Nat) (w : World) (h : RowsAt (Old w) w a l)
    (hg : w.cell? ⟨g, 0, none⟩ = some (.func (.func 71) #[] #[])) :
    Calls Try.prog 76 #[.slice a l.length cap, .int .i64 0, .func (.func 77) #[] #[.pointer (some ⟨g, 0, none⟩)]] w
      fun e w' => (∃ k : Nat, e = .returned (.int .i64 k) ∧ k ≤ l.length ∧ ((k == l.length) = l.all rowB)) ∧ Below w.heap.size w w' := by
  obtain ⟨hm, h⟩ := h
  unfold maxLen at hm
  go_enter Try.func76, Try.ntmps76
  go_wp2
  go_loopw [1] (fun i wr => ∃ k : Nat, k ≤ l.length ∧ i = .int .i64 k ∧ Hid ((l.take k).all rowB = true) ∧ Below w.heap.size w wr) (fun i _ => l.length - (intOf i).toNat)
  case atStart => exact ⟨0, Nat.zero_le _, rfl, rfl, Below.refl _ _⟩
  case round =>
    rename World => wo
    obtain ⟨k, hk, rfl, hl, hw⟩ := hrel
    by_cases hlt : k < l.length
    · rcases h with h | ⟨b, o, rfl, hSb, h⟩
      · subst h; simp at hlt
      · have hq := h k hlt
        clear h
        have H := hide (@all_take_succ ((List ReqD)) l [] rowB k hlt)
        have HN := hide (@all_not_take ((List ReqD)) l [] rowB k hlt)
        generalize l.getD k [] = q at hq H HN
        obtain ⟨a', c', hc, hrow⟩ := hq
        rw [← hw.cell (p := ⟨b, _, none⟩) hSb] at hc
        have hrow' := hide ((hrow.stay (Old.of hw)).wider (Old.grow hw))
        clear hrow
        have hg' := (hw.cell (p := ⟨g, 0, none⟩) (block_lt_of_cell hg)).trans hg
        have HW := hide hw
        clear hw
        go_wp2_with fail
        refine (litRow_any a' q c' g _ (unhide hrow') hg').mono ?_
        rintro e w1 ⟨rfl, hb⟩
        have hbe := (unhide HW).trans (hb.mono (unhide HW).size)
        have HBE := hide hbe
        clear hb hbe
        cases hv : rowB q with
        | true =>
          go_wp2_with fail
          go_roundw
          case rel => exact ⟨k + 1, by omega, by go_num, by show _ = true; rw [unhide H, hl.out, hv]; rfl, unhide HBE⟩
          case measure => simp [intOf]; omega
        | false =>
          have e1 := unhide HN hv
          have HE := hide e1
          clear e1
          go_wp2_with fail
          go_ret
          refine ⟨⟨k, rfl, by omega, ?_⟩, unhide HBE⟩
          rw [unhide HE, beq_eq_false_iff_ne]; omega
    · go_wp2_with fail
      go_ret
      refine ⟨⟨k, rfl, by omega, ?_⟩, hw⟩
      rw [all_of_take hlt hl.out, beq_iff_eq]; omega

set_option maxHeartbeats 1000000 in
theorem allRow_any (a : Option Addr) (l : List (List ReqD)) (cap : Nat) (w : World) (h : RowsAt (Old w) w a l) :
    Calls Try.prog 70 #[.slice a l.length cap, .func (.func 71) #[] #[]] w fun e w' => e = .returned (.bool (l.all rowB)) ∧ Below w.heap.size w w' := by
  have H := hide (fun (o : Obj) g hg => searchRow_any a l cap g (w.alloc o) (h.on ((Below.refl _ _).alloc (Nat.le_refl _) _)) hg)
  clear h
  go_enter Try.func70, Try.ntmps70
  go_wp2_with fail
  refine (unhide H _ _ ?_).mono ?_
  · simp
  · rintro e w1 ⟨⟨k, rfl, hk, he⟩, hb⟩
    have HE := hide he
    clear he
    go_wp2_with fail
    go_ret
    refine ⟨ret_bool ?_, ((Below.refl _ _).alloc (Nat.le_refl _) _).trans (hb.mono (by simp))⟩
    rw [← unhide HE, Bool.eq_iff_iff]; simp; omega
end Go.Proofs.Ytecipjdbfmldlab
