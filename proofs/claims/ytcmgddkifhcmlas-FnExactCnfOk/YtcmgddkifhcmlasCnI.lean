/- The program's test of clauses. -/
import Derived.Test.YtcmgddkifhcmlasCnA
import Derived.Test.YtcmgddkifhcmlasGImpl
namespace Go.Proofs.Ytcmgddkifhcmlas
set_option linter.unusedVariables false
set_option linter.unusedSimpArgs false
open Go.RowKit Go.Deep

set_option maxHeartbeats 1000000 in
theorem isLit_any (vars : Int) (hv0 : 0 ≤ vars) (hv1 : vars ≤ 400) (cv : Value) (x : Int) (w : World) :
    Calls Try.prog 103 #[.agg #[.int .i64 vars, cv], .int .i64 x] w fun e w' => e = .returned (.bool (litB vars x)) ∧ Below w.heap.size w w' := by
  have hneg := neg_wrap hv0 hv1
  by_cases hx : x = 0
  · have e : litB vars x = false := by simp [litB, hx]
    have HE := hide e
    clear e
    go_enter Try.func103, Try.ntmps103
    go_wp2_with fail
    go_ret
    exact ⟨ret_bool (unhide HE).symm, (Below.refl _ _).alloc (Nat.le_refl _) _⟩
  · have e : litB vars x = inB x (-vars) vars := by simp [litB, hx]
    have HE := hide e
    clear e
    go_enter Try.func103, Try.ntmps103
    go_wp2_with fail
    refine (within_any _ _ _ _).mono ?_
    rintro e w1 ⟨rfl, rfl⟩
    go_wp2_with fail
    go_ret
    exact ⟨ret_bool (by rw [unhide HE]; simp [hx]), (Below.refl _ _).alloc (Nat.le_refl _) _⟩

set_option maxHeartbeats 1000000 in
theorem litInt11_any (vars : Int) (hv0 : 0 ≤ vars) (hv1 : vars ≤ 400) (cv : Value) (x : Int) (g : Nat) (w : World) (hg : w.cell? ⟨g, 0, none⟩ = some (.func (.func 103) #[.agg #[.int .i64 vars, cv]] #[])) :
    Calls Try.prog 133 #[.int .i64 x, .pointer (some ⟨g, 0, none⟩)] w fun e w' => e = .returned (.bool (!litB vars x)) ∧ Below w.heap.size w w' := by
  have H := hide (isLit_any vars hv0 hv1 cv x w)
  go_enter Try.func133, Try.ntmps133
  go_wp2_with fail
  refine (unhide H).mono ?_
  rintro e w1 ⟨rfl, hb⟩
  go_wp2_with fail
  go_ret
  exact ⟨rfl, hb⟩

set_option maxHeartbeats 1000000 in
theorem searchInt11_any (vars : Int) (hv0 : 0 ≤ vars) (hv1 : vars ≤ 400) (cv : Value) (a : Option Addr) (l : List Int) (cap g : Nat) (w : World) (h : SetAt w a l)
    (hg : w.cell? ⟨g, 0, none⟩ = some (.func (.func 103) #[.agg #[.int .i64 vars, cv]] #[])) :
    Calls Try.prog 132 #[.slice a l.length cap, .int .i64 0, .func (.func 133) #[] #[.pointer (some ⟨g, 0, none⟩)]] w
      fun e w' => (∃ k : Nat, e = .returned (.int .i64 k) ∧ k ≤ l.length ∧ ((k == l.length) = l.all (litB vars))) ∧ Below w.heap.size w w' := by
  obtain ⟨hm, h⟩ := h
  go_enter Try.func132, Try.ntmps132
  go_wp2
  go_loopw [1] (fun i wr => ∃ k : Nat, k ≤ l.length ∧ i = .int .i64 k ∧ Hid ((l.take k).all (litB vars) = true) ∧ Below w.heap.size w wr) (fun i _ => l.length - (intOf i).toNat)
  case atStart => exact ⟨0, Nat.zero_le _, rfl, rfl, Below.refl _ _⟩
  case round =>
    rename World => wo
    obtain ⟨k, hk, rfl, hl', hw⟩ := hrel
    by_cases hlt : k < l.length
    · rcases h with h | ⟨b, o, rfl, hSb, h⟩
      · subst h; simp at hlt
      · have c0 := h k hlt
        clear h
        have H := hide (@all_take_succ Int l 0 (litB vars) k hlt)
        have HN := hide (@all_not_take Int l 0 (litB vars) k hlt)
        generalize l.getD k 0 = q at c0 H HN
        rw [← hw.cell (p := ⟨b, _, none⟩) hSb] at c0
        have hg' := (hw.cell (p := ⟨g, 0, none⟩) (block_lt_of_cell hg)).trans hg
        have HW := hide hw
        clear hw
        go_wp2_with fail
        refine (litInt11_any vars hv0 hv1 cv q g _ hg').mono ?_
        rintro e w1 ⟨rfl, hb⟩
        have hbe := (unhide HW).trans (hb.mono (unhide HW).size)
        have HBE := hide hbe
        clear hb hbe
        cases hv : litB vars q with
        | true =>
          go_wp2_with fail
          go_roundw
          case rel => exact ⟨k + 1, by omega, by go_num, by show _ = true; rw [unhide H, hl'.out, hv]; rfl, unhide HBE⟩
          case measure => simp [intOf]; omega
        | false =>
          have e1 := unhide HN hv
          have HE := hide e1
          clear e1
          go_wp2_with fail
          go_ret
          refine ⟨⟨k, rfl, by omega, ?_⟩, unhide HBE⟩
          rw [unhide HE, beq_eq_false_iff_ne]; omega
    · go_wp2_with fail
      go_ret
      refine ⟨⟨k, rfl, by omega, ?_⟩, hw⟩
      rw [all_of_take hlt hl'.out, beq_iff_eq]; omega

set_option maxHeartbeats 1000000 in
theorem allInt11_any (vars : Int) (hv0 : 0 ≤ vars) (hv1 : vars ≤ 400) (cv : Value) (a : Option Addr) (l : List Int) (cap : Nat) (w : World) (h : SetAt w a l) :
    Calls Try.prog 102 #[.slice a l.length cap, .func (.func 103) #[.agg #[.int .i64 vars, cv]] #[]] w fun e w' => e = .returned (.bool (l.all (litB vars))) ∧ Below w.heap.size w w' := by
  have H := hide (fun (o : Obj) g hg => searchInt11_any vars hv0 hv1 cv a l cap g (w.alloc o) (h.on ((Below.refl _ _).alloc (Nat.le_refl _) _)) hg)
  clear h
  go_enter Try.func102, Try.ntmps102
  go_wp2_with fail
  refine (unhide H _ _ ?_).mono ?_
  · simp
  · rintro e w1 ⟨⟨k, rfl, hk, he⟩, hb⟩
    have HE := hide he
    clear he
    go_wp2_with fail
    go_ret
    refine ⟨ret_bool ?_, ((Below.refl _ _).alloc (Nat.le_refl _) _).trans (hb.mono (by simp))⟩
    rw [← unhide HE, Bool.eq_iff_iff]; simp; omega

set_option maxHeartbeats 1000000 in
theorem areLits_any (vars : Int) (hv0 : 0 ≤ vars) (hv1 : vars ≤ 400) (cv : Value) (a : Option Addr) (l : List Int) (cap : Nat) (w : World) (h : SetAt w a l) :
    Calls Try.prog 60 #[.agg #[.int .i64 vars, cv], .slice a l.length cap] w fun e w' => e = .returned (.bool (litsB vars l)) ∧ Below w.heap.size w w' := by
  have hm := h.1
  have H := hide (fun W (hW : Below w.heap.size w W) => allInt11_any vars hv0 hv1 cv a l cap W (h.on hW))
  clear h
  by_cases h4 : (l.length : Int) ≤ 400
  · have h4' : Hid (l.length ≤ 400) := by show _ ≤ _; omega
    go_enter Try.func60, Try.ntmps60
    go_wp2_with fail
    refine (unhide H _ ((Below.refl _ _).alloc (Nat.le_refl _) _)).mono ?_
    rintro e w1 ⟨rfl, hb⟩
    go_wp2_with fail
    go_ret
    exact ⟨ret_bool (by simp [litsB, h4'.out]), ((Below.refl _ _).alloc (Nat.le_refl _) _).trans (hb.mono (by simp))⟩
  · have e : litsB vars l = false := by simp only [litsB]; simp; omega
    go_enter Try.func60, Try.ntmps60
    go_wp2_with fail
    go_ret
    exact ⟨by first | rfl | (rw [e]; rfl), (Below.refl _ _).alloc (Nat.le_refl _) _⟩

set_option maxHeartbeats 1000000 in
theorem litCls_any (vars : Int) (hv0 : 0 ≤ vars) (hv1 : vars ≤ 400) (cv : Value) (a : Option Addr) (l : List Int) (cap g : Nat) (w : World) (h : SetAt w a l) (hg : w.cell? ⟨g, 0, none⟩ = some (.func (.func 60) #[.agg #[.int .i64 vars, cv]] #[])) :
    Calls Try.prog 101 #[.slice a l.length cap, .pointer (some ⟨g, 0, none⟩)] w fun e w' => e = .returned (.bool (!litsB vars l)) ∧ Below w.heap.size w w' := by
  have H := hide (areLits_any vars hv0 hv1 cv a l cap w h)
  clear h
  go_enter Try.func101, Try.ntmps101
  go_wp2_with fail
  refine (unhide H).mono ?_
  rintro e w1 ⟨rfl, hb⟩
  go_wp2_with fail
  go_ret
  exact ⟨rfl, hb⟩

set_option maxHeartbeats 1000000 in
theorem searchCls_any (vars : Int) (hv0 : 0 ≤ vars) (hv1 : vars ≤ 400) (cv : Value) (a : Option Addr) (l : List (List Int)) (cap g : Nat) (w : World) (h : ClsAt w a l)
    (hg : w.cell? ⟨g, 0, none⟩ = some (.func (.func 60) #[.agg #[.int .i64 vars, cv]] #[])) :
    Calls Try.prog 100 #[.slice a l.length cap, .int .i64 0, .func (.func 101) #[] #[.pointer (some ⟨g, 0, none⟩)]] w
      fun e w' => (∃ k : Nat, e = .returned (.int .i64 k) ∧ k ≤ l.length ∧ ((k == l.length) = l.all (litsB vars))) ∧ Below w.heap.size w w' := by
  obtain ⟨hm, h⟩ := h
  go_enter Try.func100, Try.ntmps100
  go_wp2
  go_loopw [1] (fun i wr => ∃ k : Nat, k ≤ l.length ∧ i = .int .i64 k ∧ Hid ((l.take k).all (litsB vars) = true) ∧ Below w.heap.size w wr) (fun i _ => l.length - (intOf i).toNat)
  case atStart => exact ⟨0, Nat.zero_le _, rfl, rfl, Below.refl _ _⟩
  case round =>
    rename World => wo
    obtain ⟨k, hk, rfl, hl', hw⟩ := hrel
    by_cases hlt : k < l.length
    · rcases h with h | ⟨b, o, rfl, hSb, h⟩
      · subst h; simp at hlt
      · have hq := h k hlt
        clear h
        have H := hide (@all_take_succ (List Int) l [] (litsB vars) k hlt)
        have HN := hide (@all_not_take (List Int) l [] (litsB vars) k hlt)
        generalize l.getD k [] = q at hq H HN
        obtain ⟨a', c', hc, hrow⟩ := hq
        rw [← hw.cell (p := ⟨b, _, none⟩) hSb] at hc
        have hrow' := hide (hrow.on hw)
        clear hrow
        have hg' := (hw.cell (p := ⟨g, 0, none⟩) (block_lt_of_cell hg)).trans hg
        have HW := hide hw
        clear hw
        go_wp2_with fail
        refine (litCls_any vars hv0 hv1 cv a' q c' g _ (unhide hrow') hg').mono ?_
        rintro e w1 ⟨rfl, hb⟩
        have hbe := (unhide HW).trans (hb.mono (unhide HW).size)
        have HBE := hide hbe
        clear hb hbe
        cases hv : litsB vars q with
        | true =>
          go_wp2_with fail
          go_roundw
          case rel => exact ⟨k + 1, by omega, by go_num, by show _ = true; rw [unhide H, hl'.out, hv]; rfl, unhide HBE⟩
          case measure => simp [intOf]; omega
        | false =>
          have e1 := unhide HN hv
          have HE := hide e1
          clear e1
          go_wp2_with fail
          go_ret
          refine ⟨⟨k, rfl, by omega, ?_⟩, unhide HBE⟩
          rw [unhide HE, beq_eq_false_iff_ne]; omega
    · go_wp2_with fail
      go_ret
      refine ⟨⟨k, rfl, by omega, ?_⟩, hw⟩
      rw [all_of_take hlt hl'.out, beq_iff_eq]; omega

set_option maxHeartbeats 1000000 in
theorem allCls_any (vars : Int) (hv0 : 0 ≤ vars) (hv1 : vars ≤ 400) (cv : Value) (a : Option Addr) (l : List (List Int)) (cap : Nat) (w : World) (h : ClsAt w a l) :
    Calls Try.prog 59 #[.slice a l.length cap, .func (.func 60) #[.agg #[.int .i64 vars, cv]] #[]] w fun e w' => e = .returned (.bool (l.all (litsB vars))) ∧ Below w.heap.size w w' := by
  have H := hide (fun (o : Obj) g hg => searchCls_any vars hv0 hv1 cv a l cap g (w.alloc o) (h.on ((Below.refl _ _).alloc (Nat.le_refl _) _)) hg)
  clear h
  go_enter Try.func59, Try.ntmps59
  go_wp2_with fail
  refine (unhide H _ _ ?_).mono ?_
  · simp
  · rintro e w1 ⟨⟨k, rfl, hk, he⟩, hb⟩
    have HE := hide he
    clear he
    go_wp2_with fail
    go_ret
    refine ⟨ret_bool ?_, ((Below.refl _ _).alloc (Nat.le_refl _) _).trans (hb.mono (by simp))⟩
    rw [← unhide HE, Bool.eq_iff_iff]; simp; omega

set_option maxHeartbeats 2000000 in
theorem implCnfOk_any (vars : Int) (a : Option Addr) (cs : List (List Int)) (cap : Nat) (w : World) (h : ClsAt w a cs) :
    Calls Try.prog 20 #[.agg #[.int .i64 vars, .slice a cs.length cap]] w fun e w' => e = .returned (.bool (cnfB vars cs)) ∧ Below w.heap.size w w' := by
  have hm := h.1
  have H := hide (fun W (hW : Below w.heap.size w W) hv0 hv1 => allCls_any vars hv0 hv1 (.slice a cs.length cap) a cs cap W (h.on hW))
  clear h
  cases hin : inB vars 0 400 with
  | false =>
    have e : cnfB vars cs = false := by simp [cnfB, hin]
    have HE := hide e
    clear e
    go_enter Try.func20, Try.ntmps20
    go_wp2_with fail
    refine (within_any _ _ _ _).mono ?_
    rintro e w1 ⟨rfl, rfl⟩
    rw [hin]
    go_wp2_with fail
    go_ret
    exact ⟨ret_bool (unhide HE).symm, (Below.refl w.heap.size w).alloc (Nat.le_refl _) _⟩
  | true =>
    have hv : 0 ≤ vars ∧ vars ≤ 400 := by simpa [inB] using hin
    obtain ⟨hv0, hv1⟩ := hv
    by_cases hc : (cs.length : Int) ≤ 6000
    · have e : cnfB vars cs = cs.all (litsB vars) := by
        have : cs.length ≤ 6000 := by omega
        simp [cnfB, hin, this]
      have HE := hide e
      clear e
      go_enter Try.func20, Try.ntmps20
      go_wp2_with fail
      refine (within_any _ _ _ _).mono ?_
      rintro e w1 ⟨rfl, rfl⟩
      rw [hin]
      go_wp2_with fail
      refine (unhide H _ ((Below.refl _ _).alloc (Nat.le_refl _) _) hv0 hv1).mono ?_
      rintro e w1 ⟨rfl, hb⟩
      go_wp2_with fail
      go_ret
      exact ⟨ret_bool (unhide HE).symm, ((Below.refl _ _).alloc (Nat.le_refl _) _).trans (hb.mono (by simp))⟩
    · have e : cnfB vars cs = false := by simp only [cnfB]; simp; omega
      have HE := hide e
      clear e
      go_enter Try.func20, Try.ntmps20
      go_wp2_with fail
      refine (within_any _ _ _ _).mono ?_
      rintro e w1 ⟨rfl, rfl⟩
      rw [hin]
      go_wp2_with fail
      go_ret
      exact ⟨ret_bool (unhide HE).symm, (Below.refl w.heap.size w).alloc (Nat.le_refl _) _⟩
end Go.Proofs.Ytcmgddkifhcmlas
