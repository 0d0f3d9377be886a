/- Two that lie apart and hold the same are the same. -/
import Derived.Test.YthkhaemlcmkkjayGBase
import Derived.Deep.QuietTactic
import Derived.BigQuiet
import Derived.Lib.QuietBelow
namespace Go.Proofs.Ythkhaemlcmkkjay
set_option linter.unusedVariables false
set_option linter.unusedSimpArgs false
open Go.RowKit Go.Sort

set_option maxHeartbeats 400000 in
theorem eqReq_any (q : ReqD) (w : World) :
    Calls Try.prog 91 #[.agg #[.string q.name, .int .i64 q.low, .int .i64 q.high], .agg #[.string q.name, .int .i64 q.low, .int .i64 q.high]] w fun e w' => e = .returned (.bool true) ∧ Below w.heap.size w w' := by
  go_enter Try.func91, Try.ntmps91
  go_wp2
  go_ret
  exact ⟨rfl, ((Below.refl _ _).alloc (Nat.le_refl _) _).alloc (by simp) _⟩

set_option maxHeartbeats 1000000 in
theorem eqReqS_any (a : Option Addr) (a' : Option Addr) (l : List ReqD) (cap cap' : Nat) (w : World) (h : ReqsAt (Old w) w a l) (h' : ReqsAt (Old w) w a' l) :
    Calls Try.prog 79 #[.slice a l.length cap, .slice a' l.length cap'] w fun e w' => e = .returned (.bool true) ∧ Below w.heap.size w w' := by
  obtain ⟨hm, h⟩ := h
  obtain ⟨_, h'⟩ := h'
  unfold maxLen at hm
  go_enter Try.func79, Try.ntmps79
  go_wp2
  go_loopw [5] (fun i wr => ∃ k : Nat, k ≤ l.length ∧ i = .int .i64 k ∧ Below w.heap.size w wr) (fun i _ => l.length - (intOf i).toNat)
  case atStart => exact ⟨0, Nat.zero_le _, rfl, Below.refl _ _⟩
  case round =>
    rename World => wo
    obtain ⟨k, hk, rfl, hw⟩ := hrel
    by_cases hlt : k < l.length
    · rcases h with h | ⟨b, o, rfl, hSb, h⟩
      · subst h; simp at hlt
      rcases h' with h' | ⟨b', o', rfl, hSb', h'⟩
      · subst h'; simp at hlt
      have hq := h k hlt
      have hq' := h' k hlt
      clear h h'
      generalize l.getD k dReq = q at hq hq'
      obtain ⟨c0, c1, c2, _⟩ := hq
      rw [← hw.cell (p := ⟨b, _, none⟩) hSb] at c0 c1 c2
      obtain ⟨d0, d1, d2, _⟩ := hq'
      rw [← hw.cell (p := ⟨b', _, none⟩) hSb'] at d0 d1 d2
      have j0 : (0 : Int) ≤ (k : Int) := by omega
      have j1 : (k : Int) < (l.length : Int) := by omega
      have HW := hide hw
      clear hw
      have r_c0 := cell_regrown c0
      have r_c1 := cell_regrown c1
      have r_c2 := cell_regrown c2
      have r_d0 := cell_regrown d0
      have r_d1 := cell_regrown d1
      have r_d2 := cell_regrown d2
      have cC := hide (fun d os => Calls.regrown_of (eqReq_any q (grow (redrawn wo d) os)))
      go_wp2_with fail
      refine wp_region_quiet_below (by kernel_rfl) (by kernel_rfl) ?_
      repeat (quiet_step (exact unhide cC _ _))
      refine wpQuiet_nil ?_
      intro _ hw'
      obtain ⟨⟨dq, osq⟩, hw''⟩ := hw'
      subst hw''
      have HBE := hide ((unhide HW).trans ((below_regrown wo dq osq).mono (unhide HW).size))
      go_wp2_with fail
      go_roundw
      case rel => exact ⟨k + 1, by omega, by go_num, unhide HBE⟩
      case measure => simp [intOf]; omega
    · go_wp2_with fail
      go_ret
      exact ⟨rfl, hw⟩

set_option maxHeartbeats 1000000 in
theorem eqReqSS_any (a : Option Addr) (a' : Option Addr) (l : List (List ReqD)) (cap cap' : Nat) (w : World) (h : RowsAt (Old w) w a l) (h' : RowsAt (Old w) w a' l) :
    Calls Try.prog 78 #[.slice a l.length cap, .slice a' l.length cap'] w fun e w' => e = .returned (.bool true) ∧ Below w.heap.size w w' := by
  obtain ⟨hm, h⟩ := h
  obtain ⟨_, h'⟩ := h'
  unfold maxLen at hm
  go_enter Try.func78, Try.ntmps78
  go_wp2
  go_loopw [5] (fun i wr => ∃ k : Nat, k ≤ l.length ∧ i = .int .i64 k ∧ Below w.heap.size w wr) (fun i _ => l.length - (intOf i).toNat)
  case atStart => exact ⟨0, Nat.zero_le _, rfl, Below.refl _ _⟩
  case round =>
    rename World => wo
    obtain ⟨k, hk, rfl, hw⟩ := hrel
    by_cases hlt : k < l.length
    · rcases h with h | ⟨b, o, rfl, hSb, h⟩
      · subst h; simp at hlt
      rcases h' with h' | ⟨b', o', rfl, hSb', h'⟩
      · subst h'; simp at hlt
      have hq := h k hlt
      have hq' := h' k hlt
      clear h h'
      generalize l.getD k [] = q at hq hq'
      obtain ⟨e1, f1, c0, hr1⟩ := hq
      rw [← hw.cell (p := ⟨b, _, none⟩) hSb] at c0
      have HR1 := hide (hr1.on hw)
      obtain ⟨e2, f2, d0, hr2⟩ := hq'
      rw [← hw.cell (p := ⟨b', _, none⟩) hSb'] at d0
      have HR2 := hide (hr2.on hw)
      clear hr1 hr2
      have j0 : (0 : Int) ≤ (k : Int) := by omega
      have j1 : (k : Int) < (l.length : Int) := by omega
      have HW := hide hw
      clear hw
      have r_c0 := cell_regrown c0
      have r_d0 := cell_regrown d0
      have cC := hide (fun d os => Calls.regrown_of (eqReqS_any e1 e2 q f1 f2 (grow (redrawn wo d) os) ((unhide HR1).on (below_regrown wo d os)) ((unhide HR2).on (below_regrown wo d os))))
      go_wp2_with fail
      refine wp_region_quiet_below (by kernel_rfl) (by kernel_rfl) ?_
      repeat (quiet_step (exact unhide cC _ _))
      refine wpQuiet_nil ?_
      intro _ hw'
      obtain ⟨⟨dq, osq⟩, hw''⟩ := hw'
      subst hw''
      have HBE := hide ((unhide HW).trans ((below_regrown wo dq osq).mono (unhide HW).size))
      go_wp2_with fail
      go_roundw
      case rel => exact ⟨k + 1, by omega, by go_num, unhide HBE⟩
      case measure => simp [intOf]; omega
    · go_wp2_with fail
      go_ret
      exact ⟨rfl, hw⟩

set_option maxHeartbeats 1000000 in
theorem eqPack_any (p : PackD) (a1 : Option Addr) (c1 : Nat) (a2 : Option Addr) (c2 : Nat) (a3 : Option Addr) (c3 : Nat) (z1 : Option Addr) (d1 : Nat) (z2 : Option Addr) (d2 : Nat) (z3 : Option Addr) (d3 : Nat) (w : World)
    (h : PackVal (Old w) w a1 a2 a3 p) (h' : PackVal (Old w) w z1 z2 z3 p) :
    Calls Try.prog 53 #[.agg #[.string p.name, .int .i64 p.ver, .int .i64 p.size, .slice a1 p.deps.length c1, .slice a2 p.pres.length c2, .slice a3 p.bans.length c3], .agg #[.string p.name, .int .i64 p.ver, .int .i64 p.size, .slice z1 p.deps.length d1, .slice z2 p.pres.length d2, .slice z3 p.bans.length d3]] w fun e w' => e = .returned (.bool true) ∧ Below w.heap.size w w' := by
  have HV := hide h
  have HV' := hide h'
  clear h h'
  go_enter Try.func53, Try.ntmps53
  go_wp2_with fail
  have e0 : ∀ A B, Below w.heap.size w ((w.alloc A).alloc B) := fun A B => ((Below.refl _ _).alloc (Nat.le_refl _) _).alloc (by simp) _
  refine (eqReqSS_any a1 z1 p.deps c1 d1 _ ((unhide HV).deps.on (e0 _ _)) ((unhide HV').deps.on (e0 _ _))).mono ?_
  rintro e w1 ⟨rfl, hb⟩
  have x4 := hb.cell (p := ⟨w.heap.size, 4, none⟩) (by simp; omega)
  have x5 := hb.cell (p := ⟨w.heap.size, 5, none⟩) (by simp; omega)
  have y4 := hb.cell (p := ⟨w.heap.size + 1, 4, none⟩) (by simp)
  have y5 := hb.cell (p := ⟨w.heap.size + 1, 5, none⟩) (by simp)
  have hz := hb.size
  simp at x4 x5 y4 y5 hz
  have hb1 := (e0 _ _).trans (hb.mono (by simp; omega))
  have HB := hide hb1
  clear hb hb1 e0
  go_wp2_with fail
  refine (eqReqS_any a2 z2 p.pres c2 d2 _ ((unhide HV).pres.on (unhide HB)) ((unhide HV').pres.on (unhide HB))).mono ?_
  rintro e w2 ⟨rfl, hb⟩
  rw [← hb.cell (p := ⟨w.heap.size, _, none⟩) (by simp; omega)] at x5
  rw [← hb.cell (p := ⟨w.heap.size + 1, _, none⟩) (by simp; omega)] at y5
  have hb1 := (unhide HB).trans (hb.mono (unhide HB).size)
  clear HB x4 y4
  have HB := hide hb1
  clear hb hb1
  go_wp2_with fail
  refine (eqReqS_any a3 z3 p.bans c3 d3 _ ((unhide HV).bans.on (unhide HB)) ((unhide HV').bans.on (unhide HB))).mono ?_
  rintro e w3 ⟨rfl, hb⟩
  have hb1 := (unhide HB).trans (hb.mono (unhide HB).size)
  clear HB x5 y5
  have HB := hide hb1
  clear hb hb1
  go_wp2_with fail
  go_ret
  exact ⟨rfl, unhide HB⟩

set_option maxHeartbeats 1000000 in
theorem eqPackS_any (a : Option Addr) (a' : Option Addr) (l : List PackD) (cap cap' : Nat) (w : World) (h : PacksAt (Old w) w a l) (h' : PacksAt (Old w) w a' l) :
    Calls Try.prog 34 #[.slice a l.length cap, .slice a' l.length cap'] w fun e w' => e = .returned (.bool true) ∧ Below w.heap.size w w' := by
  obtain ⟨hm, h⟩ := h
  obtain ⟨_, h'⟩ := h'
  unfold maxLen at hm
  go_enter Try.func34, Try.ntmps34
  go_wp2
  go_loopw [5] (fun i wr => ∃ k : Nat, k ≤ l.length ∧ i = .int .i64 k ∧ Below w.heap.size w wr) (fun i _ => l.length - (intOf i).toNat)
  case atStart => exact ⟨0, Nat.zero_le _, rfl, Below.refl _ _⟩
  case round =>
    rename World => wo
    obtain ⟨k, hk, rfl, hw⟩ := hrel
    by_cases hlt : k < l.length
    · rcases h with h | ⟨b, o, rfl, hSb, h⟩
      · subst h; simp at hlt
      rcases h' with h' | ⟨b', o', rfl, hSb', h'⟩
      · subst h'; simp at hlt
      have hq := h k hlt
      have hq' := h' k hlt
      clear h h'
      generalize l.getD k dPack = q at hq hq'
      obtain ⟨a1, c1, a2, c2, a3, c3, ⟨p0, p1, p2, p3, p4, p5⟩, hv⟩ := hq
      rw [← hw.cell (p := ⟨b, _, none⟩) hSb] at p0 p1 p2 p3 p4 p5
      have HR1 := hide (hv.on hw)
      obtain ⟨z1, d1, z2, d2, z3, d3, ⟨q0, q1, q2, q3, q4, q5⟩, hv'⟩ := hq'
      rw [← hw.cell (p := ⟨b', _, none⟩) hSb'] at q0 q1 q2 q3 q4 q5
      have HR2 := hide (hv'.on hw)
      clear hv hv'
      have j0 : (0 : Int) ≤ (k : Int) := by omega
      have j1 : (k : Int) < (l.length : Int) := by omega
      have HW := hide hw
      clear hw
      have r_p0 := cell_regrown p0
      have r_p1 := cell_regrown p1
      have r_p2 := cell_regrown p2
      have r_p3 := cell_regrown p3
      have r_p4 := cell_regrown p4
      have r_p5 := cell_regrown p5
      have r_q0 := cell_regrown q0
      have r_q1 := cell_regrown q1
      have r_q2 := cell_regrown q2
      have r_q3 := cell_regrown q3
      have r_q4 := cell_regrown q4
      have r_q5 := cell_regrown q5
      have cC := hide (fun d os => Calls.regrown_of (eqPack_any q a1 c1 a2 c2 a3 c3 z1 d1 z2 d2 z3 d3 (grow (redrawn wo d) os) ((unhide HR1).on (below_regrown wo d os)) ((unhide HR2).on (below_regrown wo d os))))
      go_wp2_with fail
      refine wp_region_quiet_below (by kernel_rfl) (by kernel_rfl) ?_
      repeat (quiet_step (exact unhide cC _ _))
      refine wpQuiet_nil ?_
      intro _ hw'
      obtain ⟨⟨dq, osq⟩, hw''⟩ := hw'
      subst hw''
      have HBE := hide ((unhide HW).trans ((below_regrown wo dq osq).mono (unhide HW).size))
      go_wp2_with fail
      go_roundw
      case rel => exact ⟨k + 1, by omega, by go_num, unhide HBE⟩
      case measure => simp [intOf]; omega
    · go_wp2_with fail
      go_ret
      exact ⟨rfl, hw⟩

set_option maxHeartbeats 1000000 in
theorem eqRepo_any (a a' : Option Addr) (l : List PackD) (cap cap' : Nat) (room : Int) (w : World) (h : PacksAt (Old w) w a l) (h' : PacksAt (Old w) w a' l) :
    Calls Try.prog 12 #[.agg #[.slice a l.length cap, .int .i64 room], .agg #[.slice a' l.length cap', .int .i64 room]] w fun e w' => e = .returned (.bool true) ∧ Below w.heap.size w w' := by
  have HV := hide h
  have HV' := hide h'
  clear h h'
  go_enter Try.func12, Try.ntmps12
  go_wp2_with fail
  have e0 : ∀ A B, Below w.heap.size w ((w.alloc A).alloc B) := fun A B => ((Below.refl _ _).alloc (Nat.le_refl _) _).alloc (by simp) _
  refine (eqPackS_any a a' l cap cap' _ ((unhide HV).on (e0 _ _)) ((unhide HV').on (e0 _ _))).mono ?_
  rintro e w1 ⟨rfl, hb⟩
  have x1 := hb.cell (p := ⟨w.heap.size, 1, none⟩) (by simp; omega)
  have y1 := hb.cell (p := ⟨w.heap.size + 1, 1, none⟩) (by simp)
  simp at x1 y1
  have hb1 := (e0 _ _).trans (hb.mono (by simp; omega))
  have HB := hide hb1
  clear hb hb1 e0
  go_wp2_with fail
  go_ret
  exact ⟨rfl, unhide HB⟩
end Go.Proofs.Ythkhaemlcmkkjay
