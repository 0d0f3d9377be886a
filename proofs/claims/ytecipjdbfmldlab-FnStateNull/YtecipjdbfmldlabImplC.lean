/- The program's own packOk, packsAscend and RepoOk. -/
import Derived.Test.YtecipjdbfmldlabImplB
import Derived.Test.YtecipjdbfmldlabSpecC
namespace Go.Proofs.Ytecipjdbfmldlab
set_option linter.unusedVariables false
set_option linter.unusedSimpArgs false
open Go.RowKit Go.Sort

set_option maxHeartbeats 2000000 in
theorem packOk_any (p : PackD) (a1 : Option Addr) (c1 : Nat) (a2 : Option Addr) (c2 : Nat) (a3 : Option Addr) (c3 : Nat) (w : World) (h : PackVal (Old w) w a1 a2 a3 p) :
    Calls Try.prog 52 #[.agg #[.string p.name, .int .i64 p.ver, .int .i64 p.size, .slice a1 p.deps.length c1, .slice a2 p.pres.length c2, .slice a3 p.bans.length c3]] w fun e w' => e = .returned (.bool (packB p)) ∧ Below w.heap.size w w' := by
  have H23 := hide (fun W => nameOk_any p.name W h.len)
  have HV := hide h
  clear h
  have hm := (unhide HV).deps.1
  unfold maxLen at hm
  go_enter Try.func52, Try.ntmps52
  go_wp2_with fail
  refine (unhide H23 _).mono ?_
  rintro e w1 ⟨rfl, hb⟩
  have hz := hb.size
  have x1 := hb.cell (p := ⟨w.heap.size, 1, none⟩) (by simp)
  have x2 := hb.cell (p := ⟨w.heap.size, 2, none⟩) (by simp)
  have x3 := hb.cell (p := ⟨w.heap.size, 3, none⟩) (by simp)
  have x4 := hb.cell (p := ⟨w.heap.size, 4, none⟩) (by simp)
  have x5 := hb.cell (p := ⟨w.heap.size, 5, none⟩) (by simp)
  simp at x1 x2 x3 x4 x5 hz
  have hb1 : Below w.heap.size w w1 := ((Below.refl w.heap.size w).alloc (Nat.le_refl _) _).trans (hb.mono (by simp))
  have HB := hide hb1
  clear hb hb1
  cases hv0 : nameB p.name with
  | false =>
    have e : packB p = false := by simp [packB, hv0]
    go_wp2_with fail
    go_ret
    exact ⟨by first | rfl | (rw [e]; rfl), unhide HB⟩
  | true =>
  cases hv1 : inB p.ver 0 99 with
  | false =>
    have e : packB p = false := by simp [packB, hv1]
    go_wp2_with (go_at_call 45; refine (within_any _ _ _ _).mono ?_; rintro e w' ⟨rfl, hww⟩; obtain rfl := hww.symm)
    go_ret
    exact ⟨by first | rfl | (rw [e]; rfl), unhide HB⟩
  | true =>
  cases hv2 : inB p.size 0 999 with
  | false =>
    have e : packB p = false := by simp [packB, hv2]
    go_wp2_with (go_at_call 45; refine (within_any _ _ _ _).mono ?_; rintro e w' ⟨rfl, hww⟩; obtain rfl := hww.symm)
    go_ret
    exact ⟨by first | rfl | (rw [e]; rfl), unhide HB⟩
  | true =>
  by_cases h4 : (p.deps.length : Int) ≤ 4
  case neg =>
    have e : packB p = false := by simp only [packB]; simp; omega
    go_wp2_with (go_at_call 45; refine (within_any _ _ _ _).mono ?_; rintro e w' ⟨rfl, hww⟩; obtain rfl := hww.symm)
    go_ret
    exact ⟨by first | rfl | (rw [e]; rfl), unhide HB⟩
  case pos =>
  go_wp2_with (go_at_call 45; refine (within_any _ _ _ _).mono ?_; rintro e w' ⟨rfl, hww⟩; obtain rfl := hww.symm)
  refine (allRow_any a1 p.deps _ _ ((unhide HV).deps.on (unhide HB))).mono ?_
  rintro e w2 ⟨rfl, hb⟩
  rw [← hb.cell (p := ⟨w.heap.size, _, none⟩) (by simp; omega)] at x4 x5
  have hz2 := hb.size
  have hb2 : Below w.heap.size w w2 := (unhide HB).trans (hb.mono (unhide HB).size)
  have HB2 := hide hb2
  clear hb hb2 HB
  cases hv3 : p.deps.all rowB with
  | false =>
    have e : packB p = false := by simp only [packB, hv3]; simp
    go_wp2_with fail
    go_ret
    exact ⟨by first | rfl | (rw [e]; rfl), unhide HB2⟩
  | true =>
  go_wp2_with fail
  refine (reqsOk_any a2 p.pres _ _ ((unhide HV).pres.on (unhide HB2))).mono ?_
  rintro e w3 ⟨rfl, hb⟩
  rw [← hb.cell (p := ⟨w.heap.size, _, none⟩) (by simp; omega)] at x5
  have hz3 := hb.size
  have hb3 : Below w.heap.size w w3 := (unhide HB2).trans (hb.mono (unhide HB2).size)
  have HB3 := hide hb3
  clear hb hb3 HB2
  cases hv4 : reqsB p.pres with
  | false =>
    have e : packB p = false := by simp only [packB, hv4]; simp
    go_wp2_with fail
    go_ret
    exact ⟨by first | rfl | (rw [e]; rfl), unhide HB3⟩
  | true =>
  go_wp2_with fail
  refine (reqsOk_any a3 p.bans _ _ ((unhide HV).bans.on (unhide HB3))).mono ?_
  rintro e w4 ⟨rfl, hb⟩
  have hb4 : Below w.heap.size w w4 := (unhide HB3).trans (hb.mono (unhide HB3).size)
  have HB4 := hide hb4
  clear hb hb4 HB3
  go_wp2_with fail
  go_ret
  refine ⟨ret_bool ?_, unhide HB4⟩
  have h4' : p.deps.length ≤ 4 := by omega
  simp only [packB, hv0, hv1, hv2, hv3, hv4, h4', decide_true, Bool.true_and]

set_option maxHeartbeats 1000000 in
theorem litPack_any (p : PackD) (a1 : Option Addr) (c1 : Nat) (a2 : Option Addr) (c2 : Nat) (a3 : Option Addr) (c3 : Nat) (g : Nat) (w : World) (h : PackVal (Old w) w a1 a2 a3 p)
    (hg : w.cell? ⟨g, 0, none⟩ = some (.func (.func 52) #[] #[])) :
    Calls Try.prog 68 #[.agg #[.string p.name, .int .i64 p.ver, .int .i64 p.size, .slice a1 p.deps.length c1, .slice a2 p.pres.length c2, .slice a3 p.bans.length c3], .pointer (some ⟨g, 0, none⟩)] w fun e w' => e = .returned (.bool (!packB p)) ∧ Below w.heap.size w w' := by
  have hgl := block_lt_of_cell hg
  have hg' : ∀ o, (w.alloc o).cell? ⟨g, 0, none⟩ = some (.func (.func 52) #[] #[]) := fun o => (((Below.refl w.heap.size w).alloc (Nat.le_refl _) o).cell hgl).trans hg
  have H := hide (fun (o : Obj) => packOk_any p a1 c1 a2 c2 a3 c3 (w.alloc o) (h.on ((Below.refl _ _).alloc (Nat.le_refl _) _)))
  clear h
  go_enter Try.func68, Try.ntmps68
  go_wp2_with fail
  refine (unhide H _).mono ?_
  rintro e w1 ⟨rfl, hb⟩
  go_wp2_with fail
  go_ret
  exact ⟨rfl, ((Below.refl _ _).alloc (Nat.le_refl _) _).trans (hb.mono (by simp))⟩

set_option maxHeartbeats 1000000 in
theorem searchPack_any (a : Option Addr) (l : List PackD) (cap g : Nat) (w : World) (h : PacksAt (Old w) w a l)
    (hg : w.cell? ⟨g, 0, none⟩ = some (.func (.func 52) #[] #[])) :
    Calls Try.prog 67 #[.slice a l.length cap, .int .i64 0, .func (.func 68) #[] #[.pointer (some ⟨g, 0, none⟩)]] w
      fun e w' => (∃ k : Nat, e = .returned (.int .i64 k) ∧ k ≤ l.length ∧ ((k == l.length) = l.all packB)) ∧ Below w.heap.size w w' := by
  obtain ⟨hm, h⟩ := h
  unfold maxLen at hm
  go_enter Try.func67, Try.ntmps67
  go_wp2
  go_loopw [1] (fun i wr => ∃ k : Nat, k ≤ l.length ∧ i = .int .i64 k ∧ Hid ((l.take k).all packB = true) ∧ Below w.heap.size w wr) (fun i _ => l.length - (intOf i).toNat)
  case atStart => exact ⟨0, Nat.zero_le _, rfl, rfl, Below.refl _ _⟩
  case round =>
    rename World => wo
    obtain ⟨k, hk, rfl, hl, hw⟩ := hrel
    by_cases hlt : k < l.length
    · rcases h with h | ⟨b, o, rfl, hSb, h⟩
      · subst h; simp at hlt
      · have hq := h k hlt
        clear h
        have H := hide (@all_take_succ (PackD) l dPack packB k hlt)
        have HN := hide (@all_not_take (PackD) l dPack packB k hlt)
        generalize l.getD k dPack = q at hq H HN
        obtain ⟨a1, c1, a2, c2, a3, c3, ⟨p0, p1, p2, p3, p4, p5⟩, hv⟩ := hq
        rw [← hw.cell (p := ⟨b, _, none⟩) hSb] at p0 p1 p2 p3 p4 p5
        have hv' := hide (hv.on hw)
        clear hv
        have hg' := (hw.cell (p := ⟨g, 0, none⟩) (block_lt_of_cell hg)).trans hg
        have HW := hide hw
        clear hw
        go_wp2_with fail
        refine (litPack_any q a1 c1 a2 c2 a3 c3 g _ (unhide hv') hg').mono ?_
        rintro e w1 ⟨rfl, hb⟩
        have hbe := (unhide HW).trans (hb.mono (unhide HW).size)
        have HBE := hide hbe
        clear hb hbe
        cases hv : packB q with
        | true =>
          go_wp2_with fail
          go_roundw
          case rel => exact ⟨k + 1, by omega, by go_num, by show _ = true; rw [unhide H, hl.out, hv]; rfl, unhide HBE⟩
          case measure => simp [intOf]; omega
        | false =>
          have e1 := unhide HN hv
          have HE := hide e1
          clear e1
          go_wp2_with fail
          go_ret
          refine ⟨⟨k, rfl, by omega, ?_⟩, unhide HBE⟩
          rw [unhide HE, beq_eq_false_iff_ne]; omega
    · go_wp2_with fail
      go_ret
      refine ⟨⟨k, rfl, by omega, ?_⟩, hw⟩
      rw [all_of_take hlt hl.out, beq_iff_eq]; omega

set_option maxHeartbeats 1000000 in
theorem allPack_any (a : Option Addr) (l : List PackD) (cap : Nat) (w : World) (h : PacksAt (Old w) w a l) :
    Calls Try.prog 51 #[.slice a l.length cap, .func (.func 52) #[] #[]] w fun e w' => e = .returned (.bool (l.all packB)) ∧ Below w.heap.size w w' := by
  have H := hide (fun (o : Obj) g hg => searchPack_any a l cap g (w.alloc o) (h.on ((Below.refl _ _).alloc (Nat.le_refl _) _)) hg)
  clear h
  go_enter Try.func51, Try.ntmps51
  go_wp2_with fail
  refine (unhide H _ _ ?_).mono ?_
  · simp
  · rintro e w1 ⟨⟨k, rfl, hk, he⟩, hb⟩
    have HE := hide he
    clear he
    go_wp2_with fail
    go_ret
    refine ⟨ret_bool ?_, ((Below.refl _ _).alloc (Nat.le_refl _) _).trans (hb.mono (by simp))⟩
    rw [← unhide HE, Bool.eq_iff_iff]; simp; omega

set_option maxHeartbeats 1000000 in
theorem packAhead_any (p q : PackD) (a1 : Option Addr) (c1 : Nat) (a2 : Option Addr) (c2 : Nat) (a3 : Option Addr) (c3 : Nat) (z1 : Option Addr) (d1 : Nat) (z2 : Option Addr) (d2 : Nat) (z3 : Option Addr) (d3 : Nat) (w : World) :
    Calls Try.prog 73 #[.agg #[.string p.name, .int .i64 p.ver, .int .i64 p.size, .slice a1 p.deps.length c1, .slice a2 p.pres.length c2, .slice a3 p.bans.length c3], .agg #[.string q.name, .int .i64 q.ver, .int .i64 q.size, .slice z1 q.deps.length d1, .slice z2 q.pres.length d2, .slice z3 q.bans.length d3]] w fun e w' => e = .returned (.bool (aheadB p q)) ∧ Below w.heap.size w w' := by
  cases hL : Op.bytesLess p.name.toList q.name.toList with
  | true =>
    have e : aheadB p q = true := by simp [aheadB, hL]
    go_enter Try.func73, Try.ntmps73
    go_wp2_with fail
    go_ret
    exact ⟨by first | rfl | (rw [e]; rfl), ((Below.refl _ _).alloc (Nat.le_refl _) _).alloc (by simp) _⟩
  | false =>
    cases hE : (p.name.toList == q.name.toList) with
    | false =>
      have e : aheadB p q = false := by simp only [aheadB, hL, hE]; rfl
      go_enter Try.func73, Try.ntmps73
      go_wp2_with fail
      go_ret
      exact ⟨by first | rfl | (rw [e]; rfl), ((Below.refl _ _).alloc (Nat.le_refl _) _).alloc (by simp) _⟩
    | true =>
      have HE := hide (show aheadB p q = decide (p.ver < q.ver) by simp only [aheadB, hL, hE]; simp)
      go_enter Try.func73, Try.ntmps73
      go_wp2_with fail
      go_ret
      exact ⟨ret_bool (unhide HE).symm, ((Below.refl _ _).alloc (Nat.le_refl _) _).alloc (by simp) _⟩
end Go.Proofs.Ytecipjdbfmldlab
