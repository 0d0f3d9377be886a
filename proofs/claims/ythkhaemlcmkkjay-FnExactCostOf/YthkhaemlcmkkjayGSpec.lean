/- The specification's own functions on names and requests. The specification's own function on lists of requests. The specification's own RepoOk. -/
import Derived.Test.YthkhaemlcmkkjayGBase
import Derived.Deep.QuietTactic
import Derived.BigQuiet
import Derived.Lib.QuietBelow
namespace Go.Proofs.Ythkhaemlcmkkjay
set_option linter.unusedVariables false
set_option linter.unusedSimpArgs false
open Go.RowKit


set_option maxHeartbeats 400000 in
theorem l6In_any (n low high : Int) (w : World) :
    Calls Try.prog 43 #[.int .i64 n, .int .i64 low, .int .i64 high] w fun e w' => e = .returned (.bool (inB n low high)) ∧ w' = w := by
  by_cases h1 : low ≤ n
  · by_cases h2 : n ≤ high
    · go_enter Try.func43, Try.ntmps43
      go_wp2
      go_ret
      exact ⟨by simp [inB, h1, h2], rfl⟩
    · go_enter Try.func43, Try.ntmps43
      go_wp2
      go_ret
      exact ⟨by simp [inB, h1, h2], rfl⟩
  · have e : inB n low high = false := by simp [inB, h1]
    go_enter Try.func43, Try.ntmps43
    go_wp2
    go_ret
    exact ⟨by first | rfl | (rw [e]; rfl), rfl⟩

theorem letters_take (s : ByteArray) (k : Nat) (h : k < s.size) : lettersB (s.data.toList.take (k + 1)) = (lettersB (s.data.toList.take k) && letterB s[k]) := by
  have e : s.data.toList.take (k + 1) = s.data.toList.take k ++ [s[k]] := by rw [List.take_succ_eq_append_getElem (by simpa using h)]; rfl
  rw [e, lettersB, List.all_append]; simp [lettersB]

theorem letters_not (s : ByteArray) (k : Nat) (h : k < s.size) (hb : letterB s[k] = false) : lettersB s.data.toList = false := by
  rw [← Bool.not_eq_true]
  intro ht
  have := List.all_eq_true.1 ht s[k] (by
    have : s[k] = s.data.toList[k]'(by simpa using h) := rfl
    rw [this]; exact List.getElem_mem _)
  rw [hb] at this; exact absurd this (by decide)

set_option maxHeartbeats 400000 in
theorem l1Name_any (s : ByteArray) (w : World) (hs : s.size ≤ maxLen) :
    Calls Try.prog 67 #[.string s] w fun e w' => e = .returned (.bool (nameB s)) ∧ w' = w := by
  unfold maxLen at hs
  by_cases h1 : s.size = 0
  · have e : nameB s = false := by simp [nameB, inB]; omega
    go_enter Try.func67, Try.ntmps67
    go_wp2
    go_ret
    exact ⟨by first | rfl | (rw [e]; rfl), rfl⟩
  · by_cases h2 : (6 : Int) < (s.size : Int)
    · have e : nameB s = false := by simp [nameB, inB]; omega
      go_enter Try.func67, Try.ntmps67
      go_wp2
      go_ret
      exact ⟨by first | rfl | (rw [e]; rfl), rfl⟩
    · have hin : inB s.size 1 6 = true := by simp [inB]; omega
      go_enter Try.func67, Try.ntmps67
      go_wp2
      go_loop [3] (fun i => ∃ k : Nat, k ≤ s.size ∧ i = .int .i64 k ∧ Hid (lettersB (s.data.toList.take k) = true)) (fun i => s.size - (intOf i).toNat)
      case atStart => exact ⟨0, Nat.zero_le _, rfl, rfl⟩
      case round =>
        obtain ⟨k, hk, rfl, hl⟩ := hrel
        by_cases hlt : k < s.size
        · by_cases ha : (s[k].toNat : Int) < 97
          · have e : nameB s = false := by rw [nameB, letters_not s k hlt (by simp only [letterB]; simp; omega), Bool.and_false]
            go_wp2
            go_ret
            exact ⟨by first | rfl | (rw [e]; rfl), rfl⟩
          · by_cases hb : (122 : Int) < (s[k].toNat : Int)
            · have e : nameB s = false := by rw [nameB, letters_not s k hlt (by simp only [letterB]; simp; omega), Bool.and_false]
              go_wp2
              go_ret
              exact ⟨by first | rfl | (rw [e]; rfl), rfl⟩
            · go_wp2
              go_round
              case rel => exact ⟨k + 1, by omega, by go_num, by show _ = true; rw [letters_take s k hlt, hl.out]; simp only [letterB]; simp; omega⟩
              case measure => simp [intOf]; omega
        · go_wp2
          go_ret
          refine ⟨ret_bool ?_, rfl⟩
          have hl' := hl.out
          rw [List.take_of_length_le (by simp; omega)] at hl'
          rw [nameB, hl', hin]; rfl
end Go.Proofs.Ythkhaemlcmkkjay

namespace Go.Proofs.Ythkhaemlcmkkjay
set_option linter.unusedVariables false
set_option linter.unusedSimpArgs false
open Go.RowKit

def Drawn (w wr : World) : Prop := ∃ n, wr = w.drewN n
theorem Drawn.refl (w : World) : Drawn w w := ⟨0, rfl⟩
theorem Drawn.more {w wr : World} (h : Drawn w wr) (n : Nat) : Drawn w (wr.drewN n) := by
  obtain ⟨m, rfl⟩ := h; exact ⟨m + n, by simp⟩
theorem Drawn.cell {w wr : World} (h : Drawn w wr) (a : Addr) : wr.cell? a = w.cell? a := by
  obtain ⟨m, rfl⟩ := h; simp
theorem Drawn.below {w wr : World} (h : Drawn w wr) (B : Nat) : Below B w wr := by
  obtain ⟨m, rfl⟩ := h; exact ⟨rfl, rfl, rfl, Nat.le_refl _, fun _ _ => rfl⟩

theorem reqs_not {l : List ReqD} {k : Nat} (h : k < l.length) (hf : reqB (l.getD k dReq) = false) : reqsB l = false := by
  simp only [reqsB]
  have : l.all reqB = false := by
    rw [← List.take_append_drop (k + 1) l, List.all_append, all_take_succ (d := dReq) h, hf]; simp
  rw [this, Bool.and_false]

theorem reqB_spec (q : ReqD) : reqB q = (nameB q.name && inB q.low 0 99 && inB q.high q.low 99) := by
  rw [Bool.eq_iff_iff]
  simp only [reqB, inB, Bool.and_eq_true, decide_eq_true_eq]
  constructor
  · rintro ⟨⟨h, h1, h2⟩, h3, h4⟩; exact ⟨⟨h, by omega, by omega⟩, by omega, by omega⟩
  · rintro ⟨⟨h, h1, h2⟩, h3, h4⟩; exact ⟨⟨h, by omega, by omega⟩, by omega, by omega⟩

set_option maxHeartbeats 1000000 in
theorem l1Reqs_any (S : Nat → Nat → Prop) (a : Option Addr) (l : List ReqD) (cap : Nat) (w : World) (h : ReqsAt S w a l) :
    Calls Try.prog 68 #[.slice a l.length cap] w fun e w' => e = .returned (.bool (reqsB l)) ∧ Drawn w w' := by
  obtain ⟨hm, h⟩ := h
  unfold maxLen at hm
  by_cases h4 : (4 : Int) < (l.length : Int)
  · have e : reqsB l = false := by simp only [reqsB]; simp; omega
    go_enter Try.func68, Try.ntmps68
    go_wp2
    go_ret
    exact ⟨by first | rfl | (rw [e]; rfl), Drawn.refl _⟩
  · go_enter Try.func68, Try.ntmps68
    go_wp2
    go_loopw [3] (fun i wr => ∃ k : Nat, k ≤ l.length ∧ i = .int .i64 k ∧ Hid ((l.take k).all reqB = true) ∧ Drawn w wr) (fun i _ => l.length - (intOf i).toNat)
    case atStart => exact ⟨0, Nat.zero_le _, rfl, rfl, Drawn.refl _⟩
    case round =>
      obtain ⟨k, hk, rfl, hl, hw⟩ := hrel
      by_cases hlt : k < l.length
      · rcases h with h | ⟨b, o, rfl, hS, h⟩
        · subst h; simp at hlt
        · have hq := h k hlt
          clear h
          have e := @all_take_succ ReqD l dReq reqB k hlt
          have hno := @reqs_not l k hlt
          generalize l.getD k dReq = q at hq e hno
          obtain ⟨c0, c1, c2, hn⟩ := hq
          rw [← hw.cell] at c0 c1 c2
          have H := hide e
          clear e
          have HN := hide hno
          clear hno
          have hn' : ∀ W, Calls Try.prog 67 #[.string q.name] W fun e w' => e = .returned (.bool (nameB q.name)) ∧ w' = W := fun W => l1Name_any q.name W hn
          have H' := hide hn'
          clear hn'
          have hk0 : (0 : Int) ≤ (k : Int) := by omega
          have hk1 : (k : Int) < (l.length : Int) := by omega
          cases hv0 : nameB q.name with
          | false =>
            have hno : reqsB l = false := unhide HN (by simp [reqB_spec, hv0])
            go_wp2
            go_quiet (first | (go_at_call 67; exact Calls.quiet_of_same (unhide H' _)) | (go_at_call 43; exact Calls.quiet_of_same (l6In_any _ _ _ _)))
            go_wp2
            go_ret
            exact ⟨by first | rfl | (rw [hno]; rfl), hw.more _⟩
          | true =>
            cases hv1 : inB q.low 0 99 with
            | false =>
              have hno : reqsB l = false := unhide HN (by rw [reqB_spec, hv0, hv1]; rfl)
              go_wp2
              go_quiet (first | (go_at_call 67; exact Calls.quiet_of_same (unhide H' _)) | (go_at_call 43; exact Calls.quiet_of_same (l6In_any _ _ _ _)))
              go_wp2
              go_ret
              exact ⟨by first | rfl | (rw [hno]; rfl), hw.more _⟩
            | true =>
              cases hv2 : inB q.high q.low 99 with
              | false =>
                have hno : reqsB l = false := unhide HN (by rw [reqB_spec, hv0, hv1, hv2]; rfl)
                go_wp2
                go_quiet (first | (go_at_call 67; exact Calls.quiet_of_same (unhide H' _)) | (go_at_call 43; exact Calls.quiet_of_same (l6In_any _ _ _ _)))
                go_wp2
                go_ret
                exact ⟨by first | rfl | (rw [hno]; rfl), hw.more _⟩
              | true =>
                have hy : Hid (reqB q = true) := hide (by rw [reqB_spec, hv0, hv1, hv2]; rfl)
                go_wp2
                go_quiet (first | (go_at_call 67; exact Calls.quiet_of_same (unhide H' _)) | (go_at_call 43; exact Calls.quiet_of_same (l6In_any _ _ _ _)))
                go_wp2
                go_roundw
                case rel => exact ⟨k + 1, by omega, by go_num, by show _ = true; rw [unhide H, hl.out, hy.out]; rfl, hw.more _⟩
                case measure => simp [intOf]; omega
      · go_wp2
        go_ret
        refine ⟨ret_bool ?_, hw⟩
        have hl' := hl.out
        rw [List.take_of_length_le (by omega)] at hl'
        rw [reqsB, hl']; simp; omega
end Go.Proofs.Ythkhaemlcmkkjay

namespace Go.Proofs.Ythkhaemlcmkkjay
set_option linter.unusedVariables false
set_option linter.unusedSimpArgs false
open Go.RowKit

theorem head_cases (p : PackD) : nameB p.name = false ∨ (nameB p.name = true ∧ inB p.ver 0 99 = false) ∨ (nameB p.name = true ∧ inB p.ver 0 99 = true ∧ inB p.size 0 999 = false) ∨
    (nameB p.name = true ∧ inB p.ver 0 99 = true ∧ inB p.size 0 999 = true ∧ (4 : Int) < (p.deps.length : Int)) ∨
    (nameB p.name = true ∧ inB p.ver 0 99 = true ∧ inB p.size 0 999 = true ∧ (p.deps.length : Int) ≤ 4 ∧ reqsB p.pres = false) ∨
    (nameB p.name = true ∧ inB p.ver 0 99 = true ∧ inB p.size 0 999 = true ∧ (p.deps.length : Int) ≤ 4 ∧ reqsB p.pres = true ∧ reqsB p.bans = false) ∨
    (nameB p.name = true ∧ inB p.ver 0 99 = true ∧ inB p.size 0 999 = true ∧ (p.deps.length : Int) ≤ 4 ∧ reqsB p.pres = true ∧ reqsB p.bans = true) := by
  by_cases h : (p.deps.length : Int) ≤ 4
  · cases nameB p.name <;> cases inB p.ver 0 99 <;> cases inB p.size 0 999 <;> cases reqsB p.pres <;> cases reqsB p.bans <;> simp [h]
  · have h' : (4 : Int) < (p.deps.length : Int) := by omega
    cases nameB p.name <;> cases inB p.ver 0 99 <;> cases inB p.size 0 999 <;> simp [h']

theorem pack_not_row {p : PackD} {j : Nat} (h : j < p.deps.length) (hf : rowB (p.deps.getD j []) = false) : packB p = false := by
  have : p.deps.all rowB = false := by
    rw [← List.take_append_drop (j + 1) p.deps, List.all_append, all_take_succ (d := []) h, hf]; simp
  simp [packB, this]

theorem repo_not {packs : List PackD} {k : Nat} {room : Int} (h : k < packs.length) (hf : packB (packs.getD k dPack) = false) : repoB ⟨packs, room⟩ = false := by
  have : packs.all packB = false := by
    rw [← List.take_append_drop (k + 1) packs, List.all_append, all_take_succ (d := dPack) h, hf]; simp
  simp [repoB, this]

theorem asc_take {packs : List PackD} {k : Nat} (h : k < packs.length) (h0 : 0 < k) : ascB (packs.take (k + 1)) = (ascB (packs.take k) && aheadB (packs.getD (k - 1) dPack) (packs.getD k dPack)) := by
  have e1 : (packs.take (k + 1)).length - 1 = k - 1 + 1 := by rw [List.length_take]; omega
  have e2 : (packs.take k).length - 1 = k - 1 := by rw [List.length_take]; omega
  have g : ∀ m i, i < m → (packs.take m).getD i dPack = packs.getD i dPack := fun m i hi => by simp [List.getD, List.getElem?_take, hi]
  simp only [ascB, e1, e2, List.range_succ, List.all_append, List.all_cons, List.all_nil, Bool.and_true]
  rw [show k - 1 + 1 = k by omega, g (k + 1) (k - 1) (by omega), g (k + 1) k (by omega)]
  congr 1
  rw [Bool.eq_iff_iff, List.all_eq_true, List.all_eq_true]
  constructor
  · intro H i hi
    have := H i hi
    have hi' : i < k - 1 := by simpa using hi
    rwa [g (k + 1) i (by omega), g (k + 1) (i + 1) (by omega), ← g k i (by omega), ← g k (i + 1) (by omega)] at this
  · intro H i hi
    have := H i hi
    have hi' : i < k - 1 := by simpa using hi
    rwa [g (k + 1) i (by omega), g (k + 1) (i + 1) (by omega), ← g k i (by omega), ← g k (i + 1) (by omega)]

theorem asc_one (packs : List PackD) : ascB (packs.take (0 + 1)) = true := by
  simp only [ascB]
  have : (packs.take (0 + 1)).length - 1 = 0 := by rw [List.length_take]; omega
  rw [this]; rfl

theorem repo_not_asc {packs : List PackD} {k : Nat} {room : Int} (h : k < packs.length) (h0 : 0 < k) (hf : aheadB (packs.getD (k - 1) dPack) (packs.getD k dPack) = false) : repoB ⟨packs, room⟩ = false := by
  have : ascB packs = false := by
    rw [← Bool.not_eq_true]
    intro ht
    have := List.all_eq_true.1 ht (k - 1) (by simp; omega)
    rw [show k - 1 + 1 = k by omega, hf] at this
    exact absurd this (by decide)
  simp [repoB, this]

set_option maxHeartbeats 4000000 in
set_option maxRecDepth 100000 in
theorem specRepoOk_any (a : Option Addr) (packs : List PackD) (cap : Nat) (room : Int) (w : World) (h : PacksAt (Old w) w a packs) :
    Calls Try.prog 40 #[.agg #[.slice a packs.length cap, .int .i64 room]] w fun e w' => e = .returned (.bool (repoB ⟨packs, room⟩)) ∧ Below w.heap.size w w' := by
  obtain ⟨hm, h⟩ := h
  unfold maxLen at hm
  by_cases h8 : (8 : Int) < (packs.length : Int)
  · have e : repoB ⟨packs, room⟩ = false := by simp only [repoB]; simp; omega
    go_enter Try.func40, Try.ntmps40
    go_wp2
    go_ret
    exact ⟨by first | rfl | (rw [e]; rfl), (Below.refl _ _).alloc (Nat.le_refl _) _⟩
  · cases hr : inB room 0 999 with
    | false =>
      have e : repoB ⟨packs, room⟩ = false := by simp [repoB, hr]
      go_enter Try.func40, Try.ntmps40
      go_wp2_with (go_at_call 43; refine (l6In_any _ _ _ _).mono ?_; rintro e w' ⟨rfl, rfl⟩)
      go_ret
      exact ⟨by first | rfl | (rw [e]; rfl), (Below.refl _ _).alloc (Nat.le_refl _) _⟩
    | true =>
      go_enter Try.func40, Try.ntmps40
      go_wp2_with (go_at_call 43; refine (l6In_any _ _ _ _).mono ?_; rintro e w' ⟨rfl, rfl⟩)
      go_loopw [3] (fun i wr => ∃ k : Nat, k ≤ packs.length ∧ i = .int .i64 k ∧ Hid ((packs.take k).all packB = true ∧ ascB (packs.take k) = true) ∧ Below (w.heap.size + 1) (w.alloc (.cells #[.slice a packs.length cap, .int .i64 room] 31)) wr) (fun i _ => packs.length - (intOf i).toNat)
      case atStart => exact ⟨0, Nat.zero_le _, rfl, ⟨rfl, rfl⟩, Below.refl _ _⟩
      case round =>
        rename World => wo
        obtain ⟨k, hk, rfl, hl, hw⟩ := hrel
        have hb0 := hw.cell (p := ⟨w.heap.size, 0, none⟩) (by simp)
        have hb1 := hw.cell (p := ⟨w.heap.size, 1, none⟩) (by simp)
        simp at hb0 hb1
        have hsz := hw.size
        simp at hsz
        by_cases hlt : k < packs.length
        · rcases h with h | ⟨b, o, rfl, hS, h⟩
          · subst h; simp at hlt
          · have hq := h k hlt
            have hbw : Below w.heap.size w wo := ((Below.refl _ _).alloc (Nat.le_refl _) _).trans (hw.mono (by omega))
            have hbl : b < w.heap.size := hS
            have HT := hide (@all_take_succ PackD packs dPack packB k hlt)
            have HO := hide (@asc_take packs k hlt)
            have HN := hide (@repo_not packs k room hlt)
            have HNO := hide (@repo_not_asc packs k room hlt)
            have HP := hide (fun (h0 : 0 < k) => h (k - 1) (by omega))
            clear h
            generalize packs.getD (k - 1) dPack = p' at HO HNO HP
            generalize packs.getD k dPack = p at hq HT HO HN HNO
            obtain ⟨a1, c1, a2, c2, a3, c3, ⟨p0, p1, p2, p3, p4, p5⟩, hv⟩ := hq
            rw [← hbw.cell (p := ⟨b, _, none⟩) hbl] at p0 p1 p2 p3 p4 p5
            have hv' := hv.on hbw
            have HB := hide hbw
            have HV := hide hv'
            have hlen := hv'.len
            clear hbw hv hv'
            have H11 := hide (fun W => l1Name_any p.name W hlen)
            have H2 := hide (fun (o : Obj) c => l1Reqs_any (Old wo) a2 p.pres c (wo.alloc o) (HV.out.pres.stay (fun _ b hb => Below.heap_alloc _ _ _ hb)))
            have H3 := hide (fun (o : Obj) c n => l1Reqs_any (Old wo) a3 p.bans c ((wo.alloc o).drewN n) (HV.out.bans.stay (fun _ b hb => Below.heap_alloc _ _ _ hb)))
            clear hlen
            rcases head_cases p with v0 | ⟨v0, v1⟩ | ⟨v0, v1, v2⟩ | ⟨v0, v1, v2, v3⟩ | ⟨v0, v1, v2, v3, v4⟩ | ⟨v0, v1, v2, v3, v4, v5⟩ | ⟨v0, v1, v2, v3, v4, v5⟩
            · have e := unhide HN (by simp [packB, v0])
              go_wp2_with (first | (go_at_call 67; refine (unhide H11 _).mono ?_; rintro e w' ⟨rfl, rfl⟩) | (go_at_call 43; refine (l6In_any _ _ _ _).mono ?_; rintro e w' ⟨rfl, rfl⟩))
              go_ret
              exact ⟨by first | rfl | (rw [e]; rfl), (unhide HB).alloc (unhide HB).size _⟩
            · have e := unhide HN (by simp [packB, v0, v1])
              go_wp2_with (first | (go_at_call 67; refine (unhide H11 _).mono ?_; rintro e w' ⟨rfl, rfl⟩) | (go_at_call 43; refine (l6In_any _ _ _ _).mono ?_; rintro e w' ⟨rfl, rfl⟩))
              go_ret
              exact ⟨by first | rfl | (rw [e]; rfl), (unhide HB).alloc (unhide HB).size _⟩
            · have e := unhide HN (by simp [packB, v0, v1, v2])
              go_wp2_with (first | (go_at_call 67; refine (unhide H11 _).mono ?_; rintro e w' ⟨rfl, rfl⟩) | (go_at_call 43; refine (l6In_any _ _ _ _).mono ?_; rintro e w' ⟨rfl, rfl⟩))
              go_ret
              exact ⟨by first | rfl | (rw [e]; rfl), (unhide HB).alloc (unhide HB).size _⟩
            · have e := unhide HN (by simp [packB, v0, v1, v2, show ¬ p.deps.length ≤ 4 by omega])
              go_wp2_with (first | (go_at_call 67; refine (unhide H11 _).mono ?_; rintro e w' ⟨rfl, rfl⟩) | (go_at_call 43; refine (l6In_any _ _ _ _).mono ?_; rintro e w' ⟨rfl, rfl⟩))
              go_ret
              exact ⟨by first | rfl | (rw [e]; rfl), (unhide HB).alloc (unhide HB).size _⟩
            · have e := unhide HN (by simp [packB, v0, v1, v2, v4])
              go_wp2_with (first | (go_at_call 67; refine (unhide H11 _).mono ?_; rintro e w' ⟨rfl, rfl⟩) | (go_at_call 43; refine (l6In_any _ _ _ _).mono ?_; rintro e w' ⟨rfl, rfl⟩))
              refine (unhide H2 _ _).mono ?_
              rintro e w' ⟨rfl, n2, rfl⟩
              go_wp2_with fail
              go_ret
              exact ⟨by first | rfl | (rw [e]; rfl), below_drewN ((unhide HB).alloc (unhide HB).size _) _⟩
            · have e := unhide HN (by simp [packB, v0, v1, v2, v4, v5])
              go_wp2_with (first | (go_at_call 67; refine (unhide H11 _).mono ?_; rintro e w' ⟨rfl, rfl⟩) | (go_at_call 43; refine (l6In_any _ _ _ _).mono ?_; rintro e w' ⟨rfl, rfl⟩))
              refine (unhide H2 _ _).mono ?_
              rintro e w' ⟨rfl, n2, rfl⟩
              go_wp2_with fail
              refine (unhide H3 _ _ _).mono ?_
              rintro e w' ⟨rfl, n3, rfl⟩
              go_wp2_with fail
              go_ret
              exact ⟨by first | rfl | (rw [e]; rfl), below_drewN ((unhide HB).alloc (unhide HB).size _) _⟩
            · go_wp2_with (first | (go_at_call 67; refine (unhide H11 _).mono ?_; rintro e w' ⟨rfl, rfl⟩) | (go_at_call 43; refine (l6In_any _ _ _ _).mono ?_; rintro e w' ⟨rfl, rfl⟩))
              refine (unhide H2 _ _).mono ?_
              rintro e w' ⟨rfl, n2, rfl⟩
              go_wp2_with fail
              refine (unhide H3 _ _ _).mono ?_
              rintro e w' ⟨rfl, n3, rfl⟩
              go_wp2_with fail
              go_loopw [5] (fun i wi => ∃ j : Nat, j ≤ p.deps.length ∧ i = .int .i64 j ∧ Hid ((p.deps.take j).all rowB = true) ∧ Drawn (wo.alloc (.cells #[.string p.name, .int .i64 p.ver, .int .i64 p.size, .slice a1 p.deps.length c1, .slice a2 p.pres.length c2, .slice a3 p.bans.length c3] 62)) wi) (fun i _ => p.deps.length - (intOf i).toNat)
              case atStart => exact ⟨0, Nat.zero_le _, rfl, rfl, _, rfl⟩
              case round =>
                rename World => wi
                obtain ⟨j, hj, rfl, hjl, hwi⟩ := hrel
                have up : ∀ bb oo v, wo.cell? ⟨bb, oo, none⟩ = some v → wi.cell? ⟨bb, oo, none⟩ = some v := fun bb oo v hc => by
                  rw [hwi.cell]; exact (((Below.refl wo.heap.size wo).alloc (Nat.le_refl _) _).cell (block_lt_of_cell hc)).trans hc
                have x0 : wi.cell? ⟨wo.heap.size, 0, none⟩ = some (.string p.name) := by rw [hwi.cell]; simp
                have x1 : wi.cell? ⟨wo.heap.size, 1, none⟩ = some (.int .i64 p.ver) := by rw [hwi.cell]; simp
                have x3 : wi.cell? ⟨wo.heap.size, 3, none⟩ = some (.slice a1 p.deps.length c1) := by rw [hwi.cell]; simp
                have y0 := up _ _ _ hb0
                have UP := hide up
                clear up
                have hbe : Below w.heap.size w wi := (((unhide HB).alloc (unhide HB).size _).trans (hwi.below _))
                have HBE := hide hbe
                clear hbe
                have hj0 : (0 : Int) ≤ (j : Int) := by omega
                by_cases hjt : j < p.deps.length
                · have hj1 : (j : Int) < (p.deps.length : Int) := by omega
                  obtain ⟨_, hd | ⟨b1, o1, rfl, hS1, hrows⟩⟩ := (unhide HV).deps
                  · rw [hd] at hjt; simp at hjt
                  · obtain ⟨a', c', hc, hrow⟩ := hrows j hjt
                    have HR := hide (@all_take_succ (List ReqD) p.deps [] rowB j hjt)
                    have HRN := hide (@pack_not_row p j hjt)
                    generalize p.deps.getD j [] = row at hc hrow HR HRN
                    have hc' := unhide UP _ _ _ hc
                    have H12 := hide (l1Reqs_any (Old wo) a' row c' wi (hrow.stay (fun _ bb hb => by
                      have := (Below.block (((Below.refl wo.heap.size wo).alloc (Nat.le_refl _) (.cells #[.string p.name, .int .i64 p.ver, .int .i64 p.size, .slice (some ⟨b1, o1, none⟩) p.deps.length c1, .slice a2 p.pres.length c2, .slice a3 p.bans.length c3] 62)).trans (hwi.below _)) bb hb)
                      exact this)))
                    have hrl := hrow.1
                    unfold maxLen at hrl
                    clear hrows hc hrow
                    by_cases hz : row.length = 0
                    · have e := unhide HN (unhide HRN (by simp [rowB, hz]))
                      go_wp2_with fail
                      go_ret
                      exact ⟨by first | rfl | (rw [e]; rfl), unhide HBE⟩
                    · have hz' : ¬ (row.length : Int) < 1 := by omega
                      cases hv6 : reqsB row with
                      | false =>
                        have e := unhide HN (unhide HRN (by simp [rowB, hv6]))
                        go_wp2_with fail
                        refine (unhide H12).mono ?_
                        rintro e w' ⟨rfl, n4, rfl⟩
                        go_wp2_with fail
                        go_ret
                        exact ⟨by first | rfl | (rw [e]; rfl), below_drewN (unhide HBE) _⟩
                      | true =>
                        have hy : Hid (rowB row = true) := hide (by simp [rowB, hv6]; omega)
                        go_wp2_with fail
                        refine (unhide H12).mono ?_
                        rintro e w' ⟨rfl, n4, rfl⟩
                        go_wp2_with fail
                        go_roundw
                        case rel => exact ⟨j + 1, by omega, by go_num, by show _ = true; rw [unhide HR, hjl.out, hy.out]; rfl, hwi.more _⟩
                        case measure => simp [intOf]; omega
                · have hpk : Hid (packB p = true) := by
                    have := hjl.out
                    rw [List.take_of_length_le (by omega)] at this
                    exact hide (by simp [packB, v0, v1, v2, v4, v5, this]; omega)
                  by_cases hk0 : k = 0
                  · have hd : decide (0 < k) = false := by simp; omega
                    have HK := hide hk0
                    clear hk0
                    go_wp2_with fail
                    go_quiet (fail)
                    go_wp2
                    go_roundw
                    case rel =>
                      have hk0 := HK.out
                      subst hk0
                      exact ⟨0 + 1, by omega, by go_num, ⟨by rw [unhide HT, hl.out.1, hpk.out]; rfl, asc_one packs⟩, below_drewN ((hw.alloc (by omega) _).trans (hwi.below _)) _⟩
                    case measure => simp [intOf]; omega
                  · obtain ⟨z1, d1, z2, d2, z3, d3, ⟨q0, q1, _, _, _, _⟩, _⟩ := unhide HP (by omega)
                    obtain ⟨z, hz⟩ : ∃ z : Int, z = (k : Int) - 1 := ⟨_, rfl⟩
                    have hkn : z.toNat = k - 1 := by omega
                    rw [← hkn, ← (unhide HBE).cell (p := ⟨b, _, none⟩) hbl] at q0 q1
                    have hd : decide (0 < k) = true := by simp; omega
                    have hwr : IntKind.i64.wrap ((k : Int) - 1) = z := by rw [IntKind.wrap_i64]; omega
                    have i0 : (0 : Int) ≤ z := by omega
                    have i1 : z < (packs.length : Int) := by omega
                    clear hkn hz
                    cases hL : Op.bytesLess p'.name.toList p.name.toList with
                    | true =>
                      have hE : (p'.name.toList == p.name.toList) = false := by
                        rw [beq_eq_false_iff_ne]; intro hh; rw [hh, less_irrefl] at hL; exact absurd hL (by decide)
                      have hah : Hid (aheadB p' p = true) := hide (by simp [aheadB, hL])
                      go_wp2_with fail
                      go_quiet (fail)
                      go_wp2
                      go_roundw
                      case rel => exact ⟨k + 1, by omega, by go_num, ⟨by rw [unhide HT, hl.out.1, hpk.out]; rfl, by rw [unhide HO (by omega), hl.out.2, hah.out]; rfl⟩, below_drewN ((hw.alloc (by omega) _).trans (hwi.below _)) _⟩
                      case measure => simp [intOf]; omega
                    | false =>
                      cases hE : (p'.name.toList == p.name.toList) with
                      | false =>
                        have e := unhide HNO (by omega) (by simp only [aheadB, hL, hE]; rfl)
                        go_wp2_with fail
                        go_quiet (fail)
                        go_wp2
                        go_ret
                        exact ⟨by first | rfl | (rw [e]; rfl), below_drewN (unhide HBE) _⟩
                      | true =>
                        by_cases hV : p.ver ≤ p'.ver
                        · have e := unhide HNO (by omega) (by simp only [aheadB, hL, hE]; simp; omega)
                          go_wp2_with fail
                          go_quiet (fail)
                          go_wp2
                          go_ret
                          exact ⟨by first | rfl | (rw [e]; rfl), below_drewN (unhide HBE) _⟩
                        · have hah : Hid (aheadB p' p = true) := hide (by simp only [aheadB, hL, hE]; simp; omega)
                          have hV' : decide (p.ver ≤ p'.ver) = false := by simp; omega
                          go_wp2_with fail
                          go_quiet (fail)
                          go_wp2
                          go_roundw
                          case rel => exact ⟨k + 1, by omega, by go_num, ⟨by rw [unhide HT, hl.out.1, hpk.out]; rfl, by rw [unhide HO (by omega), hl.out.2, hah.out]; rfl⟩, below_drewN ((hw.alloc (by omega) _).trans (hwi.below _)) _⟩
                          case measure => simp [intOf]; omega
        · go_wp2
          go_ret
          refine ⟨ret_bool ?_, ((Below.refl _ _).alloc (Nat.le_refl _) _).trans (hw.mono (by omega))⟩
          have hl' := hl.out
          rw [List.take_of_length_le (by omega)] at hl'
          simp only [repoB, hl'.1, hl'.2, hr]; simp; omega
end Go.Proofs.Ythkhaemlcmkkjay
