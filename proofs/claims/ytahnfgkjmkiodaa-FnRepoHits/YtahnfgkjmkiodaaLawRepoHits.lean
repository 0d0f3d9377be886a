/- The walk of the law FnRepoHits: of every code it answers true, and writes nothing that was there. -/
import Derived.Test.YtahnfgkjmkiodaaDrawL
import Derived.Test.YtahnfgkjmkiodaaLd
namespace Go.Proofs.Ytahnfgkjmkiodaa
set_option linter.unusedVariables false
set_option linter.unusedSimpArgs false
open Go.RowKit Go.Deep

theorem hitsL_most (q : ReqD) (l : List PackD) (room : Int) : (hitsL q l room).length ≤ 8 := by
  unfold hitsL
  split
  · rename_i h
    have := hits_le q l l.length
    simp [repoB] at h
    omega
  · simp
theorem hits_prefix (q : ReqD) (l : List PackD) {k m : Nat} (h : k ≤ m) : ∃ r, hitsTo q l m = hitsTo q l k ++ r := by
  induction m with
  | zero => exact ⟨[], by rw [Nat.le_zero.1 h]; simp⟩
  | succ m ih =>
    by_cases e : k = m + 1
    · exact ⟨[], by rw [e]; simp⟩
    · obtain ⟨r, hr⟩ := ih (by omega)
      rw [hits_succ]
      split
      · exact ⟨r ++ [m], by rw [hr, List.append_assoc]⟩
      · exact ⟨r, hr⟩
theorem hits_at (q : ReqD) (l : List PackD) {k m : Nat} (h : k < m) (hf : fitsB q (l.getD k dPack) = true) : (hitsTo q l k).length < (hitsTo q l m).length ∧ (hitsTo q l m).getD (hitsTo q l k).length 0 = k := by
  obtain ⟨r, hr⟩ := hits_prefix q l (show k + 1 ≤ m by omega)
  rw [hits_succ, if_pos hf] at hr
  rw [hr]
  constructor
  · simp
  · simp [List.getD]

set_option maxHeartbeats 8000000 in
theorem hits_any (a : Option Addr) (n c : Nat) (w : World) (h : CodeAt w.heap.size w a n) (hc : n ≤ c) (hc2 : c ≤ maxLen) :
    Calls Try.prog 3 #[.slice a n c] w fun e w' => e = .returned (.bool true) ∧ Below w.heap.size w w' := by
  have hmx := hc2
  unfold maxLen at hmx
  by_cases hbig : 1048576 < n
  · have hb' : (1048576 : Int) < (n : Int) := by omega
    go_enter Try.func3, Try.ntmps3
    go_wp2_with fail
    go_ret
    exact ⟨rfl, Below.refl _ _⟩
  have hb' : ¬ (1048576 : Int) < (n : Int) := by omega
  go_enter Try.func3, Try.ntmps3
  go_wp2_with fail
  refine (DrawRepoHits_V a n c w h (by omega) hc hc2).mono ?_
  rintro e w1 ⟨⟨v, room, q, rfl, hV, hq⟩, b1⟩
  obtain ⟨va, vn, vc, rfl, _⟩ := SlBy.slice hV
  obtain ⟨l, rfl, hP⟩ := V2.packs hV
  have hz1 := b1.size
  have bA := ((Below.refl w1.heap.size w1).alloc (Nat.le_refl _) (.cells #[.slice va l.length vc, .int .i64 room] 25)).alloc (by simp) (.cells #[.string q.name, .int .i64 q.low, .int .i64 q.high] 27)
  have HP := hide (hP.on bA)
  have HB := hide (b1.trans (bA.mono hz1))
  clear hV hP b1 bA h
  go_wp2_with fail
  refine (specRepoHits_any q va l vc room _ (unhide HP)).mono ?_
  rintro e w2 ⟨⟨v5, rfl, I5⟩, b2⟩
  have N5 := hide (NumsAt.of_ints I5 (by have := hitsL_most q l room; omega))
  have hz2 := b2.size
  simp at hz2
  have HP2 := hide ((unhide HP).on b2)
  have HB2 := hide ((unhide HB).trans (b2.mono (unhide HB).size))
  have x0 := b2.cell (p := ⟨w1.heap.size, 0, none⟩) (by simp; omega)
  have x1 := b2.cell (p := ⟨w1.heap.size, 1, none⟩) (by simp; omega)
  have y0 := b2.cell (p := ⟨w1.heap.size + 1, 0, none⟩) (by simp)
  have y1 := b2.cell (p := ⟨w1.heap.size + 1, 1, none⟩) (by simp)
  have y2 := b2.cell (p := ⟨w1.heap.size + 1, 2, none⟩) (by simp)
  simp at x0 x1 y0 y1 y2
  clear HP HB b2 I5
  go_wp2_with fail
  refine (implRepoHits_any q va l vc room _ (unhide HP2)).mono ?_
  rintro e w3 ⟨⟨v6, rfl, I6⟩, b3⟩
  have N6 := hide (NumsAt.of_ints I6 (by have := hitsL_most q l room; omega))
  have N5' := hide ((unhide N5).on b3)
  have hz3 := b3.size
  have HP3 := hide ((unhide HP2).on b3)
  have HB3 := hide ((unhide HB2).trans (b3.mono (unhide HB2).size))
  rw [← b3.cell (p := ⟨w1.heap.size, _, none⟩) (by simp; omega)] at x0 x1
  rw [← b3.cell (p := ⟨w1.heap.size + 1, _, none⟩) (by simp; omega)] at y0 y1 y2
  clear HP2 HB2 b3 I6 N5
  go_wp2_with fail
  refine (ldInts_any v6 v5 _ _ (unhide N6) (unhide N5')).mono ?_
  rintro e w4 ⟨rfl, b4⟩
  have N6' := hide ((unhide N6).on b4)
  have N5 := hide ((unhide N5').on b4)
  have hz4 := b4.size
  have HP4 := hide ((unhide HP3).on b4)
  have HB4 := hide ((unhide HB3).trans (b4.mono (unhide HB3).size))
  rw [← b4.cell (p := ⟨w1.heap.size, _, none⟩) (by simp; omega)] at x0 x1
  rw [← b4.cell (p := ⟨w1.heap.size + 1, _, none⟩) (by simp; omega)] at y0 y1 y2
  clear HP3 HB3 b4 N5' N6
  go_wp2_with fail
  refine (specRepoOk_any va l vc room _ (unhide HP4)).mono ?_
  rintro e w5 ⟨rfl, b5⟩
  have N6 := hide ((unhide N6').on b5)
  have N5' := hide ((unhide N5).on b5)
  have hz5 := b5.size
  have HP5 := hide ((unhide HP4).on b5)
  have HB5 := hide ((unhide HB4).trans (b5.mono (unhide HB4).size))
  rw [← b5.cell (p := ⟨w1.heap.size, _, none⟩) (by simp; omega)] at x0 x1
  rw [← b5.cell (p := ⟨w1.heap.size + 1, _, none⟩) (by simp; omega)] at y0 y1 y2
  clear HP4 HB4 b5 N5 N6'
  cases hok : repoB ⟨l, room⟩ with
  | false =>
    go_wp2_with fail
    refine (ldInts_any v6 v5 _ _ (unhide N6) (unhide N5')).mono ?_
    rintro e w6 ⟨rfl, b6⟩
    have HB6 := hide ((unhide HB5).trans (b6.mono (unhide HB5).size))
    clear b6 HP5 HB5 N6 N5'
    go_wp2_with fail
    go_ret
    exact ⟨rfl, unhide HB6⟩
  | true =>
    obtain ⟨a6, c6, rfl, hl6, h6⟩ := unhide N6
    have hL : hitsL q l room = hitsTo q l l.length := by unfold hitsL; rw [if_pos hok]
    rw [hL] at h6 hl6 N6
    rw [hL]
    clear N6 N5'
    have hll : l.length ≤ 8 := by simp [repoB] at hok; omega
    have HOK := hide hok
    clear hok
    go_wp2_with fail
    go_loopw [7, 8] (fun m i wr => ∃ k : Nat, k ≤ l.length ∧ i = .int .i64 k ∧ m = .int .i64 ((hitsTo q l k).length : Nat) ∧ Drawn w5 wr) (fun _ i _ => l.length - (intOf i).toNat)
    case atStart => exact ⟨0, Nat.zero_le _, rfl, rfl, Drawn.refl _⟩
    case round =>
      rename World => wo
      obtain ⟨k, hk, rfl, rfl, hw⟩ := hrel
      by_cases hlt : k < l.length
      · rcases (unhide HP5).2 with hnil | ⟨b, o, rfl, hb, hpk⟩
        · rw [hnil] at hlt; simp at hlt
        obtain ⟨a1, c1, a2, c2, a3, c3, hcells, _⟩ := hpk k hlt
        have hf2 : k < l.length → fitsB q (l.getD k dPack) = true → (hitsTo q l k).length < (hitsTo q l l.length).length ∧ (hitsTo q l l.length).getD (hitsTo q l k).length 0 = k := fun h1 h2 => hits_at q l h1 h2
        have hsucc := hits_succ q l k
        have n0 := hcells.name
        have n1 := hcells.ver
        clear hcells hpk
        generalize l.getD k dPack = p at n0 n1 hf2 hsucc
        have hHk := hits_le q l k
        have X0 := x0
        have Y0 := y0
        have Y1 := y1
        have Y2 := y2
        rw [← hw.cell] at n0 n1 X0 Y0 Y1 Y2
        have j1 : (k : Int) < (l.length : Int) := by omega
        have fin : ∀ (f : Bool), fitsB q p = f → True := fun _ _ => trivial
        by_cases hfit : fitsB q p = true
        · obtain ⟨hn1, hn2⟩ := hf2 hlt hfit
          rw [if_pos hfit] at hsucc
          rcases h6 with h6 | ⟨b6, rfl, _, h6⟩
          · rw [h6] at hn1; simp at hn1
          have hc6 := h6 _ hn1
          rw [hn2, ← hw.cell] at hc6
          simp only [fitsB, Bool.and_eq_true, inB, decide_eq_true_eq] at hfit
          obtain ⟨hE, hlo, hhi⟩ := hfit
          have hm1 : ¬ ((hitsTo q l l.length).length : Int) ≤ ((hitsTo q l k).length : Int) := by omega
          have hm2 : ((hitsTo q l k).length : Int) < ((hitsTo q l l.length).length : Int) := by omega
          have hsl : (hitsTo q l (k + 1)).length = (hitsTo q l k).length + 1 := by rw [hsucc]; simp
          have hw8 := wr64 (((hitsTo q l k).length : Nat) + 1 : Int) (by omega)
          clear h6 hf2 hsucc
          have hsl' : ((hitsTo q l (k + 1)).length : Int) = ((hitsTo q l k).length : Int) + 1 := by omega
          go_wp2_with fail
          go_quiet (fail)
          go_wp2_with fail
          go_roundw
          case rel => exact ⟨k + 1, by omega, by go_num, by rw [hsl]; go_num, hw.more _⟩
          case measure => simp [intOf]; omega
        · rw [if_neg hfit] at hsucc
          clear hf2
          cases hE : (p.name.toList == q.name.toList) with
          | false =>
            go_wp2_with fail
            go_quiet (fail)
            go_wp2_with fail
            go_roundw
            case rel => exact ⟨k + 1, by omega, by go_num, by rw [hsucc], hw.more _⟩
            case measure => simp [intOf]; omega
          | true =>
            by_cases hlo : q.low ≤ p.ver
            · have hhi : ¬ p.ver ≤ q.high := fun hhi => hfit (by simp [fitsB, hE, inB, hlo, hhi])
              go_wp2_with fail
              go_quiet (fail)
              go_wp2_with fail
              go_roundw
              case rel => exact ⟨k + 1, by omega, by go_num, by rw [hsucc], hw.more _⟩
              case measure => simp [intOf]; omega
            · have hlb : decide (q.low ≤ p.ver) = false := by simp; omega
              have hlt2 : p.ver < q.low := by omega
              go_wp2_with fail
              go_quiet (fail)
              go_wp2_with fail
              go_roundw
              case rel => exact ⟨k + 1, by omega, by go_num, by rw [hsucc], hw.more _⟩
              case measure => simp [intOf]; omega
      · have : k = l.length := by omega
        subst this
        have j1 : ¬ ((l.length : Nat) : Int) < (l.length : Int) := by omega
        have X0 := x0
        rw [← hw.cell] at X0
        go_wp2_with fail
        go_ret
        exact ⟨by simp, (unhide HB5).trans ((hw.below _).mono (unhide HB5).size)⟩
end Go.Proofs.Ytahnfgkjmkiodaa
