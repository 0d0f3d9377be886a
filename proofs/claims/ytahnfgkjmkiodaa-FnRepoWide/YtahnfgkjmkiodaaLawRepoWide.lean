/- The walk of the law FnRepoWide: of every code it answers true, and writes nothing that was there. -/
import Derived.Test.YtahnfgkjmkiodaaDrawL
import Derived.Test.YtahnfgkjmkiodaaLd
namespace Go.Proofs.Ytahnfgkjmkiodaa
set_option linter.unusedVariables false
set_option linter.unusedSimpArgs false
open Go.RowKit Go.Deep

theorem hitsL_le (q : ReqD) (l : List PackD) (room : Int) : (hitsL q l room).length ≤ 8 := by
  unfold hitsL
  split
  · rename_i h
    have := hits_le q l l.length
    simp [repoB] at h
    omega
  · simp
theorem hits_mem {q : ReqD} {l : List PackD} {n i : Nat} : i ∈ hitsTo q l n ↔ i < n ∧ fitsB q (l.getD i dPack) = true := by simp [hitsTo]
/-- What fits some versions fits all. -/
theorem hits_wide {q : ReqD} {l : List PackD} {room : Int} {i : Nat} (h : i ∈ hitsL q l room) : i ∈ hitsL ⟨q.name, 0, 99⟩ l room := by
  unfold hitsL at h ⊢
  split at h
  · rename_i hr
    rw [if_pos hr]
    rw [hits_mem] at h ⊢
    refine ⟨h.1, ?_⟩
    have hp : packB (l.getD i dPack) = true := by
      have hall : l.all packB = true := by simp [repoB] at hr; simpa using hr.1.2
      exact List.all_eq_true.1 hall _ (getD_mem h.1)
    have hf := h.2
    simp only [fitsB, Bool.and_eq_true] at hf ⊢
    refine ⟨hf.1, ?_⟩
    simp only [packB, Bool.and_eq_true] at hp
    exact hp.1.1.1.1.1.2
  · simp at h

set_option maxHeartbeats 4000000 in
theorem wide_any (a : Option Addr) (n c : Nat) (w : World) (h : CodeAt w.heap.size w a n) (hc : n ≤ c) (hc2 : c ≤ maxLen) :
    Calls Try.prog 5 #[.slice a n c] w fun e w' => e = .returned (.bool true) ∧ Below w.heap.size w w' := by
  have hmx := hc2
  unfold maxLen at hmx
  by_cases hbig : 1048576 < n
  · have hb' : (1048576 : Int) < (n : Int) := by omega
    go_enter Try.func5, Try.ntmps5
    go_wp2_with fail
    go_ret
    exact ⟨rfl, Below.refl _ _⟩
  have hb' : ¬ (1048576 : Int) < (n : Int) := by omega
  go_enter Try.func5, Try.ntmps5
  go_wp2_with fail
  refine (DrawRepoHits_V a n c w h (by omega) hc hc2).mono ?_
  rintro e w1 ⟨⟨v, room, q, rfl, hV, hq⟩, b1⟩
  obtain ⟨va, vn, vc, rfl, _⟩ := SlBy.slice hV
  obtain ⟨l, rfl, hP⟩ := V2.packs hV
  have hz1 := b1.size
  have bA := ((Below.refl w1.heap.size w1).alloc (Nat.le_refl _) (.cells #[.slice va l.length vc, .int .i64 room] 25)).alloc (by simp) (.cells #[.string q.name, .int .i64 q.low, .int .i64 q.high] 27)
  have HP := hide (hP.on bA)
  have HB := hide (b1.trans (bA.mono hz1))
  clear hV hP b1 bA h
  go_wp2_with fail
  refine (specRepoHits_any q va l vc room _ (unhide HP)).mono ?_
  rintro e w2 ⟨⟨v5, rfl, I5⟩, b2⟩
  have N5 := hide (NumsAt.of_ints I5 (by have := hitsL_le q l room; omega))
  have hz2 := b2.size
  simp at hz2
  have HP2 := hide ((unhide HP).on b2)
  have HB2 := hide ((unhide HB).trans (b2.mono (unhide HB).size))
  have x0 := b2.cell (p := ⟨w1.heap.size, 0, none⟩) (by simp; omega)
  have x1 := b2.cell (p := ⟨w1.heap.size, 1, none⟩) (by simp; omega)
  have y0 := b2.cell (p := ⟨w1.heap.size + 1, 0, none⟩) (by simp)
  have y1 := b2.cell (p := ⟨w1.heap.size + 1, 1, none⟩) (by simp)
  have y2 := b2.cell (p := ⟨w1.heap.size + 1, 2, none⟩) (by simp)
  simp at x0 x1 y0 y1 y2
  clear HP HB b2 I5
  go_wp2_with fail
  refine (implRepoHits_any q va l vc room _ (unhide HP2)).mono ?_
  rintro e w3 ⟨⟨v6, rfl, I6⟩, b3⟩
  have N6 := hide (NumsAt.of_ints I6 (by have := hitsL_le q l room; omega))
  have N5' := hide ((unhide N5).on b3)
  have hz3 := b3.size
  have HP3 := hide ((unhide HP2).on b3)
  have HB3 := hide ((unhide HB2).trans (b3.mono (unhide HB2).size))
  rw [← b3.cell (p := ⟨w1.heap.size, _, none⟩) (by simp; omega)] at x0 x1
  rw [← b3.cell (p := ⟨w1.heap.size + 1, _, none⟩) (by simp; omega)] at y0 y1 y2
  clear HP2 HB2 b3 I6 N5
  go_wp2_with fail
  refine (implRepoHits_any ⟨q.name, 0, 99⟩ va l vc room _ (unhide HP3)).mono ?_
  rintro e w4 ⟨⟨v7, rfl, I7⟩, b4⟩
  have N7 := hide (NumsAt.of_ints I7 (by have := hitsL_le ⟨q.name, 0, 99⟩ l room; omega))
  have N5 := hide ((unhide N5').on b4)
  have N6' := hide ((unhide N6).on b4)
  have HB4 := hide ((unhide HB3).trans (b4.mono (unhide HB3).size))
  clear HP3 HB3 b4 I7 N5' N6 x0 x1 y0 y1 y2
  go_wp2_with fail
  refine (ldInts_any v6 v5 _ _ (unhide N6') (unhide N5)).mono ?_
  rintro e w5 ⟨rfl, b5⟩
  have N6 := hide ((unhide N6').on b5)
  have N7' := hide ((unhide N7).on b5)
  have HB5 := hide ((unhide HB4).trans (b5.mono (unhide HB4).size))
  clear b5 N5 N6' N7 HB4
  obtain ⟨a6, c6, rfl, hl6, h6⟩ := unhide N6
  clear N6
  go_wp2_with fail
  go_loopw [8] (fun i wr => ∃ k : Nat, k ≤ (hitsL q l room).length ∧ i = .int .i64 k ∧ wr = w5) (fun i _ => (hitsL q l room).length - (intOf i).toNat)
  case atStart => exact ⟨0, Nat.zero_le _, rfl, rfl⟩
  case round =>
    rename World => wo
    obtain ⟨k, hk, rfl, rfl⟩ := hrel
    by_cases hlt : k < (hitsL q l room).length
    · rcases h6 with h6 | ⟨b, rfl, _, h6⟩
      · rw [h6] at hlt; simp at hlt
      have c0 := h6 k hlt
      have hmem := hits_wide (getD_mem (d := 0) hlt)
      clear h6
      generalize (hitsL q l room).getD k 0 = z at c0 hmem
      generalize hitsL ⟨q.name, 0, 99⟩ l room = L7 at hmem N7'
      have j1 : (k : Int) < ((hitsL q l room).length : Int) := by omega
      go_wp2_with fail
      refine (ldIn_any v7 _ z _ (unhide N7') hmem).mono ?_
      rintro e w6 ⟨rfl, rfl⟩
      go_wp2_with fail
      go_roundw
      case rel => exact ⟨k + 1, by omega, by go_num, by first | rfl | trivial⟩
      case measure => simp [intOf]; omega
    · have j1 : ¬ (k : Int) < ((hitsL q l room).length : Int) := by omega
      go_wp2_with fail
      go_ret
      exact ⟨rfl, unhide HB5⟩
end Go.Proofs.Ytahnfgkjmkiodaa
