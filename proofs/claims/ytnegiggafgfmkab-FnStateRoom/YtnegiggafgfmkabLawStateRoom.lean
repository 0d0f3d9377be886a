/- The walk of the law FnStateRoom: of every code and number of more room it answers true, and writes nothing that was there. -/
import Derived.Test.YtnegiggafgfmkabGDrawT
import Derived.Test.YtnegiggafgfmkabLdRoom
namespace Go.Proofs.Ytnegiggafgfmkab
set_option linter.unusedVariables false
set_option linter.unusedSimpArgs false
open Go.RowKit Go.Deep

theorem ok_room {l : List PackD} {room room2 : Int} {set : List Int} (h : okZ l room set = true) (h1 : room ≤ room2) (h2 : room2 ≤ 999) : okZ l room2 set = true := by
  unfold okZ formB repoB healthB inB at h ⊢
  simp only [Bool.and_eq_true, decide_eq_true_eq] at h ⊢
  obtain ⟨⟨ha, ⟨⟨hb, hc, hd⟩, he⟩, hf⟩, hg, hh⟩ := h
  exact ⟨⟨ha, ⟨⟨hb, by omega, h2⟩, he⟩, hf⟩, by omega, hh⟩
theorem ok_rooms {l : List PackD} {room : Int} {set : List Int} (h : okZ l room set = true) : 0 ≤ room ∧ room ≤ 999 := by
  unfold okZ formB repoB inB at h
  simp only [Bool.and_eq_true, decide_eq_true_eq] at h
  exact h.1.2.1.1.2

set_option maxRecDepth 100000 in
set_option maxHeartbeats 8000000 in
theorem room_any (a : Option Addr) (n c : Nat) (a2 : Option Addr) (n2 c2 : Nat) (w : World) (h : CodeAt w.heap.size w a n) (hc : n ≤ c) (hc2 : c ≤ maxLen) (hd : n2 ≤ c2) (hd2 : c2 ≤ maxLen) :
    Calls Try.prog 6 #[.slice a n c, .slice a2 n2 c2] w fun e w' => e = .returned (.bool true) ∧ Below w.heap.size w w' := by
  have hmx := hc2
  unfold maxLen at hmx
  have hmd := hd2
  unfold maxLen at hmd
  by_cases hbig : 1048576 < n
  · have hb' : (1048576 : Int) < (n : Int) := by omega
    go_enter Try.func6, Try.ntmps6
    go_wp2_with fail
    go_ret
    exact ⟨rfl, Below.refl _ _⟩
  have hb' : ¬ (1048576 : Int) < (n : Int) := by omega
  by_cases hbig2 : 1048576 < n2
  · have hb2' : (1048576 : Int) < (n2 : Int) := by omega
    go_enter Try.func6, Try.ntmps6
    go_wp2_with fail
    go_ret
    exact ⟨rfl, Below.refl _ _⟩
  have hb2' : ¬ (1048576 : Int) < (n2 : Int) := by omega
  go_enter Try.func6, Try.ntmps6
  go_wp2_with fail
  refine (DrawStateOk_V a n c w h (by omega) hc hc2).mono ?_
  rintro e w1 ⟨⟨v, room, u, rfl, hV, set, hrow, hsl⟩, b1⟩
  obtain ⟨va, vn, vc, rfl, _⟩ := SlBy.slice hV
  obtain ⟨l, rfl, hP⟩ := V2.packs hV
  obtain ⟨sa, sc, hu, hset⟩ := RowI.set hrow (by omega)
  subst hu
  have HP1 := hide hP
  have HS1 := hide hset
  have HB1 := hide b1
  clear hV hrow hP hset b1 h
  go_upto_region 4 with fail
  obtain ⟨w2, hw2⟩ : ∃ w2, w2 = w1.alloc (.cells #[.slice va l.length vc, .int .i64 room] 25) := ⟨_, rfl⟩
  rw [← hw2]
  have b2 : Below w1.heap.size w1 w2 := by rw [hw2]; exact (Below.refl _ _).alloc (Nat.le_refl _) _
  have x0 : w2.cell? ⟨w1.heap.size, 0, none⟩ = some (.slice va l.length vc) := by rw [hw2]; simp
  have x1 : w2.cell? ⟨w1.heap.size, 1, none⟩ = some (.int .i64 room) := by rw [hw2]; simp
  have hlt2 : w1.heap.size < w2.heap.size := by rw [hw2]; simp
  have HP2 := hide ((unhide HP1).on b2)
  have HS2 := hide ((unhide HS1).on b2)
  have HB2 := hide ((unhide HB1).trans (b2.mono (unhide HB1).size))
  clear hw2 b2 HP1 HS1 HB1
  go_wp2_with fail
  refine (implStateOk_any va l vc room sa set sc w2 (unhide HP2) (unhide HS2)).mono ?_
  rintro e w3 ⟨rfl, b3⟩
  have HP3 := hide ((unhide HP2).on b3)
  have HS3 := hide ((unhide HS2).on b3)
  have HB3 := hide ((unhide HB2).trans (b3.mono (unhide HB2).size))
  have hlt3 : w1.heap.size < w3.heap.size := Nat.lt_of_lt_of_le hlt2 b3.size
  rw [← b3.cell (p := ⟨w1.heap.size, _, none⟩) hlt2] at x0 x1
  clear HP2 HS2 HB2 b3 hlt2
  go_wp2_with fail
  refine (specStateOk_any va l vc room sa set sc w3 (unhide HP3) (unhide HS3)).mono ?_
  rintro e w4 ⟨rfl, b4⟩
  have HP4 := hide ((unhide HP3).on b4)
  have HS4 := hide ((unhide HS3).on b4)
  have HB4 := hide ((unhide HB3).trans (b4.mono (unhide HB3).size))
  have hlt4 : w1.heap.size < w4.heap.size := Nat.lt_of_lt_of_le hlt3 b4.size
  rw [← b4.cell (p := ⟨w1.heap.size, _, none⟩) hlt3] at x0 x1
  clear HP3 HS3 HB3 b4 hlt3
  cases hok : okZ l room set with
  | false =>
    go_wp2_with fail
    refine (specStateOk_any va l vc room sa set sc w4 (unhide HP4) (unhide HS4)).mono ?_
    rintro e w5 ⟨rfl, b5⟩
    have HP5 := hide ((unhide HP4).on b5)
    have HS5 := hide ((unhide HS4).on b5)
    have HB5 := hide ((unhide HB4).trans (b5.mono (unhide HB4).size))
    have hlt5 : w1.heap.size < w5.heap.size := Nat.lt_of_lt_of_le hlt4 b5.size
    rw [← b5.cell (p := ⟨w1.heap.size, _, none⟩) hlt4] at x0 x1
    clear HP4 HS4 HB4 b5 hlt4
    rw [hok]
    clear hok
    go_wp2_with fail
    go_ret
    exact ⟨rfl, unhide HB5⟩
  | true =>
    obtain ⟨hr0, hr1⟩ := ok_rooms hok
    have hmod : Int.tmod (n2 : Int) 50 = ((n2 % 50 : Nat) : Int) := by rw [Int.tmod_eq_emod_of_nonneg (by omega)]; omega
    have hm1 : (0 : Int) ≤ ((n2 % 50 : Nat) : Int) := by omega
    have hm2 : ((n2 % 50 : Nat) : Int) ≤ 999 := by omega
    have HOK := hide hok
    clear hok
    generalize ((n2 % 50 : Nat) : Int) = more at hmod hm1 hm2
    have HZ := hide (roomZ_le hr1 hm1)
    have HCR := hide (ldRoom_any (.slice va l.length vc) room more hr0 hr1 hm1 hm2 w4 ⟨_, _, _, rfl⟩)
    clear hr0 hr1 hm1 hm2
    go_wp2_with fail
    refine (unhide HCR).mono ?_
    rintro e w5 ⟨rfl, b5⟩
    have HOK2 := hide (ok_room (unhide HOK) (unhide HZ).1 (unhide HZ).2)
    generalize roomZ room more = room2 at HOK2
    have HCS := hide (implStateOk_any va l vc room2 sa set sc w5 ((unhide HP4).on b5) ((unhide HS4).on b5))
    have HB5 := hide ((unhide HB4).trans (b5.mono (unhide HB4).size))
    clear HCR HP4 HS4 HB4 b5 HOK HZ
    go_wp2_with fail
    refine (unhide HCS).mono ?_
    rintro e w6 ⟨rfl, b6⟩
    rw [unhide HOK2]
    have HB6 := hide ((unhide HB5).trans (b6.mono (unhide HB5).size))
    clear HOK2 HCS b6 HB5
    go_wp2_with fail
    go_ret
    exact ⟨rfl, unhide HB6⟩
end Go.Proofs.Ytnegiggafgfmkab
