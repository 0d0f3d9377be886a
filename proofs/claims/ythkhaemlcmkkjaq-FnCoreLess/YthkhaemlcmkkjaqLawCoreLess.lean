/- The walk of the law FnCoreLess: at every two codes it answers true. -/
import Derived.Test.YthkhaemlcmkkjaqDrawCo
import Derived.Test.YthkhaemlcmkkjaqSatE
import Derived.Test.YthkhaemlcmkkjaqLdLess
import Derived.Test.YthkhaemlcmkkjaqCoE
namespace Go.Proofs.Ythkhaemlcmkkjaq
set_option linter.unusedVariables false
set_option linter.unusedSimpArgs false
open Go.RowKit Go.Deep
theorem count_neg {vars : Int} {cs : List (List Int)} (h : smallB vars cs = false) : countZ vars cs = -1 := by
  unfold countZ
  rw [if_neg (by rw [h]; decide)]
theorem count_pos {vars : Int} {cs : List (List Int)} (h : smallB vars cs = true) : countZ vars cs = ((modelsN vars.toNat cs).length : Int) := by
  unfold countZ
  rw [if_pos h]
theorem count_sub {vars : Int} {cs cs' : List (List Int)} (h : smallB vars cs = true) (hl : cs'.length ≤ cs.length) (hc : ∀ c, c ∈ cs' → c ∈ cs) : countZ vars cs ≤ countZ vars cs' := by
  obtain ⟨h1, h2, h3⟩ := small_parts h
  have h' : smallB vars cs' = true := by
    unfold smallB
    rw [cnf_sub h1 hl hc, decide_eq_true h2, decide_eq_true (by omega : cs'.length ≤ 60)]
    rfl
  rw [count_pos h, count_pos h']
  unfold modelsN
  rw [← List.countP_eq_length_filter, ← List.countP_eq_length_filter]
  exact Int.ofNat_le.2 (List.countP_mono_left fun b _ hb => by
    unfold holdN at hb ⊢
    rw [List.all_eq_true] at hb ⊢
    exact fun c hcc => hb c (hc c hcc))

set_option maxRecDepth 100000 in
set_option maxHeartbeats 2000000 in
theorem coreless_law (a : Option Addr) (n c : Nat) (a2 : Option Addr) (n2 c2 : Nat) (w : World) (h : CodeAt w.heap.size w a n) (hc : n ≤ c) (hc2 : c ≤ maxLen) (hd : n2 ≤ c2) (hd2 : c2 ≤ maxLen) :
    Calls Try.prog 5 #[.slice a n c, .slice a2 n2 c2] w fun e w' => e = .returned (.bool true) ∧ Below w.heap.size w w' := by
  have hmx := hc2
  unfold maxLen at hmx
  have hmd := hd2
  unfold maxLen at hmd
  by_cases hbig : 1048576 < n
  · have hb' : (1048576 : Int) < (n : Int) := by omega
    go_enter Try.func5, Try.ntmps5
    go_wp2_with fail
    go_ret
    exact ⟨rfl, Below.refl _ _⟩
  have hb' : ¬ (1048576 : Int) < (n : Int) := by omega
  by_cases hbig2 : 1048576 < n2
  · have hb2' : (1048576 : Int) < (n2 : Int) := by omega
    go_enter Try.func5, Try.ntmps5
    go_wp2_with fail
    go_ret
    exact ⟨rfl, Below.refl _ _⟩
  have hb2' : ¬ (1048576 : Int) < (n2 : Int) := by omega
  go_enter Try.func5, Try.ntmps5
  go_wp2_with fail
  refine (DrawCoreCount_V a n c w h (by omega) hc hc2).mono ?_
  rintro e w1 ⟨⟨vars, va, vc, ls, rfl, hcls, hcap, hvn, hll⟩, b1⟩
  have HC1 := hide hcls
  have HB1 := hide b1
  clear hcls b1 h
  go_upto_region 4 with fail
  obtain ⟨w2, hw2⟩ : ∃ w2, w2 = w1.alloc (.cells #[.int .i64 vars, .slice va ls.length vc] 25) := ⟨_, rfl⟩
  rw [← hw2]
  have b2 : Below w1.heap.size w1 w2 := by rw [hw2]; exact (Below.refl _ _).alloc (Nat.le_refl _) _
  have x0 : w2.cell? ⟨w1.heap.size, 0, none⟩ = some (.int .i64 vars) := by rw [hw2]; simp
  have x1 : w2.cell? ⟨w1.heap.size, 1, none⟩ = some (.slice va ls.length vc) := by rw [hw2]; simp
  have hlt2 : w1.heap.size < w2.heap.size := by rw [hw2]; simp
  have HC2 := hide ((unhide HC1).on b2)
  have HB2 := hide ((unhide HB1).trans (b2.mono (unhide HB1).size))
  obtain ⟨z, hz⟩ : ∃ z, countZ vars ls = z := ⟨_, rfl⟩
  have HI := hide (fun x (hx : ClsAt x va ls) => implCoreCount_any vars va ls vc x hx)
  have HS := hide (fun x (hx : ClsAt x va ls) => specCoreCount_any vars va ls vc x hx)
  rw [hz] at HI HS
  have HZ := hide hz
  clear hw2 b2 HC1 HB1 hz
  go_wp2_with fail
  refine (unhide HI w2 (unhide HC2)).mono ?_
  rintro e w3 ⟨rfl, b3⟩
  have HC3 := hide ((unhide HC2).on b3)
  have HB3 := hide ((unhide HB2).trans (b3.mono (unhide HB2).size))
  have hlt3 : w1.heap.size < w3.heap.size := Nat.lt_of_lt_of_le hlt2 b3.size
  rw [← b3.cell (p := ⟨w1.heap.size, _, none⟩) hlt2] at x0 x1
  clear HC2 HB2 b3 hlt2
  cases hs : smallB vars ls with
  | false =>
    have hzn := count_neg hs
    rw [unhide HZ] at hzn
    subst hzn
    clear hs
    go_wp2_with fail
    refine (unhide HS w3 (unhide HC3)).mono ?_
    rintro e w4 ⟨rfl, b4⟩
    have HC4 := hide ((unhide HC3).on b4)
    have HB4 := hide ((unhide HB3).trans (b4.mono (unhide HB3).size))
    have hlt4 : w1.heap.size < w4.heap.size := Nat.lt_of_lt_of_le hlt3 b4.size
    rw [← b4.cell (p := ⟨w1.heap.size, _, none⟩) hlt3] at x0 x1
    clear HC3 HB3 b4 hlt3
    go_wp2_with fail
    refine (unhide HS w4 (unhide HC4)).mono ?_
    rintro e w5 ⟨rfl, b5⟩
    have HB5 := hide ((unhide HB4).trans (b5.mono (unhide HB4).size))
    have hlt5 : w1.heap.size < w5.heap.size := Nat.lt_of_lt_of_le hlt4 b5.size
    rw [← b5.cell (p := ⟨w1.heap.size, _, none⟩) hlt4] at x0 x1
    clear  HB4 b5 hlt4
    go_wp2_with fail
    go_ret
    exact ⟨rfl, unhide HB5⟩
  | true =>
    have hzp := count_pos hs
    rw [unhide HZ] at hzp
    have j0 : ¬ z < 0 := by omega
    have HSB := hide (fun (cs' : List (List Int)) (h1 : cs'.length ≤ ls.length) (h2 : ∀ c, c ∈ cs' → c ∈ ls) => count_sub hs h1 h2)
    rw [unhide HZ] at HSB
    clear hs hzp HZ
    go_wp2_with fail
    refine (unhide HS w3 (unhide HC3)).mono ?_
    rintro e w4 ⟨rfl, b4⟩
    have HC4 := hide ((unhide HC3).on b4)
    have HB4 := hide ((unhide HB3).trans (b4.mono (unhide HB3).size))
    have hlt4 : w1.heap.size < w4.heap.size := Nat.lt_of_lt_of_le hlt3 b4.size
    rw [← b4.cell (p := ⟨w1.heap.size, _, none⟩) hlt3] at x0 x1
    clear HC3 HB3 b4 hlt3
    have HL := hide (ldLess_any vars va ls vc hcap n2 (by unfold maxLen; omega) w4 (unhide HC4) (by omega))
    clear HI HS
    go_wp2_with fail
    refine (unhide HL).mono ?_
    rintro e w5 ⟨⟨a', cs', c', rfl, hcl, hlen, hmem⟩, b5⟩
    have hge := unhide HSB cs' hlen hmem
    have HF := hide (implCoreCount_any vars a' cs' c' w5 hcl)
    obtain ⟨z', hz'⟩ : ∃ z', countZ vars cs' = z' := ⟨_, rfl⟩
    rw [hz'] at HF hge
    clear HL HSB hcl hlen hmem hz'
    have HB5 := hide ((unhide HB4).trans (b5.mono (unhide HB4).size))
    have hlt5 : w1.heap.size < w5.heap.size := Nat.lt_of_lt_of_le hlt4 b5.size
    clear  HB4 b5 hlt4
    go_wp2_with fail
    refine (unhide HF).mono ?_
    rintro e w6 ⟨rfl, b6⟩
    clear HF
    have HB6 := hide ((unhide HB5).trans (b6.mono (unhide HB5).size))
    have hlt6 : w1.heap.size < w6.heap.size := Nat.lt_of_lt_of_le hlt5 b6.size
    clear  HB5 b6 hlt5
    go_wp2_with fail
    go_ret
    exact ⟨rfl, unhide HB6⟩
end Go.Proofs.Ythkhaemlcmkkjaq
