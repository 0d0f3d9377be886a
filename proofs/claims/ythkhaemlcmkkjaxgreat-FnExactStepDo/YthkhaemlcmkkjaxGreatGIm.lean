/- The program's StepDo. The program's StepFrom. -/
import Derived.Test.YthkhaemlcmkkjaxGreatDoneA
import Derived.Test.YthkhaemlcmkkjaxGreatGPd
import Derived.Test.YthkhaemlcmkkjaxGreatDoO
import Derived.Test.YthkhaemlcmkkjaxGreatGMw
namespace Go.Proofs.YthkhaemlcmkkjaxGreat
set_option linter.unusedVariables false
set_option linter.unusedSimpArgs false
open Go.RowKit Go.Deep

set_option maxRecDepth 100000 in
set_option maxHeartbeats 4000000 in
theorem implStepDo_any (a : Option Addr) (l : List PackD) (cap : Nat) (room : Int) (sa : Option Addr) (set : List Int) (sc : Nat) (s : StepD) (w : World) (h : PacksAt (Old w) w a l) (hs : SetAt w sa set) :
    Calls Tryz.prog 12 #[.agg #[.slice a l.length cap, .int .i64 room], .slice sa set.length sc, .agg #[.int .i64 s.kind, .int .i64 s.inn, .int .i64 s.out]] w fun e w' => DoOut w.heap.size w' (implDo l room set s) e ∧ Below w.heap.size w w' := by
  have b1 := ((Below.refl w.heap.size w).alloc (Nat.le_refl _) (.cells #[.slice a l.length cap, .int .i64 room] 33)).alloc (by simp) (.cells #[.int .i64 s.kind, .int .i64 s.inn, .int .i64 s.out] 36)
  have HC := hide (inHealth_any a l cap room sa set sc _ (h.on b1) (hs.on b1))
  clear h hs
  go_enter Tryz.func12, Tryz.ntmps12
  go_wp2_with fail
  refine (unhide HC).mono ?_
  rintro e w2 ⟨⟨xa, xn, xc, ro, mp, ya, yn, yc, n, rfl, hst⟩, b2⟩
  have z2 := b2.size
  simp at z2
  have s0 := b2.cell (p := ⟨w.heap.size + 1, 0, none⟩) (by simp)
  have s1 := b2.cell (p := ⟨w.heap.size + 1, 1, none⟩) (by simp)
  have s2 := b2.cell (p := ⟨w.heap.size + 1, 2, none⟩) (by simp)
  simp at s0 s1 s2
  have HB2 := hide (b1.trans (b2.mono (by simp; omega)))
  clear HC b2 b1
  cases hok : okZ l room set with
  | false =>
    have HE := hide (show implDo l room set s = none by unfold implDo; rw [hok]; rfl)
    clear hst hok
    go_wp2_with fail
    exact bodyPost_ret (v := .tuple #[.slice none 0 0, .bool false]) (by simp [results, Tryz.results12, go_sem]) rfl ⟨DoOut.none _ _ (unhide HE), (unhide HB2).alloc (unhide HB2).size _⟩
  | true =>
    obtain ⟨hn, hstk⟩ := hst hok
    subst hn
    have hf := okz_form hok
    have hsm := setBits_small hf
    have hpl : ∀ p ∈ placesTo (setBits set) 8, p < l.length := by rw [set_places hf]; exact set_lt hf
    have hokl := form_ok hf
    have h8 := form_l8 hf
    have HE := hide (show implDo l room set s = match (movesL l).find? (fun m => eqS m.step s) with
      | none => none
      | some m => if allowsB l room (setBits set) m then some (intsOf (placesTo (behindN (setBits set) m) 8)) else none by unfold implDo; rw [hok]; rfl)
    have HD := hide (fun (o : Obj) => done_any l room _ (setBits set) s hsm hpl hokl (fun m hm => moves_within h8 hm) (w2.alloc o) (hstk.on ((Below.refl _ _).alloc (Nat.le_refl _) _)))
    have HBL : Hid (∀ m ∈ movesL l, behindN (setBits set) m < 65536) := fun m hm => behindN_lt hsm (within_fine (moves_within h8 hm) h8)
    unfold doneV at HD
    clear hst hstk hok hf hsm hpl hokl h8
    have hlt : w.heap.size + 1 < w2.heap.size := by omega
    have HFD : Hid (∀ m, (movesL l).find? (fun m => eqS m.step s) = some m → m ∈ movesL l) := fun m hm => List.mem_of_find?_eq_some hm
    generalize (movesL l).find? (fun m => eqS m.step s) = fd at HE HD HFD
    generalize setBits set = bits at HE HD HBL
    go_wp2_with fail
    refine (unhide HD _).mono ?_
    rintro e w3 ⟨rfl, b3⟩
    have hz3 := b3.size
    simp at hz3
    have HB3 := hide (((unhide HB2).alloc (unhide HB2).size _).trans (b3.mono (by simp; omega)))
    clear b3 HD HB2 s0 s1 s2
    have hz3' : w.heap.size ≤ w3.heap.size := (unhide HB3).size
    cases fd with
    | none =>
      have HE2 := hide (show implDo l room set s = none from unhide HE)
      clear HE HFD HBL
      go_wp2_with fail
      exact bodyPost_ret (v := .tuple #[.slice none 0 0, .bool false]) (by simp [results, Tryz.results12, go_sem]) rfl ⟨DoOut.none _ _ (unhide HE2), unhide HB3⟩
    | some m =>
      have hm := unhide HFD m rfl
      have hbl := unhide HBL m hm
      clear HFD HBL hm
      simp only at HE ⊢
      cases hal : allowsB l room bits m with
      | false =>
        rw [hal] at HE
        have HE2 := hide (show implDo l room set s = none from unhide HE)
        clear HE
        simp only [Bool.false_eq_true, if_false]
        go_wp2_with fail
        exact bodyPost_ret (v := .tuple #[.slice none 0 0, .bool false]) (by simp [results, Tryz.results12, go_sem]) rfl ⟨DoOut.none _ _ (unhide HE2), unhide HB3⟩
      | true =>
        rw [hal] at HE
        have HE2 := hide (show implDo l room set s = some (intsOf (placesTo (behindN bits m) 8)) from unhide HE)
        clear HE
        simp only [if_true]
        generalize behindN bits m = bh at HE2 hbl
        have HPL := hide (places_any bh hbl w3)
        go_wp2_with fail
        refine (unhide HPL).mono ?_
        rintro e w4 ⟨⟨v, rfl, hrow⟩, b4⟩
        have HB4 := hide ((unhide HB3).trans (b4.mono hz3'))
        have HRW := hide (row_down hrow hz3')
        obtain ⟨qa, qc, hq⟩ : ∃ qa qc, v = .slice qa (placesTo bh 8).length qc := by
          rcases hrow.2 with ⟨hv, h0⟩ | ⟨g, cap, cur, hv, _⟩
          · exact ⟨none, 0, by rw [hv, h0]⟩
          · exact ⟨_, _, hv⟩
        subst hq
        clear hrow b4 HPL HB3
        go_wp2_with fail
        refine bodyPost_ret (v := .tuple #[.slice qa (placesTo bh 8).length qc, .bool true]) (by simp [results, Tryz.results12, go_sem]) rfl ⟨⟨_, by rw [unhide HE2]; rfl, ?_⟩, unhide HB4⟩
        rw [unhide HE2]
        show World.ownsRow _ _ _ _ _ _ _
        rw [Option.getD_some, ints_nat]
        have hl : (intsOf (placesTo bh 8)).length = (placesTo bh 8).length := by unfold intsOf; simp
        rw [hl]
        exact unhide HRW
end Go.Proofs.YthkhaemlcmkkjaxGreat

namespace Go.Proofs.YthkhaemlcmkkjaxGreat
set_option linter.unusedVariables false
set_option linter.unusedSimpArgs false
open Go.RowKit Go.Deep

end Go.Proofs.YthkhaemlcmkkjaxGreat
