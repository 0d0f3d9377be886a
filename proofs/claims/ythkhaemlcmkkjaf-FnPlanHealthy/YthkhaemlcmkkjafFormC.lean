/- The program's StateOk. -/
import Derived.Test.YthkhaemlcmkkjafGForm
import Derived.Test.YthkhaemlcmkkjafGSv
namespace Go.Proofs.Ythkhaemlcmkkjaf
set_option linter.unusedVariables false
set_option linter.unusedSimpArgs false
open Go.RowKit Go.Deep

set_option maxHeartbeats 2000000 in
theorem implStateOk_any (a : Option Addr) (l : List PackD) (cap : Nat) (room : Int) (sa : Option Addr) (set : List Int) (sc : Nat) (w : World) (h : PacksAt (Old w) w a l) (hs : SetAt w sa set) :
    Calls Try.prog 10 #[.agg #[.slice a l.length cap, .int .i64 room], .slice sa set.length sc] w fun e w' => e = .returned (.bool (okZ l room set)) ∧ Below w.heap.size w w' := by
  have bA := (Below.refl w.heap.size w).alloc (Nat.le_refl _) (.cells #[.slice a l.length cap, .int .i64 room] 25)
  have HC := hide (inForm_any a l cap room sa set sc _ (h.on bA) (hs.on bA))
  clear h hs
  go_enter Try.func10, Try.ntmps10
  go_wp2_with fail
  refine (unhide HC).mono ?_
  rintro e w1 ⟨hf, hb1⟩
  have HB1 := hide (bA.trans (hb1.mono (by simp)))
  clear HC hb1 bA
  unfold FormOut at hf
  cases hfm : formB l room set with
  | false =>
    rw [hfm] at hf
    simp at hf
    subst hf
    have HE := hide (show okZ l room set = false by unfold okZ; rw [hfm]; rfl)
    clear hfm
    unfold emptyStock
    go_wp2_with fail
    go_ret
    exact ⟨ret_bool (unhide HE).symm, (unhide HB1).alloc (unhide HB1).size _⟩
  | true =>
    rw [hfm] at hf
    simp at hf
    obtain ⟨V, rfl, hst⟩ := hf
    have HE := hide (show okZ l room set = healthB l room (setBits set) by unfold okZ; rw [hfm]; rfl)
    have hsm := setBits_small hfm
    have hpl : ∀ p ∈ placesTo (setBits set) 8, p < l.length := by rw [set_places hfm]; exact set_lt hfm
    have hok := form_ok hfm
    have HSZ := hide (fun (o : Obj) => healthy_any l room V (setBits set) hsm hpl hok (w1.alloc o) (hst.on ((Below.refl _ _).alloc (Nat.le_refl _) _)))
    obtain ⟨a', cap', bm, v, rfl, hP, ⟨xa, xc, rfl⟩, hA⟩ := hst
    have z1 := (unhide HB1).size
    clear hfm hP hA hpl hok
    go_wp2_with (first
      | (go_at_call 32; refine (unhide HSZ _).mono ?_; rintro e w2 ⟨rfl, hb2⟩; have HB2 := hide hb2; clear hb2))
    go_ret
    exact ⟨ret_bool (unhide HE).symm, ((unhide HB1).alloc z1 _).trans ((unhide HB2).mono (by simp; omega))⟩
end Go.Proofs.Ythkhaemlcmkkjaf
