/- What fits a request, and the specification's test of it. -/
import Derived.Test.YtecipjdbfmldlabSpecC
namespace Go.Proofs.Ytecipjdbfmldlab
set_option linter.unusedVariables false
set_option linter.unusedSimpArgs false
open Go.RowKit

def fitsB (q : ReqD) (p : PackD) : Bool := (p.name.toList == q.name.toList) && inB p.ver q.low q.high

set_option maxHeartbeats 400000 in
theorem l1Fits_any (p : PackD) (q : ReqD) (a1 : Option Addr) (c1 : Nat) (a2 : Option Addr) (c2 : Nat) (a3 : Option Addr) (c3 : Nat) (w : World) :
    Calls Try.prog 50 #[.agg #[.string p.name, .int .i64 p.ver, .int .i64 p.size, .slice a1 p.deps.length c1, .slice a2 p.pres.length c2, .slice a3 p.bans.length c3], .agg #[.string q.name, .int .i64 q.low, .int .i64 q.high]] w
      fun e w' => e = .returned (.bool (fitsB q p)) ∧ Below w.heap.size w w' := by
  cases hE : (p.name.toList == q.name.toList) with
  | false =>
    have e : fitsB q p = false := by simp only [fitsB, hE]; rfl
    go_enter Try.func50, Try.ntmps50
    go_wp2_with fail
    go_ret
    exact ⟨by first | rfl | (rw [e]; rfl), ((Below.refl _ _).alloc (Nat.le_refl _) _).alloc (by simp) _⟩
  | true =>
    have HE := hide (show fitsB q p = inB p.ver q.low q.high by simp only [fitsB, hE]; rfl)
    go_enter Try.func50, Try.ntmps50
    go_wp2_with (go_at_call 35; refine (l6In_any _ _ _ _).mono ?_; rintro e w' ⟨rfl, hww⟩; obtain rfl := hww.symm)
    go_ret
    exact ⟨ret_bool (unhide HE).symm, ((Below.refl _ _).alloc (Nat.le_refl _) _).alloc (by simp) _⟩
end Go.Proofs.Ytecipjdbfmldlab
