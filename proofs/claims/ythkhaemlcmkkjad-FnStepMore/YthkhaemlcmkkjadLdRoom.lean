/- More room: the laws' ldRoom. -/
import Derived.Test.YthkhaemlcmkkjadGBase
namespace Go.Proofs.Ythkhaemlcmkkjad
set_option linter.unusedVariables false
set_option linter.unusedSimpArgs false
open Go.RowKit Go.Deep

def roomZ (room more : Int) : Int := if 999 < room + more then 999 else room + more

set_option maxHeartbeats 2000000 in
theorem ldRoom_any (v : Value) (room more : Int) (h0 : 0 ≤ room) (h1 : room ≤ 999) (h2 : 0 ≤ more) (h3 : more ≤ 999) (w : World) (hv : ∃ a n c, v = .slice a n c) :
    Calls Try.prog 14 #[.agg #[v, .int .i64 room], .int .i64 more] w fun e w' => e = .returned (.agg #[v, .int .i64 (roomZ room more)]) ∧ Below w.heap.size w w' := by
  obtain ⟨va, vn, vc, rfl⟩ := hv
  have hw : IntKind.i64.wrap (room + more) = room + more := by rw [IntKind.wrap_i64]; omega
  go_enter Try.func14, Try.ntmps14
  by_cases hb : 999 < room + more
  · have hr : roomZ room more = 999 := by unfold roomZ; rw [if_pos hb]
    go_wp2_with fail
    exact bodyPost_ret (v := .agg #[.slice va vn vc, .int .i64 999]) (by simp [results, Try.results14, go_sem]) rfl ⟨by rw [hr], ((Below.refl _ _).alloc (Nat.le_refl _) _).alloc (by simp) _⟩
  · have hr : roomZ room more = room + more := by unfold roomZ; rw [if_neg hb]
    go_wp2_with fail
    exact bodyPost_ret (v := .agg #[.slice va vn vc, .int .i64 (room + more)]) (by simp [results, Try.results14, go_sem]) rfl ⟨rfl, ((Below.refl _ _).alloc (Nat.le_refl _) _).alloc (by simp) _⟩
theorem roomZ_le {room more : Int} (h1 : room ≤ 999) (h2 : 0 ≤ more) : room ≤ roomZ room more ∧ roomZ room more ≤ 999 := by
  unfold roomZ; split <;> omega
end Go.Proofs.Ythkhaemlcmkkjad
