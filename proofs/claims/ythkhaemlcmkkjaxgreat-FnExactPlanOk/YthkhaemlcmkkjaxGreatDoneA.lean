/- The program's done: what is there behind a step. -/
import Derived.Test.YthkhaemlcmkkjaxGreatMoveA
import Derived.Test.YthkhaemlcmkkjaxGreatMvG
import Derived.Test.YthkhaemlcmkkjaxGreatGHe
import Derived.Deep.QuietTactic
namespace Go.Proofs.YthkhaemlcmkkjaxGreat
set_option linter.unusedVariables false
set_option linter.unusedSimpArgs false
open Go.RowKit Go.Deep

/-- What done answers. -/
def doneV (l : List PackD) (room : Int) (bits : Nat) (s : StepD) : Value :=
  match (movesL l).find? (fun m => eqS m.step s) with
  | none => .tuple #[.int .u64 0, .bool false]
  | some m => if allowsB l room bits m then .tuple #[.int .u64 ((behindN bits m : Nat) : Int), .bool true] else .tuple #[.int .u64 0, .bool false]

set_option maxRecDepth 100000 in
set_option maxHeartbeats 4000000 in
theorem done_any (l : List PackD) (room : Int) (V : Value) (bits : Nat) (s : StepD) (hs : bits < 65536) (hps : ∀ p ∈ placesTo bits 8, p < l.length) (hok : OkL l) (hwi : ∀ m ∈ movesL l, m.within l.length) (w : World) (h : Stock w V l room) :
    Calls Tryz.prog 41 #[V, .int .u64 (bits : Int), .agg #[.int .i64 s.kind, .int .i64 s.inn, .int .i64 s.out]] w fun e w' => e = .returned (doneV l room bits s) ∧ Below w.heap.size w w' := by
  have HST := hide h
  obtain ⟨a, cap, bm, v, rfl, hP, ⟨⟨xa, xc, rfl⟩, hA⟩⟩ := h
  clear hP hA
  go_enter Tryz.func41, Tryz.ntmps41
  go_upto_region 1 with fail
  obtain ⟨w0, hw0⟩ : ∃ w0, w0 = (w.alloc (.cells #[.slice a l.length cap, .int .i64 room, .map (some bm), .slice xa l.length xc] 73)).alloc (.cells #[.int .i64 s.kind, .int .i64 s.inn, .int .i64 s.out] 36) := ⟨_, rfl⟩
  rw [← hw0]
  have b0 : Below w.heap.size w w0 := by rw [hw0]; exact ((Below.refl _ _).alloc (Nat.le_refl _) _).alloc (by simp) _
  have z0 : w0.heap.size = w.heap.size + 1 + 1 := by rw [hw0]; simp
  have x0 : w0.cell? ⟨w.heap.size, 0, none⟩ = some (.slice a l.length cap) := by rw [hw0]; simp
  have x1 : w0.cell? ⟨w.heap.size, 1, none⟩ = some (.int .i64 room) := by rw [hw0]; simp
  have x2 : w0.cell? ⟨w.heap.size, 2, none⟩ = some (.map (some bm)) := by rw [hw0]; simp
  have x3 : w0.cell? ⟨w.heap.size, 3, none⟩ = some (.slice xa l.length xc) := by rw [hw0]; simp
  have s0 : w0.cell? ⟨w.heap.size + 1, 0, none⟩ = some (.int .i64 s.kind) := by rw [hw0]; simp
  have s1 : w0.cell? ⟨w.heap.size + 1, 1, none⟩ = some (.int .i64 s.inn) := by rw [hw0]; simp
  have s2 : w0.cell? ⟨w.heap.size + 1, 2, none⟩ = some (.int .i64 s.out) := by rw [hw0]; simp
  have HB0 := hide b0
  clear hw0 b0
  have HMO := hide (moveOf_any l room _ s hok.l8 w0 ((unhide HST).on (unhide HB0)))
  have HDV : Hid (doneV l room bits s = match (movesL l).find? (fun m => eqS m.step s) with
    | none => .tuple #[.int .u64 0, .bool false]
    | some m => if allowsB l room bits m then .tuple #[.int .u64 ((behindN bits m : Nat) : Int), .bool true] else .tuple #[.int .u64 0, .bool false]) := rfl
  have HFD : Hid (∀ m, (movesL l).find? (fun m => eqS m.step s) = some m → m.within l.length) := fun m hm => hwi m (List.mem_of_find?_eq_some hm)
  clear hwi
  generalize (movesL l).find? (fun m => eqS m.step s) = fd at HDV HFD HMO
  cases fd with
  | none =>
    have HR := hide (show doneV l room bits s = .tuple #[.int .u64 0, .bool false] from unhide HDV)
    simp only [moveV] at HMO
    clear HDV HFD hps hs hok
    go_wp2_with fail
    refine (unhide HMO).mono ?_
    rintro e w3 ⟨rfl, b3⟩
    have HB3 := hide ((unhide HB0).trans (b3.mono (unhide HB0).size))
    clear b3 HMO HB0 x0 x1 x2 x3 s0 s1 s2 HST
    go_wp2_with fail
    exact bodyPost_ret (v := .tuple #[.int .u64 0, .bool false]) (by simp [results, Tryz.results41, go_sem]) rfl ⟨by rw [unhide HR], unhide HB3⟩
  | some m =>
    have hmw := unhide HFD m rfl
    have hv : ∃ T X, m.val = .iface T X := by cases m <;> exact ⟨_, _, rfl⟩
    obtain ⟨T, X, hv⟩ := hv
    simp only [moveV] at HMO HDV
    rw [hv] at HMO
    clear HFD
    go_wp2_with fail
    refine (unhide HMO).mono ?_
    rintro e w3 ⟨rfl, b3⟩
    have hz3 := b3.size
    have HB3 := hide ((unhide HB0).trans (b3.mono (unhide HB0).size))
    rw [← b3.cell (p := ⟨w.heap.size, _, none⟩) (by simp; omega)] at x0 x1 x2 x3
    have HAL := hide (fun x (hx : Below w3.heap.size w3 x) => allows_any l room _ bits m hs hps hmw hok x ((unhide HST).on ((unhide HB3).trans (hx.mono (unhide HB3).size))))
    have HBH := hide (fun x => behind_any bits m hs (within_fine hmw hok.l8) x)
    rw [hv] at HAL HBH
    generalize allowsB l room bits m = al at HAL HDV
    generalize behindN bits m = bh at HBH HDV
    have hlk : w.heap.size < w3.heap.size := by omega
    clear b3 HMO HB0 s0 s1 s2 HST hv hmw hps hs hok
    cases al with
    | true =>
      have HR := hide (show doneV l room bits s = .tuple #[.int .u64 ((bh : Nat) : Int), .bool true] from unhide HDV)
      clear HDV
      go_wp2_with fail
      refine (unhide HAL w3 (Below.refl _ _)).mono ?_
      rintro e wz ⟨rfl, bz⟩
      have HBz := hide ((unhide HB3).trans (bz.mono (unhide HB3).size))
      clear bz HAL HB3 x0 x1 x2 x3
      go_wp2_with fail
      refine (unhide HBH wz).mono ?_
      rintro e w5 ⟨rfl, b5⟩
      have HB5 := hide ((unhide HBz).trans (b5.mono (unhide HBz).size))
      clear b5 HBH HBz
      go_wp2_with fail
      exact bodyPost_ret (v := .tuple #[.int .u64 ((bh : Nat) : Int), .bool true]) (by simp [results, Tryz.results41, go_sem]) rfl ⟨by rw [unhide HR], unhide HB5⟩
    | false =>
      have HR := hide (show doneV l room bits s = .tuple #[.int .u64 0, .bool false] from unhide HDV)
      clear HDV
      go_wp2_with fail
      refine (unhide HAL w3 (Below.refl _ _)).mono ?_
      rintro e wz ⟨rfl, bz⟩
      have HBz := hide ((unhide HB3).trans (bz.mono (unhide HB3).size))
      clear bz HAL HB3 x0 x1 x2 x3
      go_wp2_with fail
      exact bodyPost_ret (v := .tuple #[.int .u64 0, .bool false]) (by simp [results, Tryz.results41, go_sem]) rfl ⟨by rw [unhide HR], unhide HBz⟩
end Go.Proofs.YthkhaemlcmkkjaxGreat
