/- Which packs fit: the specification's and the program's own tests, and the program's search for the next one. -/
import Derived.Test.YtahnfgkjmkiodaaImplD
import Derived.Test.YtahnfgkjmkiodaaMem
import Derived.OwnWalk
import Derived.Deep.AppendLies
namespace Go.Proofs.Ytahnfgkjmkiodaa
set_option linter.unusedVariables false
set_option linter.unusedSimpArgs false
open Go.RowKit Go.Sort

def fitsB (q : ReqD) (p : PackD) : Bool := (p.name.toList == q.name.toList) && inB p.ver q.low q.high
/-- The places below k that fit. -/
def hitsTo (q : ReqD) (packs : List PackD) (k : Nat) : List Nat := (List.range k).filter fun i => fitsB q (packs.getD i dPack)
def hitsL (q : ReqD) (packs : List PackD) (room : Int) : List Nat := if repoB ⟨packs, room⟩ then hitsTo q packs packs.length else []
def intVs (l : List Nat) : List Value := l.map fun i : Nat => .int .i64 (i : Int)

theorem hits_succ (q : ReqD) (packs : List PackD) (k : Nat) : hitsTo q packs (k + 1) = if fitsB q (packs.getD k dPack) then hitsTo q packs k ++ [k] else hitsTo q packs k := by
  unfold hitsTo
  rw [List.range_succ, List.filter_append]
  by_cases hf : fitsB q (packs.getD k dPack) = true
  · rw [if_pos hf]; simp only [List.filter_cons, List.filter_nil, hf, if_true]
  · rw [if_neg hf]; simp only [List.filter_cons, List.filter_nil, hf]; simp
theorem hits_le (q : ReqD) (packs : List PackD) (k : Nat) : (hitsTo q packs k).length ≤ k := by
  have := List.length_filter_le (fun i => fitsB q (packs.getD i dPack)) (List.range k)
  simpa [hitsTo] using this
theorem hits_skip (q : ReqD) (packs : List PackD) {k j : Nat} (hkj : k ≤ j) (h : ∀ i, k ≤ i → i < j → fitsB q (packs.getD i dPack) = false) : hitsTo q packs j = hitsTo q packs k := by
  induction j with
  | zero => rw [Nat.le_zero.1 hkj]
  | succ j ih =>
    by_cases e : k = j + 1
    · rw [e]
    · rw [hits_succ, h j (by omega) (by omega)]
      exact ih (by omega) (fun i h1 h2 => h i h1 (by omega))

set_option maxHeartbeats 400000 in
theorem l1Fits_any (p : PackD) (q : ReqD) (a1 : Option Addr) (c1 : Nat) (a2 : Option Addr) (c2 : Nat) (a3 : Option Addr) (c3 : Nat) (w : World) :
    Calls Try.prog 21 #[.agg #[.string p.name, .int .i64 p.ver, .int .i64 p.size, .slice a1 p.deps.length c1, .slice a2 p.pres.length c2, .slice a3 p.bans.length c3], .agg #[.string q.name, .int .i64 q.low, .int .i64 q.high]] w
      fun e w' => e = .returned (.bool (fitsB q p)) ∧ Below w.heap.size w w' := by
  cases hE : (p.name.toList == q.name.toList) with
  | false =>
    have e : fitsB q p = false := by simp only [fitsB, hE]; rfl
    go_enter Try.func21, Try.ntmps21
    go_wp2_with fail
    go_ret
    exact ⟨by first | rfl | (rw [e]; rfl), ((Below.refl _ _).alloc (Nat.le_refl _) _).alloc (by simp) _⟩
  | true =>
    have HE := hide (show fitsB q p = inB p.ver q.low q.high by simp only [fitsB, hE]; rfl)
    go_enter Try.func21, Try.ntmps21
    go_wp2_with (go_at_call 24; refine (l6In_any _ _ _ _).mono ?_; rintro e w' ⟨rfl, hww⟩; obtain rfl := hww.symm)
    go_ret
    exact ⟨ret_bool (unhide HE).symm, ((Below.refl _ _).alloc (Nat.le_refl _) _).alloc (by simp) _⟩

set_option maxHeartbeats 400000 in
theorem fits_any (p : PackD) (q : ReqD) (a1 : Option Addr) (c1 : Nat) (a2 : Option Addr) (c2 : Nat) (a3 : Option Addr) (c3 : Nat) (w : World) :
    Calls Try.prog 23 #[.agg #[.string q.name, .int .i64 q.low, .int .i64 q.high], .agg #[.string p.name, .int .i64 p.ver, .int .i64 p.size, .slice a1 p.deps.length c1, .slice a2 p.pres.length c2, .slice a3 p.bans.length c3]] w
      fun e w' => e = .returned (.bool (fitsB q p)) ∧ Below w.heap.size w w' := by
  cases hE : (p.name.toList == q.name.toList) with
  | false =>
    have e : fitsB q p = false := by simp only [fitsB, hE]; rfl
    go_enter Try.func23, Try.ntmps23
    go_wp2_with fail
    go_ret
    exact ⟨by first | rfl | (rw [e]; rfl), ((Below.refl _ _).alloc (Nat.le_refl _) _).alloc (by simp) _⟩
  | true =>
    have HE := hide (show fitsB q p = inB p.ver q.low q.high by simp only [fitsB, hE]; rfl)
    go_enter Try.func23, Try.ntmps23
    go_wp2_with (go_at_call 30; refine (within_any _ _ _ _).mono ?_; rintro e w' ⟨rfl, hww⟩; obtain rfl := hww.symm)
    go_ret
    exact ⟨ret_bool (unhide HE).symm, ((Below.refl _ _).alloc (Nat.le_refl _) _).alloc (by simp) _⟩

set_option maxHeartbeats 1000000 in
theorem searchFits_any (q : ReqD) (a : Option Addr) (l : List PackD) (cap k0 : Nat) (w : World) (h : PacksAt (Old w) w a l) (hk0 : k0 ≤ l.length) :
    Calls Try.prog 22 #[.slice a l.length cap, .int .i64 k0, .func (.func 23) #[.agg #[.string q.name, .int .i64 q.low, .int .i64 q.high]] #[]] w
      fun e w' => (∃ k : Nat, e = .returned (.int .i64 k) ∧ k0 ≤ k ∧ k ≤ l.length ∧ (∀ i, k0 ≤ i → i < k → fitsB q (l.getD i dPack) = false) ∧ (k < l.length → fitsB q (l.getD k dPack) = true)) ∧ Below w.heap.size w w' := by
  obtain ⟨hm, h⟩ := h
  unfold maxLen at hm
  go_enter Try.func22, Try.ntmps22
  go_wp2
  go_loopw [1] (fun i wr => ∃ k : Nat, k0 ≤ k ∧ k ≤ l.length ∧ i = .int .i64 k ∧ Hid (∀ i, k0 ≤ i → i < k → fitsB q (l.getD i dPack) = false) ∧ Below w.heap.size w wr) (fun i _ => l.length - (intOf i).toNat)
  case atStart => exact ⟨k0, Nat.le_refl _, hk0, rfl, fun i h1 h2 => absurd h2 (by omega), Below.refl _ _⟩
  case round =>
    rename World => wo
    obtain ⟨k, hk1, hk, rfl, hl, hw⟩ := hrel
    by_cases hlt : k < l.length
    · rcases h with h | ⟨b, o, rfl, hSb, h⟩
      · subst h; simp at hlt
      · have hq := h k hlt
        clear h
        obtain ⟨p, hpe⟩ : ∃ p, p = l.getD k dPack := ⟨_, rfl⟩
        rw [← hpe] at hq
        have HP := hide hpe
        clear hpe
        obtain ⟨a1, c1, a2, c2, a3, c3, ⟨p0, p1, p2, p3, p4, p5⟩, hv⟩ := hq
        rw [← hw.cell (p := ⟨b, _, none⟩) hSb] at p0 p1 p2 p3 p4 p5
        have HW := hide hw
        clear hw hv
        go_wp2_with fail
        refine (fits_any p q a1 c1 a2 c2 a3 c3 _).mono ?_
        rintro e w1 ⟨rfl, hb⟩
        have HBE := hide ((unhide HW).trans (hb.mono (unhide HW).size))
        clear hb
        cases hv : fitsB q p with
        | false =>
          go_wp2_with fail
          go_roundw
          case rel =>
            refine ⟨k + 1, by omega, by omega, by go_num, fun i h1 h2 => ?_, unhide HBE⟩
            by_cases e : i = k
            · rw [e, ← unhide HP]; exact hv
            · exact hl.out i h1 (by omega)
          case measure => simp [intOf]; omega
        | true =>
          go_wp2_with fail
          go_ret
          exact ⟨⟨k, rfl, hk1, hk, hl.out, fun _ => by rw [← unhide HP]; exact hv⟩, unhide HBE⟩
    · go_wp2_with fail
      go_ret
      exact ⟨⟨k, rfl, hk1, hk, hl.out, fun h => absurd h hlt⟩, hw⟩

theorem searchFits_at (q : ReqD) (a : Option Addr) (l : List PackD) (cap k0 : Nat) (z : Int) (hz : z = (k0 : Int)) (w : World) (h : PacksAt (Old w) w a l) (hk0 : k0 ≤ l.length) :
    Calls Try.prog 22 #[.slice a l.length cap, .int .i64 z, .func (.func 23) #[.agg #[.string q.name, .int .i64 q.low, .int .i64 q.high]] #[]] w
      fun e w' => (∃ k : Nat, e = .returned (.int .i64 k) ∧ k0 ≤ k ∧ k ≤ l.length ∧ (∀ i, k0 ≤ i → i < k → fitsB q (l.getD i dPack) = false) ∧ (k < l.length → fitsB q (l.getD k dPack) = true)) ∧ Below w.heap.size w w' := by
  subst hz
  exact searchFits_any q a l cap k0 w h hk0

theorem ownsRow_base {w : World} {b b' : Nat} {e : TypeId} {size : Nat} {v : Value} {n : Nat} {xs : List Value} (h : w.ownsRow b e size v n xs) (hb : b' ≤ b) : w.ownsRow b' e size v n xs := by
  obtain ⟨h1, h2⟩ := h
  refine ⟨h1, ?_⟩
  rcases h2 with h2 | ⟨g, cap, cur, hv, hg, r⟩
  · exact Or.inl h2
  · exact Or.inr ⟨g, cap, cur, hv, by omega, r⟩

theorem ownsRow_below {w w' : World} {b : Nat} {e : TypeId} {size : Nat} {v : Value} {n : Nat} {xs : List Value} (h : w.ownsRow b e size v n xs) (hb : Below w.heap.size w w') : w'.ownsRow b e size v n xs := by
  obtain ⟨h1, h2⟩ := h
  refine ⟨h1, ?_⟩
  rcases h2 with h2 | ⟨g, cap, cur, hv, hg, hc, r⟩
  · exact Or.inl h2
  · exact Or.inr ⟨g, cap, cur, hv, hg, (hb.block g (Array.getElem?_eq_some_iff.1 hc).1).trans hc, r⟩
theorem Try.infoInt : (Try.prog.info? 3).map (fun i => (i.zero, i.size, i.bytes)) = some (some (.int .i64 0), 1, 8) := by kernel_rfl
end Go.Proofs.Ytahnfgkjmkiodaa
