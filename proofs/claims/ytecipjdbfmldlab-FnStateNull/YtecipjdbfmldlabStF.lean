/- The program's packs that fit a request. -/
import Derived.Test.YtecipjdbfmldlabStN
import Derived.Test.YtecipjdbfmldlabImplD
namespace Go.Proofs.Ytecipjdbfmldlab
set_option linter.unusedVariables false
set_option linter.unusedSimpArgs false
open Go.RowKit Go.Deep Go.Maps

/-- The bits of the places below k of which p holds. -/
def bitsTo (p : Nat → Bool) : Nat → Nat
  | 0 => 0
  | k + 1 => if p k then bitsTo p k ||| 2 ^ k else bitsTo p k
theorem bitsTo_lt (p : Nat → Bool) : ∀ k, bitsTo p k < 2 ^ k
  | 0 => by simp [bitsTo]
  | k + 1 => by
    have ih := bitsTo_lt p k
    have h2 : 2 ^ k < 2 ^ (k + 1) := Nat.pow_lt_pow_right (by omega) (by omega)
    unfold bitsTo
    split
    · exact Nat.or_lt_two_pow (by omega) h2
    · omega

set_option maxRecDepth 100000 in
set_option maxHeartbeats 4000000 in
theorem fitting_any (q : ReqD) (hq : q.name.size ≤ maxLen) (bm n : Nat) (D : DataW Unit) (a : Option Addr) (l : List PackD) (cap : Nat) (room : Int) (ag ac : Nat) (num : Nat → Int) (w : World) (hown : Names w bm n D) (hbm : bm < w.heap.size) (h : PacksAt (Old w) w a l) (hl : l.length ≤ 8) (hag : ag < w.heap.size) (hnum : ∀ i, i < l.length → w.cell? ⟨ag, i * 5, none⟩ = some (.int .i64 (num i))) :
    Calls Try.prog 55 #[.agg #[.slice a l.length cap, .int .i64 room, .map (some bm), .slice (some ⟨ag, 0, none⟩) l.length ac], .agg #[.string q.name, .int .i64 q.low, .int .i64 q.high]] w
      fun e w' => ∃ c : Int, D.atKey (nkey q.name) (i64D 0) = i64D c ∧ e = .returned (.int .u64 (bitsTo (fun i => decide (num i = c) && inB (l.getD i dPack).ver q.low q.high) l.length : Nat)) ∧ Below w.heap.size w w' := by
  have hkey := Go.WideMaps.keyOf_string_mk (P := Try.prog) Try.underlying9 hq
  have bA := ((Below.refl w.heap.size w).alloc (Nat.le_refl _) (.cells #[.slice a l.length cap, .int .i64 room, .map (some bm), .slice (some ⟨ag, 0, none⟩) l.length ac] 55)).alloc (by simp) (.cells #[.string q.name, .int .i64 q.low, .int .i64 q.high] 71)
  have hown0 := (hown.alloc (.cells #[.slice a l.length cap, .int .i64 room, .map (some bm), .slice (some ⟨ag, 0, none⟩) l.length ac] 55)).alloc (.cells #[.string q.name, .int .i64 q.low, .int .i64 q.high] 71)
  have HP := hide h
  have HN := hide hnum
  have HBA := hide bA
  clear h hnum hown bA
  go_enter Try.func55, Try.ntmps55
  go_wp2_with (first
    | (at_lookup; refine wpList_lookup_own_int _ rfl _ _ 52 rfl 9 3 .i64 lawStr Try.underlying52 Try.underlying3 (zeroInt _) bm _ _ rfl hown0 _ _ rfl hkey ?_; intro c hat hwc)
    | go_in)
  go_loopw [5, 17] (fun v i wr => ∃ k : Nat, k ≤ l.length ∧ i = .int .i64 k ∧ v = .int .u64 ((bitsTo (fun i => decide (num i = c) && inB (l.getD i dPack).ver q.low q.high) k : Nat) : Int) ∧ Hid (Below (w.heap.size + 1 + 1) ((w.alloc (.cells #[.slice a l.length cap, .int .i64 room, .map (some bm), .slice (some ⟨ag, 0, none⟩) l.length ac] 55)).alloc (.cells #[.string q.name, .int .i64 q.low, .int .i64 q.high] 71)) wr)) (fun _ i _ => l.length - (intOf i).toNat)
  case atStart => exact ⟨0, Nat.zero_le _, rfl, rfl, Below.refl _ _⟩
  case round =>
    rename World => wo
    obtain ⟨k, hk, rfl, rfl, HW⟩ := hrel
    by_cases hlt : k < l.length
    · have j1 : (k : Int) < (l.length : Int) := by omega
      rcases (unhide HP).2 with hnil | ⟨pb, po, rfl, hpS, hpk⟩
      · rw [hnil] at hlt; simp at hlt
      obtain ⟨a1, c1, a2, c2, a3, c3, hcells, _⟩ := hpk k hlt
      obtain ⟨n0, n1, n2, n3, n4, n5⟩ := hcells
      have m0 := unhide HN k hlt
      have hzo := (unhide HW).size
      simp at hzo
      have same : ∀ b, b < w.heap.size → wo.heap[b]? = w.heap[b]? := fun b hb => ((unhide HW).block b (by omega)).trans ((unhide HBA).block b hb)
      rw [← World.cell?_of_block (w := w) (a := ⟨pb, _, none⟩) (same pb hpS)] at n0 n1 n2 n3 n4 n5
      rw [← World.cell?_of_block (w := w) (a := ⟨ag, _, none⟩) (same ag hag)] at m0
      have x3 := (unhide HW).cell (p := ⟨w.heap.size, 3, none⟩) (by simp; omega)
      have y1 := (unhide HW).cell (p := ⟨w.heap.size + 1, 1, none⟩) (by simp)
      have y2 := (unhide HW).cell (p := ⟨w.heap.size + 1, 2, none⟩) (by simp)
      simp at x3 y1 y2
      have hbl := bitsTo_lt (fun i => decide (num i = c) && inB (l.getD i dPack).ver q.low q.high) k
      have hp8 := pow_small k (by omega)
      have hst : bitsTo (fun i => decide (num i = c) && inB (l.getD i dPack).ver q.low q.high) (k + 1) = if (decide (num k = c) && inB (l.getD k dPack).ver q.low q.high) then bitsTo (fun i => decide (num i = c) && inB (l.getD i dPack).ver q.low q.high) k ||| 2 ^ k else bitsTo (fun i => decide (num i = c) && inB (l.getD i dPack).ver q.low q.high) k := rfl
      generalize bitsTo (fun i => decide (num i = c) && inB (l.getD i dPack).ver q.low q.high) k = s at hbl hst ⊢
      have HST := hide hst
      have hltp : pb < wo.heap.size := by have : pb < w.heap.size := hpS; omega
      have hlta : ag < wo.heap.size := by omega
      have HSM := hide same
      have hw0 : w.heap.size < wo.heap.size := by omega
      have hw1 : w.heap.size + 1 < wo.heap.size := by omega
      have hs16 : s < 65536 := by omega
      have HBW := hide (fun A => (unhide HW).trans ((Below.refl (w.heap.size + 1 + 1) wo).alloc (by omega) A))
      clear hpk hst same
      by_cases hnc : num k = c
      · have hncb : (num k == c) = true := by simp [hnc]
        cases hin : inB (l.getD k dPack).ver q.low q.high with
        | true =>
          have e : bitsTo (fun i => decide (num i = c) && inB (l.getD i dPack).ver q.low q.high) (k + 1) = s ||| 2 ^ k := by rw [unhide HST, hin]; simp [hnc]
          have HE := hide e
          clear e HST
          generalize (l.getD k dPack) = P at n0 n1 n2 n3 n4 n5 hin
          go_wp2_with (first
            | (go_at_call 45; refine (within_any _ _ _ _).mono ?_; rintro e w' ⟨rfl, hww⟩; obtain rfl := hww.symm)
            | (go_at_call 46; refine (with_any s k hs16 (by omega) _).mono ?_; rintro e w' ⟨rfl, hww⟩; obtain rfl := hww.symm))
          go_roundw
          case rel => exact ⟨k + 1, by omega, by go_num, by rw [unhide HE], unhide HBW _⟩
          case measure => simp [intOf]; omega
        | false =>
          have e : bitsTo (fun i => decide (num i = c) && inB (l.getD i dPack).ver q.low q.high) (k + 1) = s := by rw [unhide HST, hin]; simp
          have HE := hide e
          clear e HST
          generalize (l.getD k dPack) = P at n0 n1 n2 n3 n4 n5 hin
          go_wp2_with (first
            | (go_at_call 45; refine (within_any _ _ _ _).mono ?_; rintro e w' ⟨rfl, hww⟩; obtain rfl := hww.symm))
          go_roundw
          case rel => exact ⟨k + 1, by omega, by go_num, by rw [unhide HE], unhide HBW _⟩
          case measure => simp [intOf]; omega
      · have hncb : (num k == c) = false := by simp [hnc]
        have e : bitsTo (fun i => decide (num i = c) && inB (l.getD i dPack).ver q.low q.high) (k + 1) = s := by rw [unhide HST]; simp [hnc]
        have HE := hide e
        clear e HST
        go_wp2_with fail
        go_roundw
        case rel => exact ⟨k + 1, by omega, by go_num, by rw [unhide HE], unhide HBW _⟩
        case measure => simp [intOf]; omega
    · have j1 : ¬ (k : Int) < (l.length : Int) := by omega
      have hke : k = l.length := by omega
      subst hke
      go_wp2_with fail
      go_ret
      first
        | exact ⟨c, hat, rfl, (unhide HBA).trans ((unhide HW).mono (by omega))⟩
        | exact ⟨rfl, (unhide HBA).trans ((unhide HW).mono (by omega))⟩
end Go.Proofs.Ytecipjdbfmldlab
