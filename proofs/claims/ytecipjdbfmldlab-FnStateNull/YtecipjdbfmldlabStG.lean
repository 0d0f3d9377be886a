/- The program's packs that fit one of some requests. -/
import Derived.Test.YtecipjdbfmldlabStF
namespace Go.Proofs.Ytecipjdbfmldlab
set_option linter.unusedVariables false
set_option linter.unusedSimpArgs false
open Go.RowKit Go.Deep Go.Maps

/-- The number of a name. -/
def numOf (D : DataW Unit) (nm : ByteArray) : Int := match D.atKey (nkey nm) (i64D 0) with
  | .lit (.int _ c) => c
  | _ => 0
def fitP (D : DataW Unit) (num : Nat → Int) (l : List PackD) (q : ReqD) (i : Nat) : Bool := decide (num i = numOf D q.name) && inB (l.getD i dPack).ver q.low q.high
def orTo (f : Nat → Nat) : Nat → Nat
  | 0 => 0
  | k + 1 => orTo f k ||| f k
theorem orTo_lt {f : Nat → Nat} {m : Nat} (h : ∀ i, f i < 2 ^ m) : ∀ k, orTo f k < 2 ^ m
  | 0 => by simp [orTo, Nat.two_pow_pos]
  | k + 1 => Nat.or_lt_two_pow (orTo_lt h k) (h k)
def fitAny (D : DataW Unit) (num : Nat → Int) (l : List PackD) (reqs : List ReqD) (k : Nat) : Nat := orTo (fun j => bitsTo (fitP D num l (reqs.getD j dReq)) l.length) k

theorem fitting_num (q : ReqD) (hq : q.name.size ≤ maxLen) (bm n : Nat) (D : DataW Unit) (a : Option Addr) (l : List PackD) (cap : Nat) (room : Int) (ag ac : Nat) (num : Nat → Int) (w : World) (hown : Names w bm n D) (hbm : bm < w.heap.size) (h : PacksAt (Old w) w a l) (hl : l.length ≤ 8) (hag : ag < w.heap.size) (hnum : ∀ i, i < l.length → w.cell? ⟨ag, i * 5, none⟩ = some (.int .i64 (num i))) :
    Calls Try.prog 55 #[.agg #[.slice a l.length cap, .int .i64 room, .map (some bm), .slice (some ⟨ag, 0, none⟩) l.length ac], .agg #[.string q.name, .int .i64 q.low, .int .i64 q.high]] w
      fun e w' => e = .returned (.int .u64 (bitsTo (fitP D num l q) l.length : Nat)) ∧ Below w.heap.size w w' := by
  refine (fitting_any q hq bm n D a l cap room ag ac num w hown hbm h hl hag hnum).mono ?_
  rintro e w' ⟨c, hc, rfl, hb⟩
  have e1 : numOf D q.name = c := by unfold numOf; rw [hc]
  refine ⟨?_, hb⟩
  unfold fitP
  rw [e1]

theorem Names.on {w w' : World} {bm n : Nat} {D : DataW Unit} (h : Names w bm n D) (hb : Below w.heap.size w w') : Names w' bm n D :=
  World.ownsMap.kept (row := none) h ⟨hb.os, hb.tape, hb.output, hb.size, fun b hb' _ => hb.block b hb'⟩ (by simp)

set_option maxRecDepth 100000 in
set_option maxHeartbeats 4000000 in
theorem fittingAny_any (ra : Option Addr) (reqs : List ReqD) (rc : Nat) (bm n : Nat) (D : DataW Unit) (a : Option Addr) (l : List PackD) (cap : Nat) (room : Int) (ag ac : Nat) (num : Nat → Int) (w : World) (hown : Names w bm n D) (hbm : bm < w.heap.size) (h : PacksAt (Old w) w a l) (hl : l.length ≤ 8) (hag : ag < w.heap.size) (hnum : ∀ i, i < l.length → w.cell? ⟨ag, i * 5, none⟩ = some (.int .i64 (num i))) (hr : ReqsAt (Old w) w ra reqs) :
    Calls Try.prog 57 #[.agg #[.slice a l.length cap, .int .i64 room, .map (some bm), .slice (some ⟨ag, 0, none⟩) l.length ac], .slice ra reqs.length rc] w
      fun e w' => e = .returned (.int .u64 (fitAny D num l reqs reqs.length : Nat)) ∧ Below w.heap.size w w' := by
  have hm := hr.1
  unfold maxLen at hm
  have bA := (Below.refl w.heap.size w).alloc (Nat.le_refl _) (.cells #[.slice a l.length cap, .int .i64 room, .map (some bm), .slice (some ⟨ag, 0, none⟩) l.length ac] 55)
  have HP := hide h
  have HN := hide hnum
  have HO := hide hown
  have HR := hide hr
  have HBA := hide bA
  have hb8 : ∀ i, bitsTo (fitP D num l (reqs.getD i dReq)) l.length < 2 ^ 8 := fun i => by
    have h1 := bitsTo_lt (fitP D num l (reqs.getD i dReq)) l.length
    have h2 : 2 ^ l.length ≤ 2 ^ 8 := Nat.pow_le_pow_right (by omega) hl
    omega
  have HB8 := hide hb8
  clear h hnum hown bA hr hb8
  go_enter Try.func57, Try.ntmps57
  go_wp2_with fail
  go_loopw [5, 10] (fun v i wr => ∃ k : Nat, k ≤ reqs.length ∧ i = .int .i64 k ∧ v = .int .u64 ((fitAny D num l reqs k : Nat) : Int) ∧ Hid (Below (w.heap.size + 1) (w.alloc (.cells #[.slice a l.length cap, .int .i64 room, .map (some bm), .slice (some ⟨ag, 0, none⟩) l.length ac] 55)) wr)) (fun _ i _ => reqs.length - (intOf i).toNat)
  case atStart => exact ⟨0, Nat.zero_le _, rfl, rfl, Below.refl _ _⟩
  case round =>
    rename World => wo
    obtain ⟨k, hk, rfl, rfl, HW⟩ := hrel
    by_cases hlt : k < reqs.length
    · have j1 : (k : Int) < (reqs.length : Int) := by omega
      rcases (unhide HR).2 with hnil | ⟨pb, po, rfl, hpS, hpk⟩
      · rw [hnil] at hlt; simp at hlt
      obtain ⟨n0, n1, n2, hql⟩ := hpk k hlt
      have hzo := (unhide HW).size
      simp at hzo
      have bo : Below w.heap.size w wo := (unhide HBA).trans ((unhide HW).mono (by omega))
      rw [← World.cell?_of_block (w := w) (a := ⟨pb, _, none⟩) (bo.block pb hpS)] at n0 n1 n2
      have x0 := (unhide HW).cell (p := ⟨w.heap.size, 0, none⟩) (by simp)
      have x1 := (unhide HW).cell (p := ⟨w.heap.size, 1, none⟩) (by simp)
      have x2 := (unhide HW).cell (p := ⟨w.heap.size, 2, none⟩) (by simp)
      have x3 := (unhide HW).cell (p := ⟨w.heap.size, 3, none⟩) (by simp)
      simp at x0 x1 x2 x3
      have hfl := orTo_lt (unhide HB8) k
      have hfk := unhide HB8 k
      have hst : fitAny D num l reqs (k + 1) = fitAny D num l reqs k ||| bitsTo (fitP D num l (reqs.getD k dReq)) l.length := rfl
      have hfl' : fitAny D num l reqs k < 2 ^ 8 := hfl
      have bq := fun A => bo.trans ((Below.refl w.heap.size wo).alloc (by omega) A)
      have HC := hide (fun A => fitting_num (reqs.getD k dReq) hql bm n D a l cap room ag ac num (wo.alloc A) ((unhide HO).on (bq A)) (by have := (bq A).size; omega) ((unhide HP).on (bq A)) hl (by have := (bq A).size; omega) (fun i hi => by rw [World.cell?_of_block (w := w) (a := ⟨ag, i * 5, none⟩) ((bq A).block ag hag)]; exact unhide HN i hi))
      generalize fitAny D num l reqs k = s at hst hfl' ⊢
      generalize bitsTo (fitP D num l (reqs.getD k dReq)) l.length = t at hst hfk HC
      generalize reqs.getD k dReq = Q at n0 n1 n2 HC hql
      have hor := bits_or s t (by omega) (by omega)
      have HST := hide hst
      have hw0 : w.heap.size < wo.heap.size := by omega
      have hltp : pb < wo.heap.size := by have : pb < w.heap.size := hpS; omega
      have HBO := hide (fun A => (unhide HW).trans ((Below.refl (w.heap.size + 1) wo).alloc (by omega) A))
      clear hpk hst hfl bq bo
      go_wp2_with (first
        | (go_at_call 55; refine (unhide HC _).mono ?_; rintro e w' ⟨rfl, hb2⟩; have HB2 := hide hb2; clear hb2))
      go_roundw
      case rel => exact ⟨k + 1, by omega, by go_num, by rw [unhide HST], (unhide HBO _).trans ((unhide HB2).mono (by simp; omega))⟩
      case measure => simp [intOf]; omega
    · have j1 : ¬ (k : Int) < (reqs.length : Int) := by omega
      have hke : k = reqs.length := by omega
      subst hke
      go_wp2_with fail
      go_ret
      exact ⟨rfl, (unhide HBA).trans ((unhide HW).mono (by omega))⟩
end Go.Proofs.Ytecipjdbfmldlab
