/- The program's numbers of names. The program's packs that fit a request. The program's packs that fit one of some requests. What fits a request, and the specification's test of it. The program's numbers of names, all along the packs. -/
import Derived.Test.YthkhaemlcmkkjayGBit
import Derived.Maps.OwnOps
import Derived.Maps.OwnSet
import Derived.Maps.Own
import Derived.StringKeys
import Derived.Maps.AppendAt
import Derived.Test.YthkhaemlcmkkjayGImpl
import Derived.Test.YthkhaemlcmkkjayGSpec
import Derived.Maps.Views
namespace Go.Proofs.Ythkhaemlcmkkjay
set_option linter.unusedVariables false
set_option linter.unusedSimpArgs false
open Go.RowKit Go.Deep Go.Maps

theorem lawStr : Keyed Try.prog 9 := string_keyed Try.underlying9
theorem zeroInt (w : World) : (zeroValue 3).run Try.prog w = .ok (.int .i64 0) w := by kernel_rfl
/-- The map of names at block bm, as the datum D. -/
abbrev Names (w : World) (bm n : Nat) (D : DataW Unit) : Prop := w.ownsMap Try.prog 9 (plainElem (H := Unit) Try.prog 3) bm n D
abbrev nkey (nm : ByteArray) : Lit := .string nm.data.toList

abbrev i64D (z : Int) : DataW Unit := .lit (.int .i64 z)
/-- The number of a name: as it was, or a new one. -/
def NumStep (D : DataW Unit) (nm : ByteArray) (c : Int) (D' : DataW Unit) : Prop :=
  (c ≠ 0 ∧ D' = D ∧ D.atKey (nkey nm) (i64D 0) = i64D c) ∨ (D.atKey (nkey nm) (i64D 0) = i64D 0 ∧ c = (Maps.size D : Int) + 1 ∧ D' = D.put (nkey nm) (i64D c))

set_option maxRecDepth 100000 in
set_option maxHeartbeats 2000000 in
theorem numberOf_any (nm : ByteArray) (hnm : nm.size ≤ maxLen) (bm n : Nat) (D : DataW Unit) (hn : n < 1000) (hsz : Maps.size D ≤ n) (a : Option Addr) (pn pc : Nat) (room : Int) (xa : Option Addr) (xn xc : Nat) (w : World) (hown : Names w bm n D) (hbm : bm < w.heap.size) :
    Calls Try.prog 61 #[.agg #[.slice a pn pc, .int .i64 room, .map (some bm), .slice xa xn xc], .string nm] w fun e w' => ∃ (c : Int) (n' : Nat) (D' : DataW Unit), e = .returned (.int .i64 c) ∧ n' ≤ n + 1 ∧ Names w' bm n' D' ∧ NumStep D nm c D' ∧ w.grownBy w' (some bm) := by
  have hkey := Go.WideMaps.keyOf_string_mk (P := Try.prog) Try.underlying9 hnm
  have hown0 := hown.alloc (.cells #[.slice a pn pc, .int .i64 room, .map (some bm), .slice xa xn xc] 68)
  have hws : IntKind.i64.wrap ((Maps.size D : Int) + 1) = (Maps.size D : Int) + 1 := by rw [IntKind.wrap_i64]; omega
  go_enter Try.func61, Try.ntmps61
  go_wp2_with (first
    | (at_lookup; refine wpList_lookup_own_int _ rfl _ _ 65 rfl 9 3 .i64 lawStr Try.underlying65 Try.underlying3 (zeroInt _) bm _ _ rfl hown1 _ _ rfl hkey ?_; intro c2 hat2 hwc2)
    | (at_lookup; refine wpList_lookup_own_int _ rfl _ _ 65 rfl 9 3 .i64 lawStr Try.underlying65 Try.underlying3 (zeroInt _) bm _ _ rfl hown0 _ _ rfl hkey ?_; intro c hat hwc)
    | (at_len; refine wpList_len_own _ rfl _ 65 rfl 9 3 Try.underlying65 _ bm _ _ rfl hown0 ?_)
    | (at_mapUpdate; refine wpList_mapUpdate_own _ rfl _ _ _ 65 rfl 9 3 lawStr Try.underlying65 _ bm _ _ rfl hown0 (by unfold maxLen; omega) _ _ _ rfl rfl hkey _ [] (plainElem_int Try.underlying3 (WalkArith.wf_i64 (by omega))) ?_; intro w1 hown1 hgrow1; have z2 := (World.cell?_of_block (w := w.alloc (.cells #[.slice a pn pc, .int .i64 room, .map (some bm), .slice xa xn xc] 68)) (a := ⟨w.heap.size, 2, none⟩) (hgrow1.block w.heap.size (by simp) (by simp; omega))); simp at z2)
    | go_in)
  · rename_i hc0
    have hc : c = 0 := by simpa using hc0
    subst hc
    have e2 : c2 = (Maps.size D : Int) + 1 := by
      rw [atKey_put_same hown.isMap (show WideAt.IsKeyLit (.string nm.data.toList) from trivial)] at hat2
      simp at hat2
      exact hat2.symm
    subst e2
    go_ret
    exact ⟨_, n + 1, _, rfl, Nat.le_refl _, hown1, Or.inr ⟨hat, rfl, rfl⟩, (World.grownBy_alloc _ _ _).trans hgrow1⟩
  · rename_i c' hat' hwc' hc0
    have hcc : c = c' := by
      rw [hat] at hat'
      simpa using hat'
    have hc : c ≠ 0 := by
      rw [hcc]
      simpa using hc0
    go_ret
    exact ⟨c, n, D, rfl, Nat.le_succ _, hown0, Or.inl ⟨hc, rfl, hat⟩, World.grownBy_alloc _ _ _⟩
end Go.Proofs.Ythkhaemlcmkkjay

namespace Go.Proofs.Ythkhaemlcmkkjay
set_option linter.unusedVariables false
set_option linter.unusedSimpArgs false
open Go.RowKit Go.Deep Go.Maps

/-- The bits of the places below k of which p holds. -/
def bitsTo (p : Nat → Bool) : Nat → Nat
  | 0 => 0
  | k + 1 => if p k then bitsTo p k ||| 2 ^ k else bitsTo p k
theorem bitsTo_lt (p : Nat → Bool) : ∀ k, bitsTo p k < 2 ^ k
  | 0 => by simp [bitsTo]
  | k + 1 => by
    have ih := bitsTo_lt p k
    have h2 : 2 ^ k < 2 ^ (k + 1) := Nat.pow_lt_pow_right (by omega) (by omega)
    unfold bitsTo
    split
    · exact Nat.or_lt_two_pow (by omega) h2
    · omega

set_option maxRecDepth 100000 in
set_option maxHeartbeats 4000000 in
theorem fitting_any (q : ReqD) (hq : q.name.size ≤ maxLen) (bm n : Nat) (D : DataW Unit) (a : Option Addr) (l : List PackD) (cap : Nat) (room : Int) (ag ac : Nat) (num : Nat → Int) (w : World) (hown : Names w bm n D) (hbm : bm < w.heap.size) (h : PacksAt (Old w) w a l) (hl : l.length ≤ 8) (hag : ag < w.heap.size) (hnum : ∀ i, i < l.length → w.cell? ⟨ag, i * 5, none⟩ = some (.int .i64 (num i))) :
    Calls Try.prog 62 #[.agg #[.slice a l.length cap, .int .i64 room, .map (some bm), .slice (some ⟨ag, 0, none⟩) l.length ac], .agg #[.string q.name, .int .i64 q.low, .int .i64 q.high]] w
      fun e w' => ∃ c : Int, D.atKey (nkey q.name) (i64D 0) = i64D c ∧ e = .returned (.int .u64 (bitsTo (fun i => decide (num i = c) && inB (l.getD i dPack).ver q.low q.high) l.length : Nat)) ∧ Below w.heap.size w w' := by
  have hkey := Go.WideMaps.keyOf_string_mk (P := Try.prog) Try.underlying9 hq
  have bA := ((Below.refl w.heap.size w).alloc (Nat.le_refl _) (.cells #[.slice a l.length cap, .int .i64 room, .map (some bm), .slice (some ⟨ag, 0, none⟩) l.length ac] 68)).alloc (by simp) (.cells #[.string q.name, .int .i64 q.low, .int .i64 q.high] 90)
  have hown0 := (hown.alloc (.cells #[.slice a l.length cap, .int .i64 room, .map (some bm), .slice (some ⟨ag, 0, none⟩) l.length ac] 68)).alloc (.cells #[.string q.name, .int .i64 q.low, .int .i64 q.high] 90)
  have HP := hide h
  have HN := hide hnum
  have HBA := hide bA
  clear h hnum hown bA
  go_enter Try.func62, Try.ntmps62
  go_wp2_with (first
    | (at_lookup; refine wpList_lookup_own_int _ rfl _ _ 65 rfl 9 3 .i64 lawStr Try.underlying65 Try.underlying3 (zeroInt _) bm _ _ rfl hown0 _ _ rfl hkey ?_; intro c hat hwc)
    | go_in)
  go_loopw [5, 17] (fun v i wr => ∃ k : Nat, k ≤ l.length ∧ i = .int .i64 k ∧ v = .int .u64 ((bitsTo (fun i => decide (num i = c) && inB (l.getD i dPack).ver q.low q.high) k : Nat) : Int) ∧ Hid (Below (w.heap.size + 1 + 1) ((w.alloc (.cells #[.slice a l.length cap, .int .i64 room, .map (some bm), .slice (some ⟨ag, 0, none⟩) l.length ac] 68)).alloc (.cells #[.string q.name, .int .i64 q.low, .int .i64 q.high] 90)) wr)) (fun _ i _ => l.length - (intOf i).toNat)
  case atStart => exact ⟨0, Nat.zero_le _, rfl, rfl, Below.refl _ _⟩
  case round =>
    rename World => wo
    obtain ⟨k, hk, rfl, rfl, HW⟩ := hrel
    by_cases hlt : k < l.length
    · have j1 : (k : Int) < (l.length : Int) := by omega
      rcases (unhide HP).2 with hnil | ⟨pb, po, rfl, hpS, hpk⟩
      · rw [hnil] at hlt; simp at hlt
      obtain ⟨a1, c1, a2, c2, a3, c3, hcells, _⟩ := hpk k hlt
      obtain ⟨n0, n1, n2, n3, n4, n5⟩ := hcells
      have m0 := unhide HN k hlt
      have hzo := (unhide HW).size
      simp at hzo
      have same : ∀ b, b < w.heap.size → wo.heap[b]? = w.heap[b]? := fun b hb => ((unhide HW).block b (by omega)).trans ((unhide HBA).block b hb)
      rw [← World.cell?_of_block (w := w) (a := ⟨pb, _, none⟩) (same pb hpS)] at n0 n1 n2 n3 n4 n5
      rw [← World.cell?_of_block (w := w) (a := ⟨ag, _, none⟩) (same ag hag)] at m0
      have x3 := (unhide HW).cell (p := ⟨w.heap.size, 3, none⟩) (by simp; omega)
      have y1 := (unhide HW).cell (p := ⟨w.heap.size + 1, 1, none⟩) (by simp)
      have y2 := (unhide HW).cell (p := ⟨w.heap.size + 1, 2, none⟩) (by simp)
      simp at x3 y1 y2
      have hbl := bitsTo_lt (fun i => decide (num i = c) && inB (l.getD i dPack).ver q.low q.high) k
      have hp8 := pow_small k (by omega)
      have hst : bitsTo (fun i => decide (num i = c) && inB (l.getD i dPack).ver q.low q.high) (k + 1) = if (decide (num k = c) && inB (l.getD k dPack).ver q.low q.high) then bitsTo (fun i => decide (num i = c) && inB (l.getD i dPack).ver q.low q.high) k ||| 2 ^ k else bitsTo (fun i => decide (num i = c) && inB (l.getD i dPack).ver q.low q.high) k := rfl
      generalize bitsTo (fun i => decide (num i = c) && inB (l.getD i dPack).ver q.low q.high) k = s at hbl hst ⊢
      have HST := hide hst
      have hltp : pb < wo.heap.size := by have : pb < w.heap.size := hpS; omega
      have hlta : ag < wo.heap.size := by omega
      have HSM := hide same
      have hw0 : w.heap.size < wo.heap.size := by omega
      have hw1 : w.heap.size + 1 < wo.heap.size := by omega
      have hs16 : s < 65536 := by omega
      have HBW := hide (fun A => (unhide HW).trans ((Below.refl (w.heap.size + 1 + 1) wo).alloc (by omega) A))
      clear hpk hst same
      by_cases hnc : num k = c
      · have hncb : (num k == c) = true := by simp [hnc]
        cases hin : inB (l.getD k dPack).ver q.low q.high with
        | true =>
          have e : bitsTo (fun i => decide (num i = c) && inB (l.getD i dPack).ver q.low q.high) (k + 1) = s ||| 2 ^ k := by rw [unhide HST, hin]; simp [hnc]
          have HE := hide e
          clear e HST
          generalize (l.getD k dPack) = P at n0 n1 n2 n3 n4 n5 hin
          go_wp2_with (first
            | (go_at_call 46; refine (within_any _ _ _ _).mono ?_; rintro e w' ⟨rfl, hww⟩; obtain rfl := hww.symm)
            | (go_at_call 47; refine (with_any s k hs16 (by omega) _).mono ?_; rintro e w' ⟨rfl, hww⟩; obtain rfl := hww.symm))
          go_roundw
          case rel => exact ⟨k + 1, by omega, by go_num, by rw [unhide HE], unhide HBW _⟩
          case measure => simp [intOf]; omega
        | false =>
          have e : bitsTo (fun i => decide (num i = c) && inB (l.getD i dPack).ver q.low q.high) (k + 1) = s := by rw [unhide HST, hin]; simp
          have HE := hide e
          clear e HST
          generalize (l.getD k dPack) = P at n0 n1 n2 n3 n4 n5 hin
          go_wp2_with (first
            | (go_at_call 46; refine (within_any _ _ _ _).mono ?_; rintro e w' ⟨rfl, hww⟩; obtain rfl := hww.symm))
          go_roundw
          case rel => exact ⟨k + 1, by omega, by go_num, by rw [unhide HE], unhide HBW _⟩
          case measure => simp [intOf]; omega
      · have hncb : (num k == c) = false := by simp [hnc]
        have e : bitsTo (fun i => decide (num i = c) && inB (l.getD i dPack).ver q.low q.high) (k + 1) = s := by rw [unhide HST]; simp [hnc]
        have HE := hide e
        clear e HST
        go_wp2_with fail
        go_roundw
        case rel => exact ⟨k + 1, by omega, by go_num, by rw [unhide HE], unhide HBW _⟩
        case measure => simp [intOf]; omega
    · have j1 : ¬ (k : Int) < (l.length : Int) := by omega
      have hke : k = l.length := by omega
      subst hke
      go_wp2_with fail
      go_ret
      first
        | exact ⟨c, hat, rfl, (unhide HBA).trans ((unhide HW).mono (by omega))⟩
        | exact ⟨rfl, (unhide HBA).trans ((unhide HW).mono (by omega))⟩
end Go.Proofs.Ythkhaemlcmkkjay

namespace Go.Proofs.Ythkhaemlcmkkjay
set_option linter.unusedVariables false
set_option linter.unusedSimpArgs false
open Go.RowKit Go.Deep Go.Maps

/-- The number of a name. -/
def numOf (D : DataW Unit) (nm : ByteArray) : Int := match D.atKey (nkey nm) (i64D 0) with
  | .lit (.int _ c) => c
  | _ => 0
def fitP (D : DataW Unit) (num : Nat → Int) (l : List PackD) (q : ReqD) (i : Nat) : Bool := decide (num i = numOf D q.name) && inB (l.getD i dPack).ver q.low q.high
def orTo (f : Nat → Nat) : Nat → Nat
  | 0 => 0
  | k + 1 => orTo f k ||| f k
theorem orTo_lt {f : Nat → Nat} {m : Nat} (h : ∀ i, f i < 2 ^ m) : ∀ k, orTo f k < 2 ^ m
  | 0 => by simp [orTo, Nat.two_pow_pos]
  | k + 1 => Nat.or_lt_two_pow (orTo_lt h k) (h k)
def fitAny (D : DataW Unit) (num : Nat → Int) (l : List PackD) (reqs : List ReqD) (k : Nat) : Nat := orTo (fun j => bitsTo (fitP D num l (reqs.getD j dReq)) l.length) k

theorem fitting_num (q : ReqD) (hq : q.name.size ≤ maxLen) (bm n : Nat) (D : DataW Unit) (a : Option Addr) (l : List PackD) (cap : Nat) (room : Int) (ag ac : Nat) (num : Nat → Int) (w : World) (hown : Names w bm n D) (hbm : bm < w.heap.size) (h : PacksAt (Old w) w a l) (hl : l.length ≤ 8) (hag : ag < w.heap.size) (hnum : ∀ i, i < l.length → w.cell? ⟨ag, i * 5, none⟩ = some (.int .i64 (num i))) :
    Calls Try.prog 62 #[.agg #[.slice a l.length cap, .int .i64 room, .map (some bm), .slice (some ⟨ag, 0, none⟩) l.length ac], .agg #[.string q.name, .int .i64 q.low, .int .i64 q.high]] w
      fun e w' => e = .returned (.int .u64 (bitsTo (fitP D num l q) l.length : Nat)) ∧ Below w.heap.size w w' := by
  refine (fitting_any q hq bm n D a l cap room ag ac num w hown hbm h hl hag hnum).mono ?_
  rintro e w' ⟨c, hc, rfl, hb⟩
  have e1 : numOf D q.name = c := by unfold numOf; rw [hc]
  refine ⟨?_, hb⟩
  unfold fitP
  rw [e1]

theorem Names.on {w w' : World} {bm n : Nat} {D : DataW Unit} (h : Names w bm n D) (hb : Below w.heap.size w w') : Names w' bm n D :=
  World.ownsMap.kept (row := none) h ⟨hb.os, hb.tape, hb.output, hb.size, fun b hb' _ => hb.block b hb'⟩ (by simp)

set_option maxRecDepth 100000 in
set_option maxHeartbeats 4000000 in
theorem fittingAny_any (ra : Option Addr) (reqs : List ReqD) (rc : Nat) (bm n : Nat) (D : DataW Unit) (a : Option Addr) (l : List PackD) (cap : Nat) (room : Int) (ag ac : Nat) (num : Nat → Int) (w : World) (hown : Names w bm n D) (hbm : bm < w.heap.size) (h : PacksAt (Old w) w a l) (hl : l.length ≤ 8) (hag : ag < w.heap.size) (hnum : ∀ i, i < l.length → w.cell? ⟨ag, i * 5, none⟩ = some (.int .i64 (num i))) (hr : ReqsAt (Old w) w ra reqs) :
    Calls Try.prog 64 #[.agg #[.slice a l.length cap, .int .i64 room, .map (some bm), .slice (some ⟨ag, 0, none⟩) l.length ac], .slice ra reqs.length rc] w
      fun e w' => e = .returned (.int .u64 (fitAny D num l reqs reqs.length : Nat)) ∧ Below w.heap.size w w' := by
  have hm := hr.1
  unfold maxLen at hm
  have bA := (Below.refl w.heap.size w).alloc (Nat.le_refl _) (.cells #[.slice a l.length cap, .int .i64 room, .map (some bm), .slice (some ⟨ag, 0, none⟩) l.length ac] 68)
  have HP := hide h
  have HN := hide hnum
  have HO := hide hown
  have HR := hide hr
  have HBA := hide bA
  have hb8 : ∀ i, bitsTo (fitP D num l (reqs.getD i dReq)) l.length < 2 ^ 8 := fun i => by
    have h1 := bitsTo_lt (fitP D num l (reqs.getD i dReq)) l.length
    have h2 : 2 ^ l.length ≤ 2 ^ 8 := Nat.pow_le_pow_right (by omega) hl
    omega
  have HB8 := hide hb8
  clear h hnum hown bA hr hb8
  go_enter Try.func64, Try.ntmps64
  go_wp2_with fail
  go_loopw [5, 10] (fun v i wr => ∃ k : Nat, k ≤ reqs.length ∧ i = .int .i64 k ∧ v = .int .u64 ((fitAny D num l reqs k : Nat) : Int) ∧ Hid (Below (w.heap.size + 1) (w.alloc (.cells #[.slice a l.length cap, .int .i64 room, .map (some bm), .slice (some ⟨ag, 0, none⟩) l.length ac] 68)) wr)) (fun _ i _ => reqs.length - (intOf i).toNat)
  case atStart => exact ⟨0, Nat.zero_le _, rfl, rfl, Below.refl _ _⟩
  case round =>
    rename World => wo
    obtain ⟨k, hk, rfl, rfl, HW⟩ := hrel
    by_cases hlt : k < reqs.length
    · have j1 : (k : Int) < (reqs.length : Int) := by omega
      rcases (unhide HR).2 with hnil | ⟨pb, po, rfl, hpS, hpk⟩
      · rw [hnil] at hlt; simp at hlt
      obtain ⟨n0, n1, n2, hql⟩ := hpk k hlt
      have hzo := (unhide HW).size
      simp at hzo
      have bo : Below w.heap.size w wo := (unhide HBA).trans ((unhide HW).mono (by omega))
      rw [← World.cell?_of_block (w := w) (a := ⟨pb, _, none⟩) (bo.block pb hpS)] at n0 n1 n2
      have x0 := (unhide HW).cell (p := ⟨w.heap.size, 0, none⟩) (by simp)
      have x1 := (unhide HW).cell (p := ⟨w.heap.size, 1, none⟩) (by simp)
      have x2 := (unhide HW).cell (p := ⟨w.heap.size, 2, none⟩) (by simp)
      have x3 := (unhide HW).cell (p := ⟨w.heap.size, 3, none⟩) (by simp)
      simp at x0 x1 x2 x3
      have hfl := orTo_lt (unhide HB8) k
      have hfk := unhide HB8 k
      have hst : fitAny D num l reqs (k + 1) = fitAny D num l reqs k ||| bitsTo (fitP D num l (reqs.getD k dReq)) l.length := rfl
      have hfl' : fitAny D num l reqs k < 2 ^ 8 := hfl
      have bq := fun A => bo.trans ((Below.refl w.heap.size wo).alloc (by omega) A)
      have HC := hide (fun A => fitting_num (reqs.getD k dReq) hql bm n D a l cap room ag ac num (wo.alloc A) ((unhide HO).on (bq A)) (by have := (bq A).size; omega) ((unhide HP).on (bq A)) hl (by have := (bq A).size; omega) (fun i hi => by rw [World.cell?_of_block (w := w) (a := ⟨ag, i * 5, none⟩) ((bq A).block ag hag)]; exact unhide HN i hi))
      generalize fitAny D num l reqs k = s at hst hfl' ⊢
      generalize bitsTo (fitP D num l (reqs.getD k dReq)) l.length = t at hst hfk HC
      generalize reqs.getD k dReq = Q at n0 n1 n2 HC hql
      have hor := bits_or s t (by omega) (by omega)
      have HST := hide hst
      have hw0 : w.heap.size < wo.heap.size := by omega
      have hltp : pb < wo.heap.size := by have : pb < w.heap.size := hpS; omega
      have HBO := hide (fun A => (unhide HW).trans ((Below.refl (w.heap.size + 1) wo).alloc (by omega) A))
      clear hpk hst hfl bq bo
      go_wp2_with (first
        | (go_at_call 62; refine (unhide HC _).mono ?_; rintro e w' ⟨rfl, hb2⟩; have HB2 := hide hb2; clear hb2))
      go_roundw
      case rel => exact ⟨k + 1, by omega, by go_num, by rw [unhide HST], (unhide HBO _).trans ((unhide HB2).mono (by simp; omega))⟩
      case measure => simp [intOf]; omega
    · have j1 : ¬ (k : Int) < (reqs.length : Int) := by omega
      have hke : k = reqs.length := by omega
      subst hke
      go_wp2_with fail
      go_ret
      exact ⟨rfl, (unhide HBA).trans ((unhide HW).mono (by omega))⟩
end Go.Proofs.Ythkhaemlcmkkjay

namespace Go.Proofs.Ythkhaemlcmkkjay
set_option linter.unusedVariables false
set_option linter.unusedSimpArgs false
open Go.RowKit

def fitsB (q : ReqD) (p : PackD) : Bool := (p.name.toList == q.name.toList) && inB p.ver q.low q.high

end Go.Proofs.Ythkhaemlcmkkjay

namespace Go.Proofs.Ythkhaemlcmkkjay
set_option linter.unusedVariables false
set_option linter.unusedSimpArgs false
open Go.RowKit Go.Deep Go.Maps

theorem ba_ext {a b : ByteArray} (h : a.data.toList = b.data.toList) : a = b := by
  cases a; cases b
  simp at h
  simp [h]
theorem ba_toList (a : ByteArray) : a.toList = a.data.toList := ByteArray.toList_eq a
theorem nkey_inj {a b : ByteArray} (h : nkey a = nkey b) : a = b := by
  simp at h
  exact ba_ext (by simpa using h)

/-- The first k packs have their numbers. -/
structure NumsOk (l : List PackD) (k : Nat) (D : DataW Unit) (num : List Int) : Prop where
  len : num.length = k
  tidy : Tidy D
  at' : ∀ i, i < k → numOf D (l.getD i dPack).name = num.getD i 0
  pos : ∀ i, i < k → num.getD i 0 ≠ 0
  top : ∀ i, i < k → num.getD i 0 ≤ (Maps.size D : Int)
  has' : ∀ nm, Maps.has D (nkey nm) = true → ∃ i, i < k ∧ (l.getD i dPack).name = nm
  zero : ∀ nm, numOf D nm ≠ 0 → ∃ i, i < k ∧ (l.getD i dPack).name = nm
  inj : ∀ i j, i < k → j < k → num.getD i 0 = num.getD j 0 → (l.getD i dPack).name = (l.getD j dPack).name

theorem numOf_at {D : DataW Unit} {nm : ByteArray} {c : Int} (h : D.atKey (nkey nm) (i64D 0) = i64D c) : numOf D nm = c := by
  unfold numOf; rw [h]

theorem NumsOk.empty (l : List PackD) : NumsOk l 0 (.map []) [] := by
  refine ⟨rfl, tidy_empty, ?_, ?_, ?_, ?_, ?_, ?_⟩
  · intro i hi; omega
  · intro i hi; omega
  · intro i hi; omega
  · intro nm h; simp [Maps.has] at h
  · intro nm h; exact absurd rfl h
  · intro i j hi; omega

theorem getD_snoc_lt {l : List Int} {c : Int} {i : Nat} (h : i < l.length) : (l ++ [c]).getD i 0 = l.getD i 0 := by
  simp [List.getD, List.getElem?_append, h]
theorem getD_snoc_eq {l : List Int} {c : Int} : (l ++ [c]).getD l.length 0 = c := by
  simp [List.getD]

theorem NumsOk.step {l : List PackD} {k : Nat} {D D' : DataW Unit} {num : List Int} {c : Int} (h : NumsOk l k D num) (hs : NumStep D (l.getD k dPack).name c D') (ht : Tidy D') : NumsOk l (k + 1) D' (num ++ [c]) := by
  obtain ⟨h0, h1, h2, h3, h4, h5, h6, h7⟩ := h
  have gl : ∀ i, i < k → (num ++ [c]).getD i 0 = num.getD i 0 := fun i hi => getD_snoc_lt (by omega)
  have ge : (num ++ [c]).getD k 0 = c := by rw [← h0]; exact getD_snoc_eq
  rcases hs with ⟨hc, rfl, hat⟩ | ⟨hat, hc, rfl⟩
  · have hn := numOf_at hat
    obtain ⟨j, hj, hjn⟩ := h6 _ (by rw [hn]; exact hc)
    have hjc : num.getD j 0 = c := by rw [← h2 j hj, hjn, hn]
    refine ⟨by simp [h0], ht, ?_, ?_, ?_, ?_, ?_, ?_⟩
    · intro i hi
      by_cases e : i = k
      · subst e; rw [ge, hn]
      · rw [gl i (by omega)]; exact h2 i (by omega)
    · intro i hi
      by_cases e : i = k
      · subst e; rw [ge]; exact hc
      · rw [gl i (by omega)]; exact h3 i (by omega)
    · intro i hi
      by_cases e : i = k
      · subst e; rw [ge, ← hjc]; exact h4 j hj
      · rw [gl i (by omega)]; exact h4 i (by omega)
    · intro nm hh
      obtain ⟨i, hi, he⟩ := h5 nm hh
      exact ⟨i, by omega, he⟩
    · intro nm hh
      obtain ⟨i, hi, he⟩ := h6 nm hh
      exact ⟨i, by omega, he⟩
    · intro i i' hi hi' he
      by_cases e : i = k
      · subst e
        by_cases e' : i' = i
        · rw [e']
        · rw [ge, gl i' (by omega), ← hjc] at he
          rw [← hjn]
          exact h7 j i' hj (by omega) he
      · by_cases e' : i' = k
        · subst e'
          rw [ge, gl i (by omega), ← hjc] at he
          rw [← hjn]
          exact h7 i j (by omega) hj he
        · rw [gl i (by omega), gl i' (by omega)] at he
          exact h7 i i' (by omega) (by omega) he
  · have hn := numOf_at hat
    have hkey : WideAt.IsKeyLit (nkey (l.getD k dPack).name) := trivial
    have hno : Maps.has D (nkey (l.getD k dPack).name) = false := by
      cases hh : Maps.has D (nkey (l.getD k dPack).name) with
      | false => rfl
      | true =>
        obtain ⟨i, hi, he⟩ := h5 _ hh
        have := h2 i hi
        rw [he, hn] at this
        exact absurd this.symm (h3 i hi)
    have hsz : Maps.size (D.put (nkey (l.getD k dPack).name) (i64D c)) = Maps.size D + 1 := by rw [size_put h1, hno]; rfl
    have hsame : numOf (D.put (nkey (l.getD k dPack).name) (i64D c)) (l.getD k dPack).name = c := numOf_at (atKey_put_same h1.isMap hkey _ _)
    have hother : ∀ nm, nm ≠ (l.getD k dPack).name → numOf (D.put (nkey (l.getD k dPack).name) (i64D c)) nm = numOf D nm := fun nm hne => by
      unfold numOf
      rw [atKey_put_other (fun e => hne (nkey_inj e))]
    have hne : ∀ i, i < k → (l.getD i dPack).name ≠ (l.getD k dPack).name := fun i hi e => by
      have := h2 i hi
      rw [e, hn] at this
      exact h3 i hi this.symm
    refine ⟨by simp [h0], ht, ?_, ?_, ?_, ?_, ?_, ?_⟩
    · intro i hi
      by_cases e : i = k
      · subst e; rw [ge, hsame]
      · rw [gl i (by omega), hother _ (hne i (by omega))]; exact h2 i (by omega)
    · intro i hi
      by_cases e : i = k
      · subst e; rw [ge]; omega
      · rw [gl i (by omega)]; exact h3 i (by omega)
    · intro i hi
      rw [hsz]
      by_cases e : i = k
      · subst e; rw [ge]; omega
      · rw [gl i (by omega)]; have := h4 i (by omega); omega
    · intro nm hh
      by_cases e : nm = (l.getD k dPack).name
      · exact ⟨k, by omega, e.symm⟩
      · rw [has_put_other (fun x => e (nkey_inj x))] at hh
        obtain ⟨i, hi, he⟩ := h5 nm hh
        exact ⟨i, by omega, he⟩
    · intro nm hh
      by_cases e : nm = (l.getD k dPack).name
      · exact ⟨k, by omega, e.symm⟩
      · rw [hother nm e] at hh
        obtain ⟨i, hi, he⟩ := h6 nm hh
        exact ⟨i, by omega, he⟩
    · intro i i' hi hi' he
      by_cases e : i = k
      · subst e
        by_cases e' : i' = i
        · rw [e']
        · rw [ge, gl i' (by omega)] at he
          have := h4 i' (by omega)
          omega
      · by_cases e' : i' = k
        · subst e'
          rw [ge, gl i (by omega)] at he
          have := h4 i (by omega)
          omega
        · rw [gl i (by omega), gl i' (by omega)] at he
          exact h7 i i' (by omega) (by omega) he

/-- By numbers a pack fits just as by names. -/
theorem NumsOk.fits {l : List PackD} {D : DataW Unit} {num : List Int} (h : NumsOk l l.length D num) (q : ReqD) {i : Nat} (hi : i < l.length) : fitP D (fun i => num.getD i 0) l q i = fitsB q (l.getD i dPack) := by
  unfold fitP fitsB
  congr 1
  rw [Bool.eq_iff_iff, decide_eq_true_eq, beq_iff_eq]
  constructor
  · intro e
    obtain ⟨j, hj, hjn⟩ := h.zero q.name (by rw [← e]; exact h.pos i hi)
    rw [← hjn]
    have h2 := h.at' j hj
    rw [hjn, ← e] at h2
    rw [h.inj i j hi hj h2]
  · intro e
    have e1 : (l.getD i dPack).name = q.name := ba_ext (by rw [← ba_toList, ← ba_toList]; exact e)
    rw [← e1, h.at' i hi]

theorem bitsTo_congr {p q : Nat → Bool} : ∀ {k : Nat}, (∀ i, i < k → p i = q i) → bitsTo p k = bitsTo q k
  | 0, _ => rfl
  | k + 1, h => by
    unfold bitsTo
    rw [bitsTo_congr (fun i hi => h i (by omega)), h k (by omega)]
theorem test_bitsTo (p : Nat → Bool) : ∀ (k i : Nat), (bitsTo p k).testBit i = (decide (i < k) && p i)
  | 0, i => by simp [bitsTo]
  | k + 1, i => by
    unfold bitsTo
    split
    · rename_i hk
      rw [Nat.testBit_or, test_bitsTo p k i, Nat.testBit_two_pow]
      by_cases e : k = i
      · subst e; simp [hk]
      · have : (decide (i < k + 1)) = decide (i < k) := by
          rw [decide_eq_decide]; omega
        simp [e, this]
    · rename_i hk
      rw [test_bitsTo p k i]
      by_cases e : k = i
      · subst e; simp at hk; simp [hk]
      · have : (decide (i < k + 1)) = decide (i < k) := by
          rw [decide_eq_decide]; omega
        simp [this]
theorem orTo_bits (f : Nat → Nat → Bool) (n : Nat) : ∀ k, orTo (fun j => bitsTo (f j) n) k = bitsTo (fun i => (List.range k).any fun j => f j i) n
  | 0 => by
    apply Nat.eq_of_testBit_eq
    intro i
    rw [test_bitsTo]
    simp [orTo]
  | k + 1 => by
    apply Nat.eq_of_testBit_eq
    intro i
    unfold orTo
    rw [orTo_bits f n k, Nat.testBit_or, test_bitsTo, test_bitsTo, test_bitsTo, List.range_succ]
    simp only [List.any_append, List.any_cons, List.any_nil, Bool.or_false]
    cases decide (i < n) <;> simp
theorem without_bits (p : Nat → Bool) (n i : Nat) (hn : n ≤ 16) (hi : i < 16) : bitsTo p n &&& (18446744073709551615 - 2 ^ i) = bitsTo (fun j => p j && decide (j ≠ i)) n := by
  apply Nat.eq_of_testBit_eq
  intro j
  rw [Nat.testBit_and, test_bitsTo, test_bitsTo]
  by_cases hj : j < n
  · have e1 : (18446744073709551615 - 2 ^ i).testBit j = decide (j ≠ i) := by
      have hj16 : j < 16 := by omega
      have e2 : 18446744073709551615 - 2 ^ i = 2 ^ 64 - (2 ^ i + 1) := by omega
      rw [e2, Nat.testBit_two_pow_sub_succ (by have := pow_small i hi; omega), Nat.testBit_two_pow]
      have : j < 64 := by omega
      by_cases e : i = j
      · subst e; simp
      · have : ¬ j = i := fun x => e x.symm
        simp [e, this]; omega
    rw [e1, Bool.and_assoc]
  · simp [hj]
/-- One of some requests is fit. -/
def anyB (reqs : List ReqD) (p : PackD) : Bool := reqs.any fun q => fitsB q p
theorem NumsOk.fitsAny {l : List PackD} {D : DataW Unit} {num : List Int} (h : NumsOk l l.length D num) (reqs : List ReqD) : fitAny D (fun i => num.getD i 0) l reqs reqs.length = bitsTo (fun i => anyB reqs (l.getD i dPack)) l.length := by
  unfold fitAny
  rw [orTo_bits]
  apply bitsTo_congr
  intro i hi
  unfold anyB
  rw [Bool.eq_iff_iff, List.any_eq_true, List.any_eq_true]
  constructor
  · rintro ⟨j, hj, hf⟩
    have hj' := List.mem_range.1 hj
    exact ⟨reqs.getD j dReq, getD_mem hj', by rw [← h.fits _ hi]; exact hf⟩
  · rintro ⟨q, hq, hf⟩
    obtain ⟨j, hj, he⟩ := List.getElem_of_mem hq
    refine ⟨j, List.mem_range.2 hj, ?_⟩
    have : reqs.getD j dReq = q := by simp [List.getD, hj, he]
    rw [this, h.fits _ hi]
    exact hf
end Go.Proofs.Ythkhaemlcmkkjay
