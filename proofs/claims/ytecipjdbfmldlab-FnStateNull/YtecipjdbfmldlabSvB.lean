/- The program's health of a state. -/
import Derived.Test.YtecipjdbfmldlabSvA
import Derived.Test.YtecipjdbfmldlabRegM
namespace Go.Proofs.Ytecipjdbfmldlab
set_option linter.unusedVariables false
set_option linter.unusedSimpArgs false
open Go.RowKit Go.Deep

/-- What packs that are ok have. -/
structure OkL (l : List PackD) : Prop where
  l8 : l.length ≤ 8
  size : ∀ q, q < l.length → 0 ≤ (l.getD q dPack).size ∧ (l.getD q dPack).size ≤ 999
  ver : ∀ q, q < l.length → inB (l.getD q dPack).ver 0 99 = true
  reqs : ∀ q, q < l.length → (l.getD q dPack).deps.length ≤ 4 ∧ (l.getD q dPack).pres.length ≤ 4
theorem OkL.of {l : List PackD} {room : Int} (h : repoB ⟨l, room⟩ = true) : OkL l := by
  simp only [repoB, Bool.and_eq_true, decide_eq_true_eq] at h
  obtain ⟨⟨⟨h1, h2⟩, h3⟩, h4⟩ := h
  have hp : ∀ q, q < l.length → packB (l.getD q dPack) = true := fun q hq => List.all_eq_true.1 h3 _ (getD_mem hq)
  refine ⟨h1, fun q hq => ?_, fun q hq => ?_, fun q hq => ?_⟩
  · have := hp q hq
    simp only [packB, inB, reqsB, Bool.and_eq_true, decide_eq_true_eq] at this
    omega
  · have := hp q hq
    simp only [packB, Bool.and_eq_true] at this
    exact this.1.1.1.1.1.2
  · have := hp q hq
    simp only [packB, reqsB, Bool.and_eq_true, decide_eq_true_eq] at this
    exact ⟨this.1.1.1.2, this.1.2.1⟩
theorem twN_lt {l : List PackD} (hl : l.length ≤ 8) (i : Nat) : twN l i < 65536 := by
  have h1 := bitsTo_lt (fun j => fitsB ⟨(l.getD i dPack).name, 0, 99⟩ (l.getD j dPack) && decide (j ≠ i)) l.length
  have h2 : 2 ^ l.length ≤ 2 ^ 8 := Nat.pow_le_pow_right (by omega) hl
  unfold twN
  omega
theorem bnN_lt {l : List PackD} (hl : l.length ≤ 8) (i : Nat) : bnN l i < 65536 := by
  have h1 := bitsTo_lt (fun j => anyB (l.getD i dPack).bans (l.getD j dPack) && decide (j ≠ i)) l.length
  have h2 : 2 ^ l.length ≤ 2 ^ 8 := Nat.pow_le_pow_right (by omega) hl
  unfold bnN
  omega
/-- A pack has all that it asks for. -/
def servedB (l : List PackD) (s p : Nat) : Bool := !meetB s (twN l p) && !meetB s (bnN l p) && ((l.getD p dPack).deps.map (rowN l)).all (meetB s)
/-- The room of a state, by bits. -/
def bitSize (l : List PackD) (s : Nat) : Int := sumP l (placesTo s 8) (placesTo s 8).length
def healthB (l : List PackD) (room : Int) (s : Nat) : Bool := decide (bitSize l s ≤ room) && (placesTo s 8).all (servedB l s)

set_option maxRecDepth 10000 in
set_option maxHeartbeats 2000000 in
theorem served_any (l : List PackD) (room : Int) (V : Value) (s p : Nat) (hs : s < 65536) (hp : p < l.length) (hok : OkL l) (w : World) (h : Stock w V l room) :
    Calls Try.prog 48 #[V, .int .u64 (s : Int), .int .i64 (p : Int)] w fun e w' => e = .returned (.bool (servedB l s p)) ∧ Below w.heap.size w w' := by
  obtain ⟨a, cap, bm, v, rfl, hP, hv, hA⟩ := h
  obtain ⟨ag, ac, C, rfl, hrow, hnum, hdone⟩ := hA (by omega)
  obtain ⟨c, hc0⟩ := hnum p hp
  obtain ⟨hc1, hc2, ⟨v3, hc3, hb3⟩, ⟨v4, hc4, hb4⟩⟩ := hdone p hp
  have hag := (Array.getElem?_eq_some_iff.1 hrow).1
  have d0 : w.cell? ⟨ag, p * 5, none⟩ = some (.int .i64 c) := by simp only [World.cell?, hrow]; exact hc0
  have d1 : w.cell? ⟨ag, p * 5 + 1, none⟩ = some (.int .u64 ((twN l p : Nat) : Int)) := by simp only [World.cell?, hrow]; exact hc1
  have d2 : w.cell? ⟨ag, p * 5 + 2, none⟩ = some (.int .u64 ((bnN l p : Nat) : Int)) := by simp only [World.cell?, hrow]; exact hc2
  have d3 : w.cell? ⟨ag, p * 5 + 3, none⟩ = some v3 := by simp only [World.cell?, hrow]; exact hc3
  have d4 : w.cell? ⟨ag, p * 5 + 4, none⟩ = some v4 := by simp only [World.cell?, hrow]; exact hc4
  have hb3' := hb3
  obtain ⟨a3, k3, rfl, _⟩ := hb3'
  obtain ⟨a4, k4, rfl, _⟩ := hb4
  have hdl : ((l.getD p dPack).deps.map (rowN l)).length ≤ 1000 := by have := (hok.reqs p hp).1; simp; simp at this; omega
  have hall : ∀ n ∈ (l.getD p dPack).deps.map (rowN l), n < 65536 := fun n hn => by
    obtain ⟨row, _, rfl⟩ := List.mem_map.1 hn
    exact rowN_lt hok.l8 row
  have htw := twN_lt hok.l8 p
  have hbn := bnN_lt hok.l8 p
  have hsv : servedB l s p = (!meetB s (twN l p) && !meetB s (bnN l p) && ((l.getD p dPack).deps.map (rowN l)).all (meetB s)) := rfl
  generalize ((l.getD p dPack).pres.map (preN l)).length = len4 at d4
  generalize hNS : (l.getD p dPack).deps.map (rowN l) = NS at hb3 hdl hall hsv d3
  generalize servedB l s p = R at hsv ⊢
  generalize twN l p = tw at htw d1 hsv
  generalize bnN l p = bn at hbn d2 hsv
  have HSV := hide hsv
  have HB3 := hide hb3
  have hpi : (p : Int) < (l.length : Int) := by omega
  have hm := hP.1
  have hl8 := hok.l8
  clear hsv hb3 hNS hrow hnum hdone hA hP hv hc0 hc1 hc2 hc3 hc4 hok
  have HCB := hide (fun (o1 o2 : Obj) => allBits_any s hs ag a3 NS k3 hdl hall ((w.alloc o1).alloc o2) ((unhide HB3).on ((World.grownBy_alloc _ _ _).trans (World.grownBy_alloc _ _ _))))
  cases h1 : meetB s tw with
  | true =>
    have HE := hide (show R = false from (unhide HSV).trans (by simp [h1]))
    clear HSV
    go_enter Try.func48, Try.ntmps48
    go_wp2_with (first
      | (go_at_call 63; refine (meets_any s tw hs htw _).mono ?_; rintro e w' ⟨rfl, hww⟩; obtain rfl := hww.symm; rw [show decide (s &&& tw ≠ 0) = true from h1]))
    go_ret
    exact ⟨ret_bool (unhide HE).symm, ((Below.refl _ _).alloc (Nat.le_refl _) _).alloc (by simp) _⟩
  | false =>
    cases h2 : meetB s bn with
    | true =>
      have HE := hide (show R = false from (unhide HSV).trans (by simp [h1, h2]))
      clear HSV
      go_enter Try.func48, Try.ntmps48
      go_wp2_with (first
        | (go_at_call 63; refine (meets_any s tw hs htw _).mono ?_; rintro e w' ⟨rfl, hww⟩; obtain rfl := hww.symm; rw [show decide (s &&& tw ≠ 0) = false from h1])
        | (go_at_call 63; refine (meets_any s bn hs hbn _).mono ?_; rintro e w' ⟨rfl, hww⟩; obtain rfl := hww.symm; rw [show decide (s &&& bn ≠ 0) = true from h2]))
      go_ret
      exact ⟨ret_bool (unhide HE).symm, ((Below.refl _ _).alloc (Nat.le_refl _) _).alloc (by simp) _⟩
    | false =>
      have HE := hide (show R = NS.all (meetB s) from (unhide HSV).trans (by simp [h1, h2]))
      clear HSV
      go_enter Try.func48, Try.ntmps48
      go_wp2_with (first
        | (go_at_call 63; refine (meets_any s tw hs htw _).mono ?_; rintro e w' ⟨rfl, hww⟩; obtain rfl := hww.symm; rw [show decide (s &&& tw ≠ 0) = false from h1])
        | (go_at_call 63; refine (meets_any s bn hs hbn _).mono ?_; rintro e w' ⟨rfl, hww⟩; obtain rfl := hww.symm; rw [show decide (s &&& bn ≠ 0) = false from h2])
        | (go_at_call 64; refine (unhide HCB _ _).mono ?_; rintro e w' ⟨rfl, hb9⟩; have HB9 := hide hb9; clear hb9))
      go_ret
      exact ⟨ret_bool (unhide HE).symm, (((Below.refl _ _).alloc (Nat.le_refl _) _).alloc (by simp) _).trans ((unhide HB9).mono (by simp; omega))⟩

set_option maxHeartbeats 1000000 in
theorem healthyLit_any (l : List PackD) (room : Int) (V : Value) (s : Nat) (hs : s < 65536) (hok : OkL l) (kb sb : Nat) (p : Nat) (hp : p < l.length) (a : Option Addr) (cap bm : Nat) (v : Value) (xa : Option Addr) (xc : Nat) (hv : v = .slice xa l.length xc) (hV : V = .agg #[.slice a l.length cap, .int .i64 room, .map (some bm), v]) (w : World) (h : Stock w V l room)
    (k0 : w.cell? ⟨kb, 0, none⟩ = some (.slice a l.length cap)) (k1 : w.cell? ⟨kb, 1, none⟩ = some (.int .i64 room)) (k2 : w.cell? ⟨kb, 2, none⟩ = some (.map (some bm))) (k3 : w.cell? ⟨kb, 3, none⟩ = some v) (hsb : w.cell? ⟨sb, 0, none⟩ = some (.int .u64 (s : Int))) :
    Calls Try.prog 47 #[.int .i64 (p : Int), .pointer (some ⟨kb, 0, none⟩), .pointer (some ⟨sb, 0, none⟩)] w fun e w' => e = .returned (.bool (servedB l s p)) ∧ Below w.heap.size w w' := by
  have H := hide (served_any l room V s p hs hp hok w h)
  subst hV
  subst hv
  clear h
  go_enter Try.func47, Try.ntmps47
  go_wp2_with fail
  refine (unhide H).mono ?_
  rintro e w1 ⟨rfl, hb⟩
  go_wp2_with fail
  go_ret
  exact ⟨rfl, hb⟩
end Go.Proofs.Ytecipjdbfmldlab
