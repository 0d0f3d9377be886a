/- Moves in memory. Whether what comes in has what must be there ahead. Whether a move is allowed: what that is. -/
import Derived.Test.YthkhaemlcmkkjaxGreatGMv
import Derived.Test.YthkhaemlcmkkjaxGreatGStL
namespace Go.Proofs.YthkhaemlcmkkjaxGreat
set_option linter.unusedVariables false
set_option linter.unusedSimpArgs false
open Go.RowKit Go.Deep

theorem mv_cell {w : World} {B : Nat} {v : Value} {ms : List MvD} (h : w.ownsRow B 104 1 v ms.length (mvVs ms)) {j : Nat} (hj : j < ms.length) : ∃ g cap, v = .slice (some ⟨g, 0, none⟩) ms.length cap ∧ g < w.heap.size ∧ w.cell? ⟨g, j, none⟩ = some (ms.getD j (.put 0)).val := by
  rcases h.2 with ⟨hv, h0⟩ | ⟨g, cap, cur, hv, _, hc, _, _, hsz, hx⟩
  · omega
  · refine ⟨g, cap, hv, (Array.getElem?_eq_some_iff.1 hc).1, ?_⟩
    rw [cell_of_row w g j cur _ _ hc]
    have : (cur.toList.take (ms.length * 1))[j]? = (mvVs ms)[j]? := by rw [hx]
    rw [List.getElem?_take, if_pos (by omega)] at this
    simp [mvVs, List.getD, hj] at this ⊢
    exact this
end Go.Proofs.YthkhaemlcmkkjaxGreat

namespace Go.Proofs.YthkhaemlcmkkjaxGreat
set_option linter.unusedVariables false
set_option linter.unusedSimpArgs false
open Go.RowKit Go.Deep

def prepB (l : List PackD) (kept p : Nat) : Bool := ((l.getD p dPack).pres.map (preN l)).all (meetB kept)
def preparedB (l : List PackD) (kept coming : Nat) : Bool := (placesTo coming 8).all (prepB l kept)

structure CZ (W : World) (b : Bool) (us : List Value) (x : World) : Prop where
  below : Below W.heap.size W x
theorem CZ.on {W : World} {b b' : Bool} {us : List Value} {x y : World} (h : CZ W b us x) (hb : Below x.heap.size x y) : CZ W b' us y := ⟨h.below.trans (hb.mono h.below.size)⟩

set_option maxRecDepth 100000 in
set_option maxHeartbeats 2000000 in
theorem preparedLit_any (l : List PackD) (s : Nat) (hs : s < 65536) (hok : OkL l) (kb sb : Nat) (p : Nat) (hp : p < l.length) (v : Value) (w : World) (hA : AsksAt w v l)
    (hkb : kb < w.heap.size) (k3 : w.cell? ⟨kb, 3, none⟩ = some v) (hsl : sb < w.heap.size) (hsb : w.cell? ⟨sb, 0, none⟩ = some (.int .u64 (s : Int))) :
    Calls Tryz.prog 115 #[.int .i64 (p : Int), .pointer (some ⟨kb, 0, none⟩), .pointer (some ⟨sb, 0, none⟩)] w fun e w' => e = .returned (.bool (prepB l s p)) ∧ Below w.heap.size w w' := by
  obtain ⟨ag, ac, C, rfl, hrow, hnum, hdone⟩ := hA.2 (by omega)
  obtain ⟨_, _, _, ⟨v4, hc4, hb4⟩⟩ := hdone p hp
  have hag := (Array.getElem?_eq_some_iff.1 hrow).1
  have d4 : w.cell? ⟨ag, p * 5 + 4, none⟩ = some v4 := by simp only [World.cell?, hrow]; exact hc4
  have hb4' := hb4
  obtain ⟨a4, k4, rfl, _⟩ := hb4'
  have hdl : ((l.getD p dPack).pres.map (preN l)).length ≤ 1000 := by have := (hok.reqs p hp).2; simp; simp at this; omega
  have hall : ∀ n ∈ (l.getD p dPack).pres.map (preN l), n < 65536 := fun n hn => by
    obtain ⟨q, _, rfl⟩ := List.mem_map.1 hn
    exact preN_lt hok.l8 q
  have hE : prepB l s p = ((l.getD p dPack).pres.map (preN l)).all (meetB s) := rfl
  generalize (l.getD p dPack).pres.map (preN l) = NS at hb4 hdl hall hE d4
  generalize prepB l s p = R at hE ⊢
  subst hE
  have HB4 := hide hb4
  have hpi : (p : Int) < (l.length : Int) := by omega
  have hp0 : (0 : Int) ≤ (p : Int) := by omega
  have HCB := hide (fun (x : World) (hx : Below w.heap.size w x) => allBits_any s hs ag a4 NS k4 hdl hall x ((unhide HB4).on ⟨hx.os, hx.tape, hx.output, hx.size, fun b hb _ => hx.block b hb⟩))
  clear hb4 hrow hnum hdone hA hc4 hok
  go_enter Tryz.func115, Tryz.ntmps115
  go_upto_region 1 with fail
  refine wp_region_mix (k := 100) 8 [] [.pointer (some ⟨kb, 3, none⟩), .slice (some ⟨ag, 0, none⟩) l.length ac, .int .i64 (p : Int), .pointer (some ⟨ag, p * 5, none⟩), .pointer (some ⟨ag, p * 5 + 4, none⟩), .slice a4 NS.length k4, .int .u64 (s : Int), .func (.func 91) #[.int .u64 (s : Int)] #[]] (CZ w) (by kernel_rfl) (by kernel_rfl) (by kernel_rfl) (by kernel_rfl) (by kernel_rfl) (by kernel_rfl) ⟨(Below.refl _ _).drew⟩ ?_ ?_ ?_
  · intro full hfull i oo hi hns ho x fl us hC hb
    simp [putAll, slotOf, Act.put] at hfull
    subst hfull
    have bx := hC.below
    rw [← bx.cell (p := ⟨kb, _, none⟩) hkb] at k3
    rw [← bx.cell (p := ⟨sb, _, none⟩) hsl] at hsb
    rw [← bx.cell (p := ⟨ag, _, none⟩) hag] at d4
    have hC0 := hC.on (b' := fl) (Below.refl _ _)
    match i with
    | 0 => simp at ho; subst ho; simp [gwp, Region.wanted, yielded]; go_simp; first | done | exact hC0 | exact ⟨rfl, hC0⟩ | (simp; exact hC0)
    | 1 => simp at ho; subst ho; simp [gwp, Region.wanted, yielded]; go_simp; first | done | exact hC0 | exact ⟨rfl, hC0⟩ | (simp; exact hC0)
    | 2 => simp at ho; subst ho; simp [gwp, Region.wanted, yielded]; go_simp; first | done | exact hC0 | exact ⟨rfl, hC0⟩ | (simp; exact hC0)
    | 3 => simp at ho; subst ho; simp [gwp, Region.wanted, yielded]; go_simp; first | done | exact hC0 | exact ⟨rfl, hC0⟩ | (simp; exact hC0)
    | 4 => simp at ho; subst ho; simp [gwp, Region.wanted, yielded]; go_simp; first | done | exact hC0 | exact ⟨rfl, hC0⟩ | (simp; exact hC0)
    | 5 => simp at ho; subst ho; simp [gwp, Region.wanted, yielded]; go_simp; first | done | exact hC0 | exact ⟨rfl, hC0⟩ | (simp; exact hC0)
    | 6 => simp at ho; subst ho; simp [gwp, Region.wanted, yielded]; go_simp; first | done | exact hC0 | exact ⟨rfl, hC0⟩ | (simp; exact hC0)
    | 7 => simp at ho; subst ho; simp [gwp, Region.wanted, yielded]; go_simp; first | done | exact hC0 | exact ⟨rfl, hC0⟩ | (simp; exact hC0)
    | i + 8 => omega
  · intro full hfull us j hj
    simp at hj
  · intro full hfull us wz hus hC
    simp [putAll, slotOf, Act.put] at hfull
    subst hfull
    match us, hus with
    | [], _ =>
    have bz := hC.below
    have HC2 := hide (unhide HCB wz bz)
    have HZ := hide bz
    clear hC bz HCB
    simp [putP]
    go_wp2_with fail
    refine (unhide HC2).mono ?_
    rintro e w2 ⟨rfl, b2⟩
    have HB2 := hide ((unhide HZ).trans (b2.mono (unhide HZ).size))
    clear b2 HC2 HZ
    go_wp2_with fail
    go_ret
    exact ⟨rfl, unhide HB2⟩

set_option maxRecDepth 100000 in
set_option maxHeartbeats 2000000 in
theorem prepared_any (l : List PackD) (room : Int) (V : Value) (kept coming : Nat) (hk : kept < 65536) (hc : coming < 65536) (hpl : ∀ p ∈ placesTo coming 8, p < l.length) (hok : OkL l) (w : World) (h : Stock w V l room) :
    Calls Tryz.prog 92 #[V, .int .u64 (kept : Int), .int .u64 (coming : Int)] w fun e w' => e = .returned (.bool (preparedB l kept coming)) ∧ Below w.heap.size w w' := by
  have HS := hide h
  obtain ⟨a, cap, bm, v, rfl, hP, ⟨⟨xa, xc, rfl⟩, hA⟩⟩ := h
  have hps8 := places_le coming 8
  have hE : preparedB l kept coming = (placesTo coming 8).all (prepB l kept) := rfl
  have HE := hide hE
  clear hE hP hA
  go_enter Tryz.func92, Tryz.ntmps92
  go_upto_region 1 with fail
  obtain ⟨W, hW⟩ : ∃ W, W = (w.alloc (.cells #[.slice a l.length cap, .int .i64 room, .map (some bm), .slice xa l.length xc] 73)).alloc (.cells #[.int .u64 (kept : Int)] 75) := ⟨_, rfl⟩
  rw [← hW]
  have bW : Below w.heap.size w W := by rw [hW]; exact ((Below.refl _ _).alloc (Nat.le_refl _) _).alloc (by simp) _
  have zW : W.heap.size = w.heap.size + 1 + 1 := by rw [hW]; simp
  have x3 : W.cell? ⟨w.heap.size, 3, none⟩ = some (.slice xa l.length xc) := by rw [hW]; simp
  have y0 : W.cell? ⟨w.heap.size + 1, 0, none⟩ = some (.int .u64 (kept : Int)) := by rw [hW]; simp
  clear hW
  have HBW := hide bW
  have HAK := hide (show Asked W 115 (.pointer (some ⟨w.heap.size, 0, none⟩)) (.pointer (some ⟨w.heap.size + 1, 0, none⟩)) (prepB l kept) (placesTo coming 8) from fun x hx p hp => by
    have hxz := hx.size
    obtain ⟨a', cap', bm', v', hV, _, hA'⟩ := (unhide HS).on ((unhide HBW).trans (hx.mono (unhide HBW).size))
    simp at hV
    obtain ⟨_, _, rfl⟩ := hV
    exact preparedLit_any l kept hk hok _ _ p (hpl p hp) _ x hA' (by omega) ((hx.cell (p := ⟨w.heap.size, 3, none⟩) (by simp; omega)).trans x3) (by omega) ((hx.cell (p := ⟨w.heap.size + 1, 0, none⟩) (by simp; omega)).trans y0))
  clear HS bW x3 y0
  go_wp2_with fail
  refine (places_any coming hc W).mono ?_
  rintro e w2 ⟨⟨y, rfl, hrow⟩, b2⟩
  obtain ⟨pa, pc, rfl, hpl2⟩ := PlAt.of_row hrow
  have hAK := unhide HAK
  have hcall := allInt_any 115 (.pointer (some ⟨w.heap.size, 0, none⟩)) (.pointer (some ⟨w.heap.size + 1, 0, none⟩)) (prepB l kept) (fun v W => by kernel_rfl) pa (placesTo coming 8) pc (by omega) w2 (fun X hX p hp => hAK X (b2.trans (hX.mono b2.size)) p hp) ⟨pa, pc, rfl, hpl2⟩
  have HCL := hide hcall
  have HB := hide ((unhide HBW).trans (b2.mono (unhide HBW).size))
  clear hcall hAK b2 hpl2 hrow HAK
  go_wp2_with (first
    | (go_at_call 89; refine (unhide HCL).mono ?_; rintro e w' ⟨rfl, hb9⟩; have HB9 := hide hb9; clear hb9))
  go_ret
  exact ⟨ret_bool (by rw [unhide HE]), (unhide HB).trans ((unhide HB9).mono (unhide HB).size)⟩
end Go.Proofs.YthkhaemlcmkkjaxGreat

namespace Go.Proofs.YthkhaemlcmkkjaxGreat
set_option linter.unusedVariables false
set_option linter.unusedSimpArgs false
open Go.RowKit Go.Deep

/-- A move is of packs that are there. -/
def MvD.within (m : MvD) (n : Nat) : Prop := match m with
  | .put i => i < n
  | .take o => o < n
  | .swap i o => i < n ∧ o < n
theorem within_fine {m : MvD} {n : Nat} (h : m.within n) (hn : n ≤ 8) : m.fine := by
  cases m with
  | put i => exact Nat.lt_of_lt_of_le h (by omega)
  | take o => exact Nat.lt_of_lt_of_le h (by omega)
  | swap i o => exact ⟨Nat.lt_of_lt_of_le h.1 (by omega), Nat.lt_of_lt_of_le h.2 (by omega)⟩
theorem comes_place {m : MvD} {n : Nat} (h : m.within n) : ∀ p ∈ placesTo m.comes 8, p < n := fun p hp => by
  have hb := ((mem_places _ _ _).1 hp).2
  cases m with
  | put i =>
    rw [show (MvD.put i).comes = 2 ^ i from rfl, Nat.testBit_two_pow] at hb
    simp at hb
    rw [← hb]; exact h
  | take o =>
    rw [show (MvD.take o).comes = 0 from rfl, Nat.zero_testBit] at hb
    cases hb
  | swap i o =>
    rw [show (MvD.swap i o).comes = 2 ^ i from rfl, Nat.testBit_two_pow] at hb
    simp at hb
    rw [← hb]; exact h.1
theorem behind_place {m : MvD} {n s : Nat} (h : m.within n) (hs : ∀ p ∈ placesTo s 8, p < n) : ∀ p ∈ placesTo (behindN s m) 8, p < n := fun p hp => by
  obtain ⟨h8, hb⟩ := (mem_places _ _ _).1 hp
  unfold behindN outN at hb
  rw [Nat.testBit_or, Nat.testBit_and, Bool.or_eq_true, Bool.and_eq_true] at hb
  rcases hb with hb | hb
  · exact hs p ((mem_places _ _ _).2 ⟨h8, hb.1⟩)
  · exact comes_place h p ((mem_places _ _ _).2 ⟨h8, hb⟩)
def allowsB (l : List PackD) (room : Int) (s : Nat) (m : MvD) : Bool :=
  decide (s &&& m.goes = m.goes) && !meetB s m.comes && preparedB l (outN s m.goes) m.comes && decide (bitSize l s + bitSize l m.comes ≤ room) && healthB l room (behindN s m)
end Go.Proofs.YthkhaemlcmkkjaxGreat
