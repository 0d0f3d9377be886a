/- Whether what comes in has what must be there ahead. -/
import Derived.Test.YtnegiggafgfmkaxGMv
namespace Go.Proofs.Ytnegiggafgfmkax
set_option linter.unusedVariables false
set_option linter.unusedSimpArgs false
open Go.RowKit Go.Deep

def prepB (l : List PackD) (kept p : Nat) : Bool := ((l.getD p dPack).pres.map (preN l)).all (meetB kept)
def preparedB (l : List PackD) (kept coming : Nat) : Bool := (placesTo coming 8).all (prepB l kept)

structure CZ (W : World) (b : Bool) (us : List Value) (x : World) : Prop where
  below : Below W.heap.size W x
theorem CZ.on {W : World} {b b' : Bool} {us : List Value} {x y : World} (h : CZ W b us x) (hb : Below x.heap.size x y) : CZ W b' us y := ⟨h.below.trans (hb.mono h.below.size)⟩

set_option maxRecDepth 100000 in
set_option maxHeartbeats 2000000 in
theorem preparedLit_any (l : List PackD) (s : Nat) (hs : s < 65536) (hok : OkL l) (kb sb : Nat) (p : Nat) (hp : p < l.length) (v : Value) (w : World) (hA : AsksAt w v l)
    (hkb : kb < w.heap.size) (k3 : w.cell? ⟨kb, 3, none⟩ = some v) (hsl : sb < w.heap.size) (hsb : w.cell? ⟨sb, 0, none⟩ = some (.int .u64 (s : Int))) :
    Calls Try.prog 91 #[.int .i64 (p : Int), .pointer (some ⟨kb, 0, none⟩), .pointer (some ⟨sb, 0, none⟩)] w fun e w' => e = .returned (.bool (prepB l s p)) ∧ Below w.heap.size w w' := by
  obtain ⟨ag, ac, C, rfl, hrow, hnum, hdone⟩ := hA.2 (by omega)
  obtain ⟨_, _, _, ⟨v4, hc4, hb4⟩⟩ := hdone p hp
  have hag := (Array.getElem?_eq_some_iff.1 hrow).1
  have d4 : w.cell? ⟨ag, p * 5 + 4, none⟩ = some v4 := by simp only [World.cell?, hrow]; exact hc4
  have hb4' := hb4
  obtain ⟨a4, k4, rfl, _⟩ := hb4'
  have hdl : ((l.getD p dPack).pres.map (preN l)).length ≤ 1000 := by have := (hok.reqs p hp).2; simp; simp at this; omega
  have hall : ∀ n ∈ (l.getD p dPack).pres.map (preN l), n < 65536 := fun n hn => by
    obtain ⟨q, _, rfl⟩ := List.mem_map.1 hn
    exact preN_lt hok.l8 q
  have hE : prepB l s p = ((l.getD p dPack).pres.map (preN l)).all (meetB s) := rfl
  generalize (l.getD p dPack).pres.map (preN l) = NS at hb4 hdl hall hE d4
  generalize prepB l s p = R at hE ⊢
  subst hE
  have HB4 := hide hb4
  have hpi : (p : Int) < (l.length : Int) := by omega
  have hp0 : (0 : Int) ≤ (p : Int) := by omega
  have HCB := hide (fun (x : World) (hx : Below w.heap.size w x) => allBits_any s hs ag a4 NS k4 hdl hall x ((unhide HB4).on ⟨hx.os, hx.tape, hx.output, hx.size, fun b hb _ => hx.block b hb⟩))
  clear hb4 hrow hnum hdone hA hc4 hok
  go_enter Try.func91, Try.ntmps91
  go_upto_region 1 with fail
  refine wp_region_mix (k := 100) 8 [] [.pointer (some ⟨kb, 3, none⟩), .slice (some ⟨ag, 0, none⟩) l.length ac, .int .i64 (p : Int), .pointer (some ⟨ag, p * 5, none⟩), .pointer (some ⟨ag, p * 5 + 4, none⟩), .slice a4 NS.length k4, .int .u64 (s : Int), .func (.func 70) #[.int .u64 (s : Int)] #[]] (CZ w) (by kernel_rfl) (by kernel_rfl) (by kernel_rfl) (by kernel_rfl) (by kernel_rfl) (by kernel_rfl) ⟨(Below.refl _ _).drew⟩ ?_ ?_ ?_
  · intro full hfull i oo hi hns ho x fl us hC hb
    simp [putAll, slotOf, Act.put] at hfull
    subst hfull
    have bx := hC.below
    rw [← bx.cell (p := ⟨kb, _, none⟩) hkb] at k3
    rw [← bx.cell (p := ⟨sb, _, none⟩) hsl] at hsb
    rw [← bx.cell (p := ⟨ag, _, none⟩) hag] at d4
    have hC0 := hC.on (b' := fl) (Below.refl _ _)
    match i with
    | 0 => simp at ho; subst ho; simp [gwp, Region.wanted, yielded]; go_simp; first | done | exact hC0 | exact ⟨rfl, hC0⟩ | (simp; exact hC0)
    | 1 => simp at ho; subst ho; simp [gwp, Region.wanted, yielded]; go_simp; first | done | exact hC0 | exact ⟨rfl, hC0⟩ | (simp; exact hC0)
    | 2 => simp at ho; subst ho; simp [gwp, Region.wanted, yielded]; go_simp; first | done | exact hC0 | exact ⟨rfl, hC0⟩ | (simp; exact hC0)
    | 3 => simp at ho; subst ho; simp [gwp, Region.wanted, yielded]; go_simp; first | done | exact hC0 | exact ⟨rfl, hC0⟩ | (simp; exact hC0)
    | 4 => simp at ho; subst ho; simp [gwp, Region.wanted, yielded]; go_simp; first | done | exact hC0 | exact ⟨rfl, hC0⟩ | (simp; exact hC0)
    | 5 => simp at ho; subst ho; simp [gwp, Region.wanted, yielded]; go_simp; first | done | exact hC0 | exact ⟨rfl, hC0⟩ | (simp; exact hC0)
    | 6 => simp at ho; subst ho; simp [gwp, Region.wanted, yielded]; go_simp; first | done | exact hC0 | exact ⟨rfl, hC0⟩ | (simp; exact hC0)
    | 7 => simp at ho; subst ho; simp [gwp, Region.wanted, yielded]; go_simp; first | done | exact hC0 | exact ⟨rfl, hC0⟩ | (simp; exact hC0)
    | i + 8 => omega
  · intro full hfull us j hj
    simp at hj
  · intro full hfull us wz hus hC
    simp [putAll, slotOf, Act.put] at hfull
    subst hfull
    match us, hus with
    | [], _ =>
    have bz := hC.below
    have HC2 := hide (unhide HCB wz bz)
    have HZ := hide bz
    clear hC bz HCB
    simp [putP]
    go_wp2_with fail
    refine (unhide HC2).mono ?_
    rintro e w2 ⟨rfl, b2⟩
    have HB2 := hide ((unhide HZ).trans (b2.mono (unhide HZ).size))
    clear b2 HC2 HZ
    go_wp2_with fail
    go_ret
    exact ⟨rfl, unhide HB2⟩

set_option maxRecDepth 100000 in
set_option maxHeartbeats 2000000 in
theorem prepared_any (l : List PackD) (room : Int) (V : Value) (kept coming : Nat) (hk : kept < 65536) (hc : coming < 65536) (hpl : ∀ p ∈ placesTo coming 8, p < l.length) (hok : OkL l) (w : World) (h : Stock w V l room) :
    Calls Try.prog 71 #[V, .int .u64 (kept : Int), .int .u64 (coming : Int)] w fun e w' => e = .returned (.bool (preparedB l kept coming)) ∧ Below w.heap.size w w' := by
  have HS := hide h
  obtain ⟨a, cap, bm, v, rfl, hP, ⟨⟨xa, xc, rfl⟩, hA⟩⟩ := h
  have hps8 := places_le coming 8
  have hE : preparedB l kept coming = (placesTo coming 8).all (prepB l kept) := rfl
  have HE := hide hE
  clear hE hP hA
  go_enter Try.func71, Try.ntmps71
  go_upto_region 1 with fail
  obtain ⟨W, hW⟩ : ∃ W, W = (w.alloc (.cells #[.slice a l.length cap, .int .i64 room, .map (some bm), .slice xa l.length xc] 61)).alloc (.cells #[.int .u64 (kept : Int)] 77) := ⟨_, rfl⟩
  rw [← hW]
  have bW : Below w.heap.size w W := by rw [hW]; exact ((Below.refl _ _).alloc (Nat.le_refl _) _).alloc (by simp) _
  have zW : W.heap.size = w.heap.size + 1 + 1 := by rw [hW]; simp
  have x3 : W.cell? ⟨w.heap.size, 3, none⟩ = some (.slice xa l.length xc) := by rw [hW]; simp
  have y0 : W.cell? ⟨w.heap.size + 1, 0, none⟩ = some (.int .u64 (kept : Int)) := by rw [hW]; simp
  clear hW
  have HBW := hide bW
  have HAK := hide (show Asked W 91 (.pointer (some ⟨w.heap.size, 0, none⟩)) (.pointer (some ⟨w.heap.size + 1, 0, none⟩)) (prepB l kept) (placesTo coming 8) from fun x hx p hp => by
    have hxz := hx.size
    obtain ⟨a', cap', bm', v', hV, _, hA'⟩ := (unhide HS).on ((unhide HBW).trans (hx.mono (unhide HBW).size))
    simp at hV
    obtain ⟨_, _, rfl⟩ := hV
    exact preparedLit_any l kept hk hok _ _ p (hpl p hp) _ x hA' (by omega) ((hx.cell (p := ⟨w.heap.size, 3, none⟩) (by simp; omega)).trans x3) (by omega) ((hx.cell (p := ⟨w.heap.size + 1, 0, none⟩) (by simp; omega)).trans y0))
  clear HS bW x3 y0
  go_wp2_with fail
  refine (places_any coming hc W).mono ?_
  rintro e w2 ⟨⟨y, rfl, hrow⟩, b2⟩
  obtain ⟨pa, pc, rfl, hpl2⟩ := PlAt.of_row hrow
  have hAK := unhide HAK
  have hcall := allInt_any 91 (.pointer (some ⟨w.heap.size, 0, none⟩)) (.pointer (some ⟨w.heap.size + 1, 0, none⟩)) (prepB l kept) (fun v W => by kernel_rfl) pa (placesTo coming 8) pc (by omega) w2 (fun X hX p hp => hAK X (b2.trans (hX.mono b2.size)) p hp) ⟨pa, pc, rfl, hpl2⟩
  have HCL := hide hcall
  have HB := hide ((unhide HBW).trans (b2.mono (unhide HBW).size))
  clear hcall hAK b2 hpl2 hrow HAK
  go_wp2_with (first
    | (go_at_call 90; refine (unhide HCL).mono ?_; rintro e w' ⟨rfl, hb9⟩; have HB9 := hide hb9; clear hb9))
  go_ret
  exact ⟨ret_bool (by rw [unhide HE]), (unhide HB).trans ((unhide HB9).mono (unhide HB).size)⟩
end Go.Proofs.Ytnegiggafgfmkax
