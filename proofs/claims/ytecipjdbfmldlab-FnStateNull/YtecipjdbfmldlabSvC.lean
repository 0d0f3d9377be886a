/- The program's health of a state, all of it. -/
import Derived.Test.YtecipjdbfmldlabSvB
namespace Go.Proofs.Ytecipjdbfmldlab
set_option linter.unusedVariables false
set_option linter.unusedSimpArgs false
open Go.RowKit Go.Deep

/-- All along the statement that answers health. -/
structure C7 (W : World) (on : Bool) (ps : List Nat) (b : Bool) (us : List Value) (x : World) : Prop where
  below : Below W.heap.size W x
  list : ∀ y, us = [y] → on = true → PlAt x y ps
theorem C7.on {W : World} {on : Bool} {ps : List Nat} {b b' : Bool} {us : List Value} {x y : World} (h : C7 W on ps b us x) (hb : Below x.heap.size x y) : C7 W on ps b' us y :=
  ⟨h.below.trans (hb.mono h.below.size), fun z hz ho => (h.list z hz ho).on hb⟩

set_option maxRecDepth 100000 in
set_option maxHeartbeats 4000000 in
theorem healthy_any (l : List PackD) (room : Int) (V : Value) (s : Nat) (hs : s < 65536) (hpl : ∀ p ∈ placesTo s 8, p < l.length) (hok : OkL l) (w : World) (h : Stock w V l room) :
    Calls Try.prog 30 #[V, .int .u64 (s : Int)] w fun e w' => e = .returned (.bool (healthB l room s)) ∧ Below w.heap.size w w' := by
  have HS := hide h
  obtain ⟨a, cap, bm, v, hV, hP, ⟨xa, xc, hv⟩, hA⟩ := h
  have HVV := hide hV
  subst hV
  have HV2 := hide hv
  subst hv
  have hl8 := hok.l8
  have hps8 := places_le s 8
  have hhb : healthB l room s = (decide (bitSize l s ≤ room) && (placesTo s 8).all (servedB l s)) := rfl
  have HHB := hide hhb
  have HPP := hide hP
  clear hhb hA hP
  go_enter Try.func30, Try.ntmps30
  go_upto_region 2 with fail
  obtain ⟨W, hW⟩ : ∃ W, W = (w.alloc (.cells #[.slice a l.length cap, .int .i64 room, .map (some bm), .slice xa l.length xc] 55)).alloc (.cells #[.int .u64 (s : Int)] 57) := ⟨_, rfl⟩
  rw [← hW]
  have bW : Below w.heap.size w W := by rw [hW]; exact ((Below.refl _ _).alloc (Nat.le_refl _) _).alloc (by simp) _
  have zW : W.heap.size = w.heap.size + 1 + 1 := by rw [hW]; simp
  have x0 : W.cell? ⟨w.heap.size, 0, none⟩ = some (.slice a l.length cap) := by rw [hW]; simp
  have x1 : W.cell? ⟨w.heap.size, 1, none⟩ = some (.int .i64 room) := by rw [hW]; simp
  have x2 : W.cell? ⟨w.heap.size, 2, none⟩ = some (.map (some bm)) := by rw [hW]; simp
  have x3 : W.cell? ⟨w.heap.size, 3, none⟩ = some (.slice xa l.length xc) := by rw [hW]; simp
  have y0 : W.cell? ⟨w.heap.size + 1, 0, none⟩ = some (.int .u64 (s : Int)) := by rw [hW]; simp
  clear hW
  have HX := hide (And.intro x0 (And.intro x1 (And.intro x2 (And.intro x3 y0))))
  have cellsAt : ∀ x, Below W.heap.size W x → x.cell? ⟨w.heap.size, 0, none⟩ = some (.slice a l.length cap) ∧ x.cell? ⟨w.heap.size, 1, none⟩ = some (.int .i64 room) ∧ x.cell? ⟨w.heap.size, 2, none⟩ = some (.map (some bm)) ∧ x.cell? ⟨w.heap.size, 3, none⟩ = some (.slice xa l.length xc) ∧ x.cell? ⟨w.heap.size + 1, 0, none⟩ = some (.int .u64 (s : Int)) := fun x hb => by
    obtain ⟨x0, x1, x2, x3, y0⟩ := unhide HX
    exact ⟨(hb.cell (p := ⟨w.heap.size, 0, none⟩) (by simp; omega)).trans x0, (hb.cell (p := ⟨w.heap.size, 1, none⟩) (by simp; omega)).trans x1, (hb.cell (p := ⟨w.heap.size, 2, none⟩) (by simp; omega)).trans x2, (hb.cell (p := ⟨w.heap.size, 3, none⟩) (by simp; omega)).trans x3, (hb.cell (p := ⟨w.heap.size + 1, 0, none⟩) (by simp; omega)).trans y0⟩
  have HCA := hide cellsAt
  have HBW := hide bW
  clear x0 x1 x2 x3 y0 cellsAt bW HX
  have HSZ := hide (fun (x : World) (hx : Below w.heap.size w x) => size_any s hs a l cap room (.map (some bm)) (.slice xa l.length xc) ⟨_, _, _, rfl⟩ rfl x ((unhide HPP).on hx) hpl hok.size)
  have HAK := hide (show Asked W 47 (.pointer (some ⟨w.heap.size, 0, none⟩)) (.pointer (some ⟨w.heap.size + 1, 0, none⟩)) (servedB l s) (placesTo s 8) from fun x hx p hp => by
    obtain ⟨x0, x1, x2, x3, y0⟩ := unhide HCA x hx
    exact healthyLit_any l room _ s hs hok _ _ p (hpl p hp) a cap bm _ xa xc rfl rfl x ((unhide HS).on ((unhide HBW).trans (hx.mono (unhide HBW).size))) x0 x1 x2 x3 y0)
  generalize hbz : bitSize l s = bz at HHB
  have HBZ := hide hbz
  clear hbz
  cases hle : decide (bz ≤ room) with
  | true =>
    have hle' : bz ≤ room := by simpa using hle
    rw [hle] at HHB
    refine wp_region_mix (k := 100) 10 [8] [.agg #[.slice a l.length cap, .int .i64 room, .map (some bm), .slice xa l.length xc], .int .u64 (s : Int), .int .i64 bz, .pointer (some ⟨w.heap.size, 1, none⟩), .int .i64 room, .bool true, .bool true, .int .u64 (s : Int), undef, .func (.func 47) #[] #[.pointer (some ⟨w.heap.size, 0, none⟩), .pointer (some ⟨w.heap.size + 1, 0, none⟩)]] (C7 W true (placesTo s 8)) (by kernel_rfl) (by kernel_rfl) (by kernel_rfl) (by kernel_rfl) (by kernel_rfl) (by kernel_rfl) ⟨(Below.refl _ _).drew, (fun y h => by cases h)⟩ ?_ ?_ ?_
    · intro full hfull i o hi hns ho x b us hC hb
      simp [putAll, slotOf, Act.put] at hfull
      subst hfull
      obtain ⟨x0, x1, x2, x3, y0⟩ := unhide HCA x hC.below
      have bx : Below w.heap.size w x := (unhide HBW).trans (hC.below.mono (unhide HBW).size)
      have hC0 := hC.on (b' := b) (Below.refl _ _)
      match i with
      | 0 => simp at ho; subst ho; simp [gwp, Region.wanted]; go_simp; first | done | exact hC0 | exact ⟨rfl, hC0⟩
      | 1 => simp at ho; subst ho; simp [gwp, Region.wanted]; go_simp; first | done | exact hC0 | exact ⟨rfl, hC0⟩
      | 2 =>
        simp at ho; subst ho; simp [gwp, Region.wanted]; go_simp
        refine (unhide HSZ x bx).mono ?_
        rintro e w' ⟨rfl, hb2⟩
        rw [show sumP l (placesTo s 8) (placesTo s 8).length = bz from unhide HBZ]
        go_simp
        first | done | exact hC.on hb2 | exact ⟨rfl, hC.on hb2⟩
      | 3 => simp at ho; subst ho; simp [gwp, Region.wanted]; go_simp; first | done | exact hC0 | exact ⟨rfl, hC0⟩
      | 4 => simp at ho; subst ho; simp [gwp, Region.wanted]; go_simp; first | done | exact hC0 | exact ⟨rfl, hC0⟩
      | 5 => simp at ho; subst ho; simp [gwp, Region.wanted]; go_simp; first | done | exact hC0 | exact ⟨rfl, hC0⟩
      | 6 => simp at ho; subst ho; simp [gwp, Region.wanted]; go_simp; first | done | exact hC0 | exact ⟨rfl, hC0⟩
      | 7 => simp at ho; subst ho; simp [gwp, Region.wanted, yielded]; go_simp; first | done | exact hC0 | exact ⟨rfl, hC0⟩
      | 8 => simp at hns
      | 9 => simp at ho; subst ho; simp [gwp, Region.wanted, yielded]; go_simp; first | done | exact hC0 | exact ⟨rfl, hC0⟩
      | i + 10 => omega
    · intro full hfull us j hj o ho x b hC
      simp [putAll, slotOf, Act.put] at hfull
      subst hfull
      match us with
      | [] =>
        simp at hj
        subst hj
        simp at ho
        subst ho
        simp [gwp, Region.wanted, yielded, putP]
        go_simp
        refine (places_any s hs x).mono ?_
        rintro e w' ⟨⟨y, rfl, hrow⟩, hb2⟩
        go_simp
        have hC2 := hC.on (b' := b) hb2
        refine ⟨hC2.below, fun z hz _ => ?_⟩
        cases hz
        exact PlAt.of_row hrow
      | _ :: _ => simp at hj
    · intro full hfull us x hus hC
      simp [putAll, slotOf, Act.put] at hfull
      subst hfull
      match us, hus with
      | [y], _ =>
      obtain ⟨pa, pc, rfl, hpl2⟩ := hC.list y rfl rfl
      have bx := hC.below
      have hAK := unhide HAK
      have hcall := allInt_any 47 (.pointer (some ⟨w.heap.size, 0, none⟩)) (.pointer (some ⟨w.heap.size + 1, 0, none⟩)) (servedB l s) (fun v W => by kernel_rfl) pa (placesTo s 8) pc (by omega) x (fun X hX p hp => hAK X (bx.trans (hX.mono bx.size)) p hp) ⟨pa, pc, rfl, hpl2⟩
      have HCL := hide hcall
      have HB := hide ((unhide HBW).trans (bx.mono (unhide HBW).size))
      clear hcall hAK bx hpl2 hC
      simp [putP, slotOf, Act.put]
      go_wp2_with (first
        | (go_at_call 49; refine (unhide HCL).mono ?_; rintro e w' ⟨rfl, hb9⟩; have HB9 := hide hb9; clear hb9))
      go_ret
      exact ⟨ret_bool (by rw [unhide HHB]; simp), (unhide HB).trans ((unhide HB9).mono (unhide HB).size)⟩
  | false =>
    have hle' : ¬ bz ≤ room := by simpa using hle
    rw [hle] at HHB
    refine wp_region_mix (k := 100) 10 [8] [.agg #[.slice a l.length cap, .int .i64 room, .map (some bm), .slice xa l.length xc], .int .u64 (s : Int), .int .i64 bz, .pointer (some ⟨w.heap.size, 1, none⟩), .int .i64 room, .bool false, .bool false, undef, undef, undef] (C7 W false (placesTo s 8)) (by kernel_rfl) (by kernel_rfl) (by kernel_rfl) (by kernel_rfl) (by kernel_rfl) (by kernel_rfl) ⟨(Below.refl _ _).drew, (fun y h => by cases h)⟩ ?_ ?_ ?_
    · intro full hfull i o hi hns ho x b us hC hb
      simp [putAll, slotOf, Act.put] at hfull
      subst hfull
      obtain ⟨x0, x1, x2, x3, y0⟩ := unhide HCA x hC.below
      have bx : Below w.heap.size w x := (unhide HBW).trans (hC.below.mono (unhide HBW).size)
      have hC0 := hC.on (b' := b) (Below.refl _ _)
      match i with
      | 0 => simp at ho; subst ho; simp [gwp, Region.wanted]; go_simp; first | done | exact hC0 | exact ⟨rfl, hC0⟩
      | 1 => simp at ho; subst ho; simp [gwp, Region.wanted]; go_simp; first | done | exact hC0 | exact ⟨rfl, hC0⟩
      | 2 =>
        simp at ho; subst ho; simp [gwp, Region.wanted]; go_simp
        refine (unhide HSZ x bx).mono ?_
        rintro e w' ⟨rfl, hb2⟩
        rw [show sumP l (placesTo s 8) (placesTo s 8).length = bz from unhide HBZ]
        go_simp
        first | done | exact hC.on hb2 | exact ⟨rfl, hC.on hb2⟩
      | 3 => simp at ho; subst ho; simp [gwp, Region.wanted]; go_simp; first | done | exact hC0 | exact ⟨rfl, hC0⟩
      | 4 => simp at ho; subst ho; simp [gwp, Region.wanted]; go_simp; first | done | exact hC0 | exact ⟨rfl, hC0⟩
      | 5 => simp at ho; subst ho; simp [gwp, Region.wanted]; go_simp; first | done | exact hC0 | exact ⟨rfl, hC0⟩
      | 6 => simp at ho; subst ho; simp [gwp, Region.wanted]; go_simp; first | done | exact hC0 | exact ⟨rfl, hC0⟩
      | 7 => simp at ho; subst ho; simp [gwp, Region.wanted, yielded]; go_simp; first | done | exact hC0 | exact ⟨rfl, hC0⟩
      | 8 => simp at hns
      | 9 => simp at ho; subst ho; simp [gwp, Region.wanted, yielded]; go_simp; first | done | exact hC0 | exact ⟨rfl, hC0⟩
      | i + 10 => omega
    · intro full hfull us j hj o ho x b hC
      simp [putAll, slotOf, Act.put] at hfull
      subst hfull
      match us with
      | [] =>
        simp at hj
        subst hj
        simp at ho
        subst ho
        simp [gwp, Region.wanted, yielded, putP]
        exact ⟨hC.below, fun z hz ho => by cases ho⟩
      | _ :: _ => simp at hj
    · intro full hfull us x hus hC
      simp [putAll, slotOf, Act.put] at hfull
      subst hfull
      match us, hus with
      | [y], _ =>
      have bx := hC.below
      have HB := hide ((unhide HBW).trans (bx.mono (unhide HBW).size))
      clear bx hC
      simp [putP, slotOf, Act.put]
      go_wp2_with fail
      go_ret
      exact ⟨ret_bool (by rw [unhide HHB]; simp), unhide HB⟩
end Go.Proofs.Ytecipjdbfmldlab
