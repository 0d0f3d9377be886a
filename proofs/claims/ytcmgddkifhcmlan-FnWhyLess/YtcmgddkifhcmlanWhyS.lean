/- The specification's WhyNot. -/
import Derived.Test.YtcmgddkifhcmlanWhyB
import Derived.Test.YtcmgddkifhcmlanGSpecP
import Derived.Test.YtcmgddkifhcmlanRegL
import Derived.Test.YtcmgddkifhcmlanGStA
namespace Go.Proofs.Ytcmgddkifhcmlan
set_option linter.unusedVariables false
set_option linter.unusedSimpArgs false
open Go.RowKit Go.Deep

/-- What a loop gathers. -/
def coll (f : Nat → Option StepD) (k : Nat) : List StepD := (List.range k).filterMap f
theorem coll_succ (f : Nat → Option StepD) (k : Nat) : coll f (k + 1) = coll f k ++ (f k).toList := by
  unfold coll
  rw [List.range_succ, List.filterMap_append]
  cases h : f k <;> simp [h]
theorem coll_len (f : Nat → Option StepD) (k : Nat) : (coll f k).length ≤ k := by
  unfold coll
  have := List.length_filterMap_le f (List.range k)
  simpa using this
def twF (l : List PackD) (set : List Int) (i k : Nat) : Option StepD := if (packOf l set k).name.toList == (packOf l set i).name.toList then some ⟨2, set.getD i 0, set.getD k 0⟩ else none
def dpF (l : List PackD) (set : List Int) (i k : Nat) : Option StepD := if someB l set ((packOf l set i).deps.getD k []) (-1) then none else some ⟨3, set.getD i 0, (k : Int)⟩
def bnF (l : List PackD) (set : List Int) (i k : Nat) : Option StepD := if decide (k ≠ i) && someB l [set.getD k 0] (packOf l set i).bans (-1) then some ⟨4, set.getD i 0, set.getD k 0⟩ else none
def placeL (l : List PackD) (set : List Int) (i : Nat) : List StepD := coll (twF l set i) i ++ (coll (dpF l set i) (packOf l set i).deps.length ++ coll (bnF l set i) set.length)
def lackS (l : List PackD) (room : Int) (set : List Int) : List StepD := if room < sizeZ l room set then [⟨1, -1, sizeZ l room set - room⟩] else []
/-- What the specification's WhyNot answers. -/
def specWhy (l : List PackD) (room : Int) (set : List Int) : List StepD := if formB l room set then lackS l room set ++ (List.range set.length).flatMap (placeL l set) else []
theorem SetAt.one {w : World} {b o : Nat} {z : Int} (h : w.cell? ⟨b, o, none⟩ = some (.int .i64 z)) (hb : b < w.heap.size) : SetAt w (some ⟨b, o, none⟩) [z] :=
  ⟨by simp, Or.inr ⟨b, o, rfl, hb, fun i hi => by simp at hi; subst hi; simpa using h⟩⟩
theorem pack_kept {w w' : World} {B g : Nat} {C : Array Value} {v : Value} {n : Nat} {xs : List Value} (hb : w.heap[g]? = some (.cells C 40 (0, 0))) (hv : w.ownsRow B 36 3 v n xs) (hg : w.grownBy w' v.ownBlock) : w'.heap[g]? = some (.cells C 40 (0, 0)) :=
  (hg.block g (Array.getElem?_eq_some_iff.1 hb).1 (fun e => by
    obtain ⟨c, h⟩ := row_ty hv g e.symm
    rw [hb] at h
    simp at h)).trans hb
theorem why_news {x : World} {g : Nat} {s : StepD} (h : x.heap[g]? = some (.cells #[.int .i64 s.kind, .int .i64 s.inn, .int .i64 s.out] 36 (0, 0))) : ∀ j u, (stepVs [s])[j]? = some u → x.cell? ((⟨g, 0, none⟩ : Addr).add j) = some u := by
  intro j u hj
  match j, hj with
  | 0, hj => simp [stepVs] at hj; subst hj; simp [Addr.add, World.cell?, h]
  | 1, hj => simp [stepVs] at hj; subst hj; simp [Addr.add, World.cell?, h]
  | 2, hj => simp [stepVs] at hj; subst hj; simp [Addr.add, World.cell?, h]
theorem bytes_ext {a b : ByteArray} (h : a.toList = b.toList) : a = b := ba_ext (by rwa [ba_toList, ba_toList] at h)
theorem form_bounds {l : List PackD} {room : Int} {set : List Int} (h : formB l room set = true) : 0 ≤ room ∧ room ≤ 999 ∧ 0 ≤ sizeZ l room set ∧ sizeZ l room set ≤ 999999 := by
  have hb := sumP_bound (show ∀ p ∈ placesTo (setBits set) 8, p < l.length by rw [set_places h]; exact set_lt h) (form_ok h).size (placesTo (setBits set) 8).length (Nat.le_refl _)
  have hl := places_le (setBits set) 8
  have e : sizeZ l room set = sumP l (placesTo (setBits set) 8) (placesTo (setBits set) 8).length := by
    unfold sizeZ
    rw [h, if_pos rfl, ← size_bits h]
    rfl
  have hr : 0 ≤ room ∧ room ≤ 999 := by
    unfold formB repoB inB at h
    simp only [Bool.and_eq_true, decide_eq_true_eq] at h
    exact h.2.1.1.2
  rw [e]
  omega
theorem name_ne {a b : ByteArray} (h : ¬ a = b) : (a.toList == b.toList) = false := by
  rw [beq_eq_false_iff_ne]
  intro e
  exact h (bytes_ext e)
/-- The worlds of a region that lays one fault. -/
structure CW (W : World) (s : StepD) (b : Bool) (us : List Value) (x : World) : Prop where
  below : Below W.heap.size W x
  one : ∀ u, us = [u] → ∃ g, u = .slice (some ⟨g, 0, none⟩) 1 1 ∧ W.heap.size ≤ g ∧ x.heap[g]? = some (.cells #[.int .i64 s.kind, .int .i64 s.inn, .int .i64 s.out] 36 (0, 0))
theorem CW.on {W : World} {s : StepD} {b b' : Bool} {us : List Value} {x y : World} (h : CW W s b us x) (hb : Below x.heap.size x y) : CW W s b' us y := by
  refine ⟨h.below.trans (hb.mono h.below.size), fun z hz => ?_⟩
  obtain ⟨g, h1, h2, h3⟩ := h.one z hz
  exact ⟨g, h1, h2, (hb.block g (Array.getElem?_eq_some_iff.1 h3).1).trans h3⟩

set_option maxRecDepth 100000 in
set_option maxHeartbeats 16000000 in
theorem specWhyNot_any (a : Option Addr) (l : List PackD) (cap : Nat) (room : Int) (sa : Option Addr) (set : List Int) (sc : Nat) (w : World) (h : PacksAt (Old w) w a l) (hs : SetAt w sa set) (hscl : set.length ≤ sc) :
    Calls Try.prog 8 #[.agg #[.slice a l.length cap, .int .i64 room], .slice sa set.length sc] w fun e w' => (∃ v, e = .returned v ∧ WR w.heap.size w' v (specWhy l room set)) ∧ Below w.heap.size w w' := by
  obtain ⟨i0, hi, hz0, hz1, hz2⟩ := info_parts Try.infoWhy
  have hsl := hs.1
  have HP := hide h
  have HS := hide hs
  clear h hs
  obtain ⟨wA, hwA⟩ : ∃ wA, wA = w.alloc (.cells #[.slice a l.length cap, .int .i64 room] 25) := ⟨_, rfl⟩
  have bA : Below w.heap.size w wA := by rw [hwA]; exact (Below.refl _ _).alloc (Nat.le_refl _) _
  have x0 : wA.cell? ⟨w.heap.size, 0, none⟩ = some (.slice a l.length cap) := by rw [hwA]; simp
  have x1 : wA.cell? ⟨w.heap.size, 1, none⟩ = some (.int .i64 room) := by rw [hwA]; simp
  have hxA : w.heap.size < wA.heap.size := by rw [hwA]; simp
  have hzA : wA.heap.size = w.heap.size + 1 := by rw [hwA]; simp
  obtain ⟨w0, hw0⟩ : ∃ w0, w0 = wA.alloc (.cells #[] 36) := ⟨_, rfl⟩
  have b0 : Below wA.heap.size wA w0 := by rw [hw0]; exact (Below.refl _ _).alloc (Nat.le_refl _) _
  have r0 : WR wA.heap.size w0 (.slice (some ⟨wA.heap.size, 0, none⟩) 0 0) [] := by
    refine ⟨rfl, Or.inr ⟨wA.heap.size, 0, #[], rfl, Nat.le_refl _, ?_, Nat.zero_le _, Nat.zero_le _, rfl, rfl⟩⟩
    rw [hw0]
    exact blk_alloc_new _ _
  have HwA := hide bA
  have HR0 := hide r0
  have HB0 := hide b0
  have e0 := (b0.cell (p := ⟨w.heap.size, 0, none⟩) hxA).trans x0
  have e1 := (b0.cell (p := ⟨w.heap.size, 1, none⟩) hxA).trans x1
  have hz0' : wA.heap.size < w0.heap.size := by rw [hw0]; simp
  rw [hwA] at hw0
  clear bA b0 r0 hwA
  have hrw : ∀ X : World, X = X := fun _ => rfl
  go_enter Try.func8, Try.ntmps8
  go_upto_region 2 with fail
  rw [← hzA] at *
  rw [← hw0]
  clear hw0 hrw
  have bw0 : Below w.heap.size w w0 := (unhide HwA).trans ((unhide HB0).mono (unhide HwA).size)
  have CF := hide (l2Form_any a l cap room sa set sc w0 ((unhide HP).on bw0) ((unhide HS).on bw0))
  go_wp2_with fail
  refine (unhide CF).mono ?_
  rintro e w1 ⟨rfl, b1⟩
  have HB1 := hide ((unhide HB0).trans (b1.mono (unhide HB0).size))
  have HR1 := hide (show WR wA.heap.size w1 _ [] from ownsRow_on (unhide HR0) b1)
  have hz1' := b1.size
  rw [← b1.cell (p := ⟨w.heap.size, _, none⟩) (by show w.heap.size < _; omega)] at e0 e1
  clear b1 HB0 HR0 CF bw0
  cases hfm : formB l room set with
  | false =>
    have HE := hide (show specWhy l room set = [] by unfold specWhy; rw [hfm]; rfl)
    have HB6 := hide ((unhide HwA).trans ((unhide HB1).mono (unhide HwA).size))
    have HO6 := hide (row_base (unhide HR1) (show w.heap.size ≤ wA.heap.size by omega))
    clear hfm
    go_wp2_with fail
    go_ret
    exact ⟨⟨_, rfl, by rw [unhide HE]; exact unhide HO6⟩, unhide HB6⟩
  | true =>
    have hok := form_ok hfm
    have hs8 : set.length ≤ 8 := by
      have h1 := set_places hfm
      have h3 : set.length = (set.map Int.toNat).length := by simp
      have h4 := places_le (setBits set) 8
      rw [h1] at h4
      omega
    have HIN := hide (fun i (hi : i < set.length) => form_place hfm hi)
    have HSW := hide (show specWhy l room set = lackS l room set ++ (List.range set.length).flatMap (placeL l set) by unfold specWhy; rw [hfm]; rfl)
    have hbz := form_bounds hfm
    have bw1 : Below w.heap.size w w1 := (unhide HwA).trans ((unhide HB1).mono (unhide HwA).size)
    have HCZ := hide (fun x (hx : Below w1.heap.size w1 x) => specStateSize_any a l cap room sa set sc x ((unhide HP).on (bw1.trans (hx.mono bw1.size))) ((unhide HS).on (bw1.trans (hx.mono bw1.size))))
    have HLS : Hid (lackS l room set = if room < sizeZ l room set then [⟨1, -1, sizeZ l room set - room⟩] else []) := rfl
    generalize sizeZ l room set = zz at HCZ HLS hbz
    have hws : IntKind.i64.wrap (zz - room) = zz - room := by rw [IntKind.wrap_i64]; omega
    clear hfm bw1
    go_upto_region 4 with fail
    refine wp_region_mix (k := 100) 5 [] [.agg #[.slice a l.length cap, .int .i64 room], .slice sa set.length sc, .int .i64 zz, .pointer (some ⟨w.heap.size, 1, none⟩), .int .i64 room] (CZ w1) (by kernel_rfl) (by kernel_rfl) (by kernel_rfl) (by kernel_rfl) (by kernel_rfl) (by kernel_rfl) ⟨(Below.refl _ _).drew⟩ ?_ ?_ ?_
    · intro full hfull i oo hi hns ho x fl us hC hb
      simp [putAll, slotOf, Act.put] at hfull
      subst hfull
      have bx := hC.below
      rw [← bx.cell (p := ⟨w.heap.size, _, none⟩) (by simp; omega)] at e0 e1
      have hC0 := hC.on (b' := fl) (Below.refl _ _)
      match i with
      | 0 => simp at ho; subst ho; simp [gwp, Region.wanted, yielded]; go_simp; first | done | exact hC0 | exact ⟨rfl, hC0⟩ | (simp; exact hC0) | (refine ⟨by simp <;> omega, hC0⟩) | omega
      | 1 => simp at ho; subst ho; simp [gwp, Region.wanted, yielded]; go_simp; first | done | exact hC0 | exact ⟨rfl, hC0⟩ | (simp; exact hC0) | (refine ⟨by simp <;> omega, hC0⟩) | omega
      | 2 =>
        simp at ho; subst ho; simp [gwp, Region.wanted, yielded]; go_simp
        refine (unhide HCZ x bx).mono ?_
        rintro e w' ⟨rfl, hb2⟩
        go_simp
        first | done | exact hC.on hb2 | exact ⟨rfl, hC.on hb2⟩ | (simp; exact hC.on hb2)
      | 3 => simp at ho; subst ho; simp [gwp, Region.wanted, yielded]; go_simp; first | done | exact hC0 | exact ⟨rfl, hC0⟩ | (simp; exact hC0) | (refine ⟨by simp <;> omega, hC0⟩) | omega
      | 4 => simp at ho; subst ho; simp [gwp, Region.wanted, yielded]; go_simp; first | done | exact hC0 | exact ⟨rfl, hC0⟩ | (simp; exact hC0) | (refine ⟨by simp <;> omega, hC0⟩) | omega
      | i + 5 => omega
    · intro full hfull us j hj
      simp at hj
    intro full hfull us w2 hus hC
    simp [putAll, slotOf, Act.put] at hfull
    subst hfull
    match us, hus with
    | [], _ =>
    have b2 := hC.below
    have HB2 := hide ((unhide HB1).trans (b2.mono (unhide HB1).size))
    have HR2 := hide (show WR wA.heap.size w2 _ [] from ownsRow_on (unhide HR1) b2)
    have HCZ2 := hide (fun x (hx : Below w2.heap.size w2 x) => unhide HCZ x (b2.trans (hx.mono b2.size)))
    have hz2' := b2.size
    rw [← b2.cell (p := ⟨w.heap.size, _, none⟩) (by show w.heap.size < _; omega)] at e0 e1
    clear hC b2 HB1 HR1 HCZ
    simp [putP]
    by_cases hlk : room < zz
    · obtain ⟨N0, hN0⟩ : ∃ N0, N0 = lackS l room set := ⟨_, rfl⟩
      have hN0' : N0 = [⟨1, -1, zz - room⟩] := by rw [hN0, unhide HLS, if_pos hlk]
      have hN0l : N0.length ≤ 1 := by rw [hN0']; simp
      have HN0 := hide hN0
      generalize hzl : zz - room = zl at hws hN0'
      clear HLS hN0
      go_upto_region 5 with fail
      refine wp_region_mixL (k := 100) 9 [8] [.slice (some ⟨wA.heap.size, 0, none⟩) 0 0, .agg #[.slice a l.length cap, .int .i64 room], .slice sa set.length sc, .int .i64 zz, .pointer (some ⟨w.heap.size, 1, none⟩), .int .i64 room, .int .i64 zl, .agg #[.int .i64 1, .int .i64 (-1), .int .i64 zl], undef] (CW w2 ⟨1, -1, zl⟩) (by kernel_rfl) (by kernel_rfl) (by kernel_rfl) (by kernel_rfl) (by kernel_rfl) (by kernel_rfl) ⟨(Below.refl _ _).drew, (fun y h => by cases h)⟩ ?_ ?_ ?_
      · intro full hfull i oo hi hns ho x fl us hC hb
        simp [putAll, slotOf, Act.put] at hfull
        subst hfull
        have bx := hC.below
        rw [← bx.cell (p := ⟨w.heap.size, _, none⟩) (by simp; omega)] at e0 e1
        have hC0 := hC.on (b' := fl) (Below.refl _ _)
        match i with
        | 0 => simp at ho; subst ho; simp [gwp, Region.wanted, yielded]; go_simp; first | done | exact hC0 | exact ⟨rfl, hC0⟩ | (simp; exact hC0) | (refine ⟨by simp <;> omega, hC0⟩) | omega
        | 1 => simp at ho; subst ho; simp [gwp, Region.wanted, yielded]; go_simp; first | done | exact hC0 | exact ⟨rfl, hC0⟩ | (simp; exact hC0) | (refine ⟨by simp <;> omega, hC0⟩) | omega
        | 2 => simp at ho; subst ho; simp [gwp, Region.wanted, yielded]; go_simp; first | done | exact hC0 | exact ⟨rfl, hC0⟩ | (simp; exact hC0) | (refine ⟨by simp <;> omega, hC0⟩) | omega
        | 3 =>
          simp at ho; subst ho; simp [gwp, Region.wanted, yielded]; go_simp
          refine (unhide HCZ2 x bx).mono ?_
          rintro e w' ⟨rfl, hb2⟩
          go_simp
          first | done | exact hC.on hb2 | exact ⟨rfl, hC.on hb2⟩ | (simp; exact hC.on hb2)
        | 4 => simp at ho; subst ho; simp [gwp, Region.wanted, yielded]; go_simp; first | done | exact hC0 | exact ⟨rfl, hC0⟩ | (simp; exact hC0) | (refine ⟨by simp <;> omega, hC0⟩) | omega
        | 5 => simp at ho; subst ho; simp [gwp, Region.wanted, yielded]; go_simp; first | done | exact hC0 | exact ⟨rfl, hC0⟩ | (simp; exact hC0) | (refine ⟨by simp <;> omega, hC0⟩) | omega
        | 6 => simp at ho; subst ho; simp [gwp, Region.wanted, yielded]; go_simp; first | done | exact hC0 | exact ⟨rfl, hC0⟩ | (simp; exact hC0) | (refine ⟨by simp <;> omega, hC0⟩) | omega
        | 7 => simp at ho; subst ho; simp [gwp, Region.wanted, yielded]; go_simp; first | done | exact hC0 | exact ⟨rfl, hC0⟩ | (simp; exact hC0) | (refine ⟨by simp <;> omega, hC0⟩) | omega
        | 8 => simp at hns
        | i + 9 => omega
      · intro full hfull us j hj oo ho x fl hC
        simp [putAll, slotOf, Act.put] at hfull
        subst hfull
        match us with
        | [] =>
          simp at hj
          subst hj
          simp at ho
          subst ho
          simp [gwp, Region.wanted, yielded, putP]
          go_simp
          refine ⟨hC.below.alloc (by have := hC.below.size; omega) _, fun u hu => ?_⟩
          cases hu
          exact ⟨x.heap.size, rfl, hC.below.size, blk_alloc_new _ _⟩
        | _ :: _ => simp at hj
      intro full hfull us x hus hC
      simp [putAll, slotOf, Act.put] at hfull
      subst hfull
      match us, hus with
      | [yv], _ =>
      obtain ⟨gg, hyv, hg1, hg2⟩ := hC.one yv rfl
      subst hyv
      have bx := hC.below
      have hown := ownsRow_on (unhide HR2) bx
      have hnews := why_news hg2
      have hxz := bx.size
      have HBx := hide ((unhide HB2).trans (bx.mono (unhide HB2).size))
      clear hC bx hg2 HR2 HB2 HCZ2 e0 e1
      simp [putP, slotOf, Act.put]
      go_wp2_with (first
        | (at_builtin; refine wpList_append_own _ rfl _ _ 29 rfl wA.heap.size 36 i0 (.agg #[.int .i64 0, .int .i64 0, .int .i64 0]) 3 24 Try.underlying29 hi hz0 hz1 hz2 rfl (by decide) _ _ _ rfl hown ⟨gg, 0, none⟩ 1 1 (stepVs [⟨1, -1, zl⟩]) rfl rfl hnews (steps_one _) (by unfold maxLen; simp) (by simp) (by have := (unhide HBx).size; omega) ?_))
      intro v' w5 hown' hgrow _
      have HB := hide ((unhide HBx).grown hgrow (by have := (unhide HBx).size; omega) (fun j hj => (World.ownsRow.lt hown j hj).1))
      have HO : Hid (WR wA.heap.size w5 v' N0) := by
        show WR _ _ _ _
        rw [hN0']
        unfold WR
        simpa [stepVs] using hown'
      clear hown hown' hgrow HBx hnews hN0'
      go_wp2_with fail
      go_loopw [5, 6] (fun v i wr => ∃ (k : Nat) (N : List StepD), k ≤ set.length ∧ i = .int .i64 k ∧ N.length ≤ 1 + 20 * k ∧ Hid (N = lackS l room set ++ (List.range k).flatMap (placeL l set)) ∧ Hid (WR wA.heap.size wr v N) ∧ Hid (Below wA.heap.size wA wr)) (fun _ i _ => set.length - (intOf i).toNat)
      case atStart => exact ⟨0, N0, Nat.zero_le _, rfl, by omega, by show _ = _; simp [unhide HN0], HO, HB⟩
      case round =>
        rename World => wq
        clear HO HB
        obtain ⟨k, N, hk, rfl, hNl, HN, HOq, HBq⟩ := hrel
        have hzq := (unhide HBq).size
        by_cases hlt : k < set.length
        · have j1 : (k : Int) < (set.length : Int) := by omega
          have j0' : (0 : Int) ≤ (k : Int) := by omega
          have hkin := unhide HIN k hlt
          rcases (unhide HS).2 with hnil | ⟨sb, so, rfl, hsbl, hsc'⟩
          · rw [hnil] at hlt; simp at hlt
          have u0' := hsc' k hlt
          have hpk0 : packOf l set k = l.getD (set.getD k 0).toNat dPack := rfl
          have HZK0 : Hid (set.getD k 0 = set.getD k 0) := rfl
          obtain ⟨p, hzk⟩ : ∃ p : Nat, set.getD k 0 = (p : Int) := ⟨(set.getD k 0).toNat, by omega⟩
          rw [hzk] at u0' hpk0
          rw [show ((p : Int)).toNat = p by simp] at hpk0
          have HZK := hide hzk
          have hpl : p < l.length := by omega
          rcases (unhide HP).2 with hnil | ⟨pb, po, rfl, hpS, hpk⟩
          · rw [hnil] at hpl; simp at hpl
          obtain ⟨a1, c1, a2, c2, a3, c3, hcells, hval⟩ := hpk p hpl
          rw [← hpk0] at hcells hval
          obtain ⟨P, hPP⟩ : ∃ P, packOf l set k = P := ⟨_, rfl⟩
          rw [hPP] at hcells hval
          have HPK0 := hide hPP
          have HPK := hide hpk
          have HVAL := hide hval
          have hpw : pb < w.heap.size := hpS
          have bwq : Below w.heap.size w wq := (unhide HwA).trans ((unhide HBq).mono (unhide HwA).size)
          obtain ⟨n0, n1, n2, n3, n4, n5⟩ := hcells.stay (bwq.block pb hpw)
          have s0 := (bwq.cell (p := ⟨sb, so + k, none⟩) hsbl).trans u0'
          have u0' := ((unhide HwA).cell (p := ⟨sb, so + k, none⟩) hsbl).trans u0'
          have HSC : Hid (∀ i, i < set.length → wA.cell? ⟨sb, so + i, none⟩ = some (.int .i64 (set.getD i 0))) := fun i hi => ((unhide HwA).cell (p := ⟨sb, so + i, none⟩) hsbl).trans (hsc' i hi)
          have hsbA : sb < wA.heap.size := by omega
          have e0 := x0
          have e1 := x1
          rw [← (unhide HBq).cell (p := ⟨w.heap.size, _, none⟩) hxA] at e0 e1
          have hdl : P.deps.length ≤ 4 := by rw [← hPP, hpk0]; exact (hok.reqs p hpl).1
          have hpi : (p : Int) < (l.length : Int) := by omega
          have hp0 : (0 : Int) ≤ (p : Int) := by omega
          have hsq : sb < wq.heap.size := by omega
          have hpq : pb < wq.heap.size := by omega
          have hwq : w.heap.size < wq.heap.size := by omega
          clear hsc' hpk hcells hval hpk0 hPP hzk HZK0 bwq
          go_upto_region 9 with fail
          refine wp_region_mix (k := 100) 9 [8] [.pointer (some ⟨w.heap.size, 0, none⟩), .slice (some ⟨pb, po, none⟩) l.length cap, .slice (some ⟨sb, so, none⟩) set.length sc, .int .i64 (k : Int), .pointer (some ⟨sb, so + k, none⟩), .int .i64 (p : Int), .pointer (some ⟨pb, po + p * 6, none⟩), .agg #[.string P.name, .int .i64 P.ver, .int .i64 P.size, .slice a1 P.deps.length c1, .slice a2 P.pres.length c2, .slice a3 P.bans.length c3], undef] (C8 wq) (by kernel_rfl) (by kernel_rfl) (by kernel_rfl) (by kernel_rfl) (by kernel_rfl) (by kernel_rfl) ⟨(Below.refl _ _).drew, (fun y h => by cases h)⟩ ?_ ?_ ?_
          · intro full hfull i oo hi hns ho x fl us hC hb
            simp [putAll, slotOf, Act.put] at hfull
            subst hfull
            have hq := hC.below
            rw [← hq.cell (p := ⟨w.heap.size, _, none⟩) hwq] at e0
            rw [← hq.cell (p := ⟨sb, _, none⟩) hsq] at s0
            rw [← hq.cell (p := ⟨pb, _, none⟩) hpq] at n0 n1 n2 n3 n4 n5
            have hC0 := hC.on (b' := fl) (Below.refl _ _)
            match i with
            | 0 => simp at ho; subst ho; simp [gwp, Region.wanted, yielded]; go_simp; first | done | exact hC0 | exact ⟨rfl, hC0⟩ | (simp; exact hC0) | (refine ⟨by simp <;> omega, hC0⟩) | omega
            | 1 => simp at ho; subst ho; simp [gwp, Region.wanted, yielded]; go_simp; first | done | exact hC0 | exact ⟨rfl, hC0⟩ | (simp; exact hC0) | (refine ⟨by simp <;> omega, hC0⟩) | omega
            | 2 => simp at ho; subst ho; simp [gwp, Region.wanted, yielded]; go_simp; first | done | exact hC0 | exact ⟨rfl, hC0⟩ | (simp; exact hC0) | (refine ⟨by simp <;> omega, hC0⟩) | omega
            | 3 => simp at ho; subst ho; simp [gwp, Region.wanted, yielded]; go_simp; first | done | exact hC0 | exact ⟨rfl, hC0⟩ | (simp; exact hC0) | (refine ⟨by simp <;> omega, hC0⟩) | omega
            | 4 => simp at ho; subst ho; simp [gwp, Region.wanted, yielded]; go_simp; first | done | exact hC0 | exact ⟨rfl, hC0⟩ | (simp; exact hC0) | (refine ⟨by simp <;> omega, hC0⟩) | omega
            | 5 => simp at ho; subst ho; simp [gwp, Region.wanted, yielded]; go_simp; first | done | exact hC0 | exact ⟨rfl, hC0⟩ | (simp; exact hC0) | (refine ⟨by simp <;> omega, hC0⟩) | omega
            | 6 => simp at ho; subst ho; simp [gwp, Region.wanted, yielded]; go_simp; first | done | exact hC0 | exact ⟨rfl, hC0⟩ | (simp; exact hC0) | (refine ⟨by simp <;> omega, hC0⟩) | omega
            | 7 => simp at ho; subst ho; simp [gwp, Region.wanted, yielded]; go_simp; first | done | exact hC0 | exact ⟨rfl, hC0⟩ | (simp; exact hC0) | (refine ⟨by simp <;> omega, hC0⟩) | omega
            | 8 => simp at hns
            | i + 9 => omega
          · intro full hfull us j hj oo ho x fl hC
            simp [putAll, slotOf, Act.put] at hfull
            subst hfull
            match us with
            | [] =>
              simp at hj
              subst hj
              simp at ho
              subst ho
              simp [gwp, Region.wanted, yielded, putP]
              go_simp
              have hC2 := hC.on (b' := fl) ((Below.refl x.heap.size x).alloc (Nat.le_refl _) (.cells #[.string ByteArray.empty, .int .i64 0, .int .i64 0, .slice none 0 0, .slice none 0 0, .slice none 0 0] 40))
              refine ⟨hC2.below, fun y hy => ?_⟩
              cases hy
              exact ⟨x.heap.size, rfl, hC.below.size, blk_alloc_new _ _⟩
            | _ :: _ => simp at hj
          · intro full hfull us x hus hC
            simp [putAll, slotOf, Act.put] at hfull
            subst hfull
            match us, hus with
            | [yv], _ =>
            obtain ⟨g, rfl, hg, hgb⟩ := hC.fresh yv rfl
            obtain ⟨e0', e1', e2', e3', e4', e5', ef⟩ := six hgb
            have f0 := ef 0
            have f1 := ef 1
            have f2 := ef 2
            have f3 := ef 3
            have f4 := ef 4
            have f5 := ef 5
            have HGB := hide hgb
            have HCB := hide hC.below
            clear hC hgb ef e0 e1 s0 n0 n1 n2 n3 n4 n5
            simp [putP, slotOf, Act.put]
            go_upto_region 10 with fail
            obtain ⟨hW6, hG6⟩ := set6_facts (unhide HGB) (.string P.name) (.int .i64 P.ver) (.int .i64 P.size) (.slice a1 P.deps.length c1) (.slice a2 P.pres.length c2) (.slice a3 P.bans.length c3)
            change Code.wp _ _ _ _ (set6 x g (.string P.name) (.int .i64 P.ver) (.int .i64 P.size) (.slice a1 P.deps.length c1) (.slice a2 P.pres.length c2) (.slice a3 P.bans.length c3))
            generalize set6 x g (.string P.name) (.int .i64 P.ver) (.int .i64 P.size) (.slice a1 P.deps.length c1) (.slice a2 P.pres.length c2) (.slice a3 P.bans.length c3) = W1 at hW6 hG6 ⊢
            have b01 : Below wq.heap.size wq W1 := (unhide HCB).trans ⟨hG6.os, hG6.tape, hG6.output, hG6.size, fun b hb => hG6.block b (by have := (unhide HCB).size; omega) (by simp; omega)⟩
            have HB := hide ((unhide HBq).trans (b01.mono (unhide HBq).size))
            have HO := hide (show WR wA.heap.size W1 u5 N from ownsRow_on (unhide HOq) b01)
            have HG := hide hW6
            clear b01 hW6 hG6 HGB HCB HOq HBq e0' e1' e2' e3' e4' e5' f0 f1 f2 f3 f4 f5
            go_wp2_with fail
            go_loopw [5, 8] (fun v i wr => ∃ j : Nat, j ≤ k ∧ i = .int .i64 j ∧ Hid (WR wA.heap.size wr v (N ++ coll (twF l set k) j)) ∧ Hid (wr.heap[g]? = some (.cells #[.string P.name, .int .i64 P.ver, .int .i64 P.size, .slice a1 P.deps.length c1, .slice a2 P.pres.length c2, .slice a3 P.bans.length c3] 40 (0, 0))) ∧ Hid (Below wA.heap.size wA wr)) (fun _ i _ => k - (intOf i).toNat)
            case atStart => exact ⟨0, Nat.zero_le _, rfl, by simpa [coll] using HO, HG, HB⟩
            case round =>
              rename World => wo
              obtain ⟨j, hj, rfl, HO, HG, HB⟩ := hrel
              have y0 := x0
              have y1 := x1
              rw [← (unhide HB).cell (p := ⟨w.heap.size, _, none⟩) hxA] at y0 y1
              have t0 := ((unhide HB).cell (p := ⟨sb, so + k, none⟩) hsbA).trans u0'
              have hzW := (unhide HB).size
              obtain ⟨g0, g1, g2, g3, g4, g5, _⟩ := six (unhide HG)
              have hgW : g < wo.heap.size := (Array.getElem?_eq_some_iff.1 (unhide HG)).1
              have hsW : sb < wo.heap.size := by omega
              have hxW : w.heap.size < wo.heap.size := by omega
              have bW : Below w.heap.size w wo := (unhide HwA).trans ((unhide HB).mono (unhide HwA).size)
              have HBW := hide bW
              clear bW
              by_cases hjl : j < k
              · have j2 : (j : Int) < (k : Int) := by omega
                have j0 : (0 : Int) ≤ (j : Int) := by omega
                have hjs : (j : Int) < (set.length : Int) := by omega
                have hqin := unhide HIN j (by omega)
                have q0 := ((unhide HB).cell (p := ⟨sb, so + j, none⟩) hsbA).trans (unhide HSC j (by omega))
                have hcl := coll_len (twF l set k) j
                have HFS0 : Hid (twF l set k j = if (packOf l set j).name.toList == P.name.toList then some ⟨2, (p : Int), set.getD j 0⟩ else none) := by show _ = _; unfold twF; rw [unhide HZK, unhide HPK0]
                have hpq0 : packOf l set j = l.getD (set.getD j 0).toNat dPack := rfl
                generalize set.getD j 0 = z at q0 HFS0 hqin hpq0
                obtain ⟨q, rfl⟩ : ∃ q : Nat, z = (q : Int) := ⟨z.toNat, by omega⟩
                have hql : q < l.length := by omega
                have hqi : (q : Int) < (l.length : Int) := by omega
                have hq00 : (0 : Int) ≤ (q : Int) := by omega
                obtain ⟨_, _, _, _, _, _, hcq, _⟩ := unhide HPK q hql
                rw [show ((q : Int)).toNat = q by simp] at hpq0
                rw [← hpq0] at hcq
                have nq := hcq.name
                generalize packOf l set j = Q at HFS0 nq
                rw [← (unhide HBW).cell (p := ⟨pb, _, none⟩) hpw] at nq
                have hpW : pb < wo.heap.size := by omega
                clear hcq hpq0
                go_upto_region 13 with fail
                refine wp_region_mix (k := 100) 11 [] [.pointer (some ⟨w.heap.size, 0, none⟩), .slice (some ⟨pb, po, none⟩) l.length cap, .slice (some ⟨sb, so, none⟩) set.length sc, .int .i64 (j : Int), .pointer (some ⟨sb, so + j, none⟩), .int .i64 (q : Int), .pointer (some ⟨pb, po + q * 6, none⟩), .pointer (some ⟨pb, po + q * 6, none⟩), .string Q.name, .pointer (some ⟨g, 0, none⟩), .string P.name] (CZ wo) (by kernel_rfl) (by kernel_rfl) (by kernel_rfl) (by kernel_rfl) (by kernel_rfl) (by kernel_rfl) ⟨(Below.refl _ _).drew⟩ ?_ ?_ ?_
                · intro full hfull i oo hi hns ho x fl us hC hb
                  simp [putAll, slotOf, Act.put] at hfull
                  subst hfull
                  have bx := hC.below
                  rw [← bx.cell (p := ⟨w.heap.size, _, none⟩) (by simp; omega)] at y0 y1
                  rw [← bx.cell (p := ⟨sb, _, none⟩) (by simp; omega)] at q0
                  rw [← bx.cell (p := ⟨g, _, none⟩) (by simp; omega)] at g0
                  rw [← bx.cell (p := ⟨pb, _, none⟩) (by simp; omega)] at nq
                  have hC0 := hC.on (b' := fl) (Below.refl _ _)
                  match i with
                  | 0 => simp at ho; subst ho; simp [gwp, Region.wanted, yielded]; go_simp; first | done | exact hC0 | exact ⟨rfl, hC0⟩ | (simp; exact hC0) | (refine ⟨by simp <;> omega, hC0⟩) | omega
                  | 1 => simp at ho; subst ho; simp [gwp, Region.wanted, yielded]; go_simp; first | done | exact hC0 | exact ⟨rfl, hC0⟩ | (simp; exact hC0) | (refine ⟨by simp <;> omega, hC0⟩) | omega
                  | 2 => simp at ho; subst ho; simp [gwp, Region.wanted, yielded]; go_simp; first | done | exact hC0 | exact ⟨rfl, hC0⟩ | (simp; exact hC0) | (refine ⟨by simp <;> omega, hC0⟩) | omega
                  | 3 => simp at ho; subst ho; simp [gwp, Region.wanted, yielded]; go_simp; first | done | exact hC0 | exact ⟨rfl, hC0⟩ | (simp; exact hC0) | (refine ⟨by simp <;> omega, hC0⟩) | omega
                  | 4 => simp at ho; subst ho; simp [gwp, Region.wanted, yielded]; go_simp; first | done | exact hC0 | exact ⟨rfl, hC0⟩ | (simp; exact hC0) | (refine ⟨by simp <;> omega, hC0⟩) | omega
                  | 5 => simp at ho; subst ho; simp [gwp, Region.wanted, yielded]; go_simp; first | done | exact hC0 | exact ⟨rfl, hC0⟩ | (simp; exact hC0) | (refine ⟨by simp <;> omega, hC0⟩) | omega
                  | 6 => simp at ho; subst ho; simp [gwp, Region.wanted, yielded]; go_simp; first | done | exact hC0 | exact ⟨rfl, hC0⟩ | (simp; exact hC0) | (refine ⟨by simp <;> omega, hC0⟩) | omega
                  | 7 => simp at ho; subst ho; simp [gwp, Region.wanted, yielded]; go_simp; first | done | exact hC0 | exact ⟨rfl, hC0⟩ | (simp; exact hC0) | (refine ⟨by simp <;> omega, hC0⟩) | omega
                  | 8 => simp at ho; subst ho; simp [gwp, Region.wanted, yielded]; go_simp; first | done | exact hC0 | exact ⟨rfl, hC0⟩ | (simp; exact hC0) | (refine ⟨by simp <;> omega, hC0⟩) | omega
                  | 9 => simp at ho; subst ho; simp [gwp, Region.wanted, yielded]; go_simp; first | done | exact hC0 | exact ⟨rfl, hC0⟩ | (simp; exact hC0) | (refine ⟨by simp <;> omega, hC0⟩) | omega
                  | 10 => simp at ho; subst ho; simp [gwp, Region.wanted, yielded]; go_simp; first | done | exact hC0 | exact ⟨rfl, hC0⟩ | (simp; exact hC0) | (refine ⟨by simp <;> omega, hC0⟩) | omega
                  | i + 11 => omega
                · intro full hfull us j hj
                  simp at hj
                intro full hfull us w4 hus hC
                simp [putAll, slotOf, Act.put] at hfull
                subst hfull
                match us, hus with
                | [], _ =>
                have b4 := hC.below
                have HB4 := hide ((unhide HB).trans (b4.mono (unhide HB).size))
                have HG4 := hide ((b4.block g hgW).trans (unhide HG))
                have HO4 := hide (ownsRow_on (unhide HO) b4)
                have hz4 := b4.size
                rw [← b4.cell (p := ⟨sb, _, none⟩) (by show sb < _; omega)] at t0 q0
                clear hC HB HG HO
                simp [putP]
                clear b4 y0 y1 g0 g1 g2 g3 g4 g5 nq
                cases hnb : (Q.name.toList == P.name.toList) with
                | true =>
                  have HFS := hide (show twF l set k j = some ⟨2, (p : Int), (q : Int)⟩ from (unhide HFS0).trans (by rw [hnb]; rfl))
                  clear HFS0
                  have hOL : (N ++ coll (twF l set k) j).length ≤ 1000 := by rw [List.length_append]; omega
                  go_upto_region 14 with fail
                  refine wp_region_mixL (k := 100) 11 [10] [u5, .slice (some ⟨sb, so, none⟩) set.length sc, .int .i64 (k : Int), .pointer (some ⟨sb, so + k, none⟩), .int .i64 (p : Int), .slice (some ⟨sb, so, none⟩) set.length sc, .int .i64 (j : Int), .pointer (some ⟨sb, so + j, none⟩), .int .i64 (q : Int), .agg #[.int .i64 2, .int .i64 (p : Int), .int .i64 (q : Int)], undef] (CW w4 ⟨2, (p : Int), (q : Int)⟩) (by kernel_rfl) (by kernel_rfl) (by kernel_rfl) (by kernel_rfl) (by kernel_rfl) (by kernel_rfl) ⟨(Below.refl _ _).drew, (fun y h => by cases h)⟩ ?_ ?_ ?_
                  · intro full hfull i oo hi hns ho x fl us hC hb
                    simp [putAll, slotOf, Act.put] at hfull
                    subst hfull
                    have bx := hC.below
                    rw [← bx.cell (p := ⟨sb, _, none⟩) (by simp; omega)] at t0 q0
                    have hC0 := hC.on (b' := fl) (Below.refl _ _)
                    match i with
                    | 0 => simp at ho; subst ho; simp [gwp, Region.wanted, yielded]; go_simp; first | done | exact hC0 | exact ⟨rfl, hC0⟩ | (simp; exact hC0) | (refine ⟨by simp <;> omega, hC0⟩) | omega
                    | 1 => simp at ho; subst ho; simp [gwp, Region.wanted, yielded]; go_simp; first | done | exact hC0 | exact ⟨rfl, hC0⟩ | (simp; exact hC0) | (refine ⟨by simp <;> omega, hC0⟩) | omega
                    | 2 => simp at ho; subst ho; simp [gwp, Region.wanted, yielded]; go_simp; first | done | exact hC0 | exact ⟨rfl, hC0⟩ | (simp; exact hC0) | (refine ⟨by simp <;> omega, hC0⟩) | omega
                    | 3 => simp at ho; subst ho; simp [gwp, Region.wanted, yielded]; go_simp; first | done | exact hC0 | exact ⟨rfl, hC0⟩ | (simp; exact hC0) | (refine ⟨by simp <;> omega, hC0⟩) | omega
                    | 4 => simp at ho; subst ho; simp [gwp, Region.wanted, yielded]; go_simp; first | done | exact hC0 | exact ⟨rfl, hC0⟩ | (simp; exact hC0) | (refine ⟨by simp <;> omega, hC0⟩) | omega
                    | 5 => simp at ho; subst ho; simp [gwp, Region.wanted, yielded]; go_simp; first | done | exact hC0 | exact ⟨rfl, hC0⟩ | (simp; exact hC0) | (refine ⟨by simp <;> omega, hC0⟩) | omega
                    | 6 => simp at ho; subst ho; simp [gwp, Region.wanted, yielded]; go_simp; first | done | exact hC0 | exact ⟨rfl, hC0⟩ | (simp; exact hC0) | (refine ⟨by simp <;> omega, hC0⟩) | omega
                    | 7 => simp at ho; subst ho; simp [gwp, Region.wanted, yielded]; go_simp; first | done | exact hC0 | exact ⟨rfl, hC0⟩ | (simp; exact hC0) | (refine ⟨by simp <;> omega, hC0⟩) | omega
                    | 8 => simp at ho; subst ho; simp [gwp, Region.wanted, yielded]; go_simp; first | done | exact hC0 | exact ⟨rfl, hC0⟩ | (simp; exact hC0) | (refine ⟨by simp <;> omega, hC0⟩) | omega
                    | 9 => simp at ho; subst ho; simp [gwp, Region.wanted, yielded]; go_simp; first | done | exact hC0 | exact ⟨rfl, hC0⟩ | (simp; exact hC0) | (refine ⟨by simp <;> omega, hC0⟩) | omega
                    | 10 => simp at hns
                    | i + 11 => omega
                  · intro full hfull us j hj oo ho x fl hC
                    simp [putAll, slotOf, Act.put] at hfull
                    subst hfull
                    match us with
                    | [] =>
                      simp at hj
                      subst hj
                      simp at ho
                      subst ho
                      simp [gwp, Region.wanted, yielded, putP]
                      go_simp
                      refine ⟨hC.below.alloc (by have := hC.below.size; omega) _, fun u hu => ?_⟩
                      cases hu
                      exact ⟨x.heap.size, rfl, hC.below.size, blk_alloc_new _ _⟩
                    | _ :: _ => simp at hj
                  intro full hfull us x hus hC
                  simp [putAll, slotOf, Act.put] at hfull
                  subst hfull
                  match us, hus with
                  | [yv], _ =>
                  obtain ⟨gg, hyv, hg1, hg2⟩ := hC.one yv rfl
                  subst hyv
                  have bx := hC.below
                  have hown := ownsRow_on (unhide HO4) bx
                  have hnews := why_news hg2
                  have hxz := bx.size
                  have HBx := hide ((unhide HB4).trans (bx.mono (unhide HB4).size))
                  have HGx := hide ((bx.block g (Array.getElem?_eq_some_iff.1 (unhide HG4)).1).trans (unhide HG4))
                  clear hC bx hg2 HO4 HB4 HG4 t0 q0
                  simp [putP, slotOf, Act.put]
                  go_wp2_with (first
                    | (at_builtin; refine wpList_append_own _ rfl _ _ 29 rfl wA.heap.size 36 i0 (.agg #[.int .i64 0, .int .i64 0, .int .i64 0]) 3 24 Try.underlying29 hi hz0 hz1 hz2 rfl (by decide) _ _ _ rfl hown ⟨gg, 0, none⟩ 1 1 (stepVs [⟨2, (p : Int), (q : Int)⟩]) rfl rfl hnews (steps_one _) (by unfold maxLen; omega) (by omega) (by have := (unhide HBx).size; omega) ?_))
                  intro v' w5 hown' hgrow _
                  have HB5 := hide ((unhide HBx).grown hgrow (by have := (unhide HBx).size; omega) (fun j hj => (World.ownsRow.lt hown j hj).1))
                  have HG5 := hide (pack_kept (unhide HGx) hown hgrow)
                  have HO5 : Hid (WR wA.heap.size w5 v' (N ++ coll (twF l set k) (j + 1))) := by
                    show WR _ _ _ _
                    rw [coll_succ, unhide HFS, ← List.append_assoc]
                    unfold WR
                    rw [Option.toList_some, stepVs_app]
                    simpa [Nat.add_assoc] using hown'
                  clear hown hown' hgrow HGx HBx hnews
                  go_wp2_with fail
                  go_roundw
                  case rel => exact ⟨j + 1, by omega, by go_num, HO5, HG5, HB5⟩
                  case measure => simp [intOf]; omega
                | false =>
                  have HFS := hide (show twF l set k j = none from (unhide HFS0).trans (by rw [hnb]; rfl))
                  clear HFS0
                  have HO5 : Hid (WR wA.heap.size w4 u5 (N ++ coll (twF l set k) (j + 1))) := by
                    show WR _ _ _ _
                    rw [coll_succ, unhide HFS]
                    have h4 : WR wA.heap.size w4 u5 (N ++ coll (twF l set k) j) := unhide HO4
                    simpa using h4
                  clear HO4
                  go_wp2_with fail
                  go_roundw
                  case rel => exact ⟨j + 1, by omega, by go_num, HO5, HG4, HB4⟩
                  case measure => simp [intOf]; omega
              · have j2 : ¬ (j : Int) < (k : Int) := by omega
                have hje : j = k := by omega
                have hl2 := coll_len (twF l set k) j
                obtain ⟨N2, hN2⟩ : ∃ N2, N2 = N ++ coll (twF l set k) k := ⟨_, rfl⟩
                have hN2l : N2.length ≤ 1 + 20 * k + 8 := by rw [hN2, List.length_append]; rw [hje] at hl2; omega
                rw [hje, ← hN2] at HO
                have HN2 := hide hN2
                clear hN2 hje
                go_wp2_with fail
                go_loopw [5, 9] (fun v i wr => ∃ j : Nat, j ≤ P.deps.length ∧ i = .int .i64 j ∧ Hid (WR wA.heap.size wr v (N2 ++ coll (dpF l set k) j)) ∧ Hid (wr.heap[g]? = some (.cells #[.string P.name, .int .i64 P.ver, .int .i64 P.size, .slice a1 P.deps.length c1, .slice a2 P.pres.length c2, .slice a3 P.bans.length c3] 40 (0, 0))) ∧ Hid (Below wA.heap.size wA wr)) (fun _ i _ => P.deps.length - (intOf i).toNat)
                case atStart => exact ⟨0, Nat.zero_le _, rfl, by simpa [coll] using HO, HG, HB⟩
                case round =>
                  clear HO HG HB y0 y1 t0 g0 g1 g2 g3 g4 g5 hzW hgW hsW hxW HBW
                  rename World => wo
                  obtain ⟨j, hj, rfl, HO, HG, HB⟩ := hrel
                  have y0 := x0
                  have y1 := x1
                  rw [← (unhide HB).cell (p := ⟨w.heap.size, _, none⟩) hxA] at y0 y1
                  have t0 := ((unhide HB).cell (p := ⟨sb, so + k, none⟩) hsbA).trans u0'
                  have hzW := (unhide HB).size
                  obtain ⟨g0, g1, g2, g3, g4, g5, _⟩ := six (unhide HG)
                  have hgW : g < wo.heap.size := (Array.getElem?_eq_some_iff.1 (unhide HG)).1
                  have hsW : sb < wo.heap.size := by omega
                  have hxW : w.heap.size < wo.heap.size := by omega
                  have bW : Below w.heap.size w wo := (unhide HwA).trans ((unhide HB).mono (unhide HwA).size)
                  have HBW := hide bW
                  clear bW
                  by_cases hjl : j < P.deps.length
                  · have j2 : (j : Int) < (P.deps.length : Int) := by omega
                    have j0 : (0 : Int) ≤ (j : Int) := by omega
                    have q0 := t0
                    rcases (unhide HVAL).deps.2 with hnil | ⟨db, dof, rfl, hdS, hdk⟩
                    · rw [hnil] at hjl; simp at hjl
                    obtain ⟨ra, rc, d0, hrq⟩ := hdk j hjl
                    have hdw : db < w.heap.size := hdS
                    have hcl := coll_len (dpF l set k) j
                    have HFS0 : Hid (dpF l set k j = if someB l set (P.deps.getD j []) (-1) then none else some ⟨3, (p : Int), (j : Int)⟩) := by show _ = _; unfold dpF; rw [unhide HZK, unhide HPK0]
                    have HSO := hide (fun x (hx : Below wo.heap.size wo x) => l2Some_any (some ⟨pb, po, none⟩) l cap room (some ⟨sb, so, none⟩) set sc ra (P.deps.getD j []) rc (-1) (unhide HIN) x ((unhide HP).on ((unhide HBW).trans (hx.mono (unhide HBW).size))) ((unhide HS).on ((unhide HBW).trans (hx.mono (unhide HBW).size))) (hrq.on ((unhide HBW).trans (hx.mono (unhide HBW).size))))
                    generalize P.deps.getD j [] = ROW at d0 hrq HFS0 HSO
                    generalize someB l set ROW (-1) = sb3 at HFS0 HSO
                    rw [← (unhide HBW).cell (p := ⟨db, _, none⟩) hdw] at d0
                    have hdW : db < wo.heap.size := by omega
                    clear hdk hrq
                    go_upto_region 18 with fail
                    refine wp_region_mix (k := 100) 8 [] [.agg #[.slice (some ⟨pb, po, none⟩) l.length cap, .int .i64 room], .slice (some ⟨sb, so, none⟩) set.length sc, .pointer (some ⟨g, 3, none⟩), .slice (some ⟨db, dof, none⟩) P.deps.length c1, .int .i64 (j : Int), .pointer (some ⟨db, dof + j, none⟩), .slice ra ROW.length rc, .bool sb3] (CZ wo) (by kernel_rfl) (by kernel_rfl) (by kernel_rfl) (by kernel_rfl) (by kernel_rfl) (by kernel_rfl) ⟨(Below.refl _ _).drew⟩ ?_ ?_ ?_
                    · intro full hfull i oo hi hns ho x fl us hC hb
                      simp [putAll, slotOf, Act.put] at hfull
                      subst hfull
                      have bx := hC.below
                      rw [← bx.cell (p := ⟨w.heap.size, _, none⟩) (by simp; omega)] at y0 y1
                      rw [← bx.cell (p := ⟨g, _, none⟩) (by simp; omega)] at g3
                      rw [← bx.cell (p := ⟨db, _, none⟩) (by simp; omega)] at d0
                      have hC0 := hC.on (b' := fl) (Below.refl _ _)
                      match i with
                      | 0 => simp at ho; subst ho; simp [gwp, Region.wanted, yielded]; go_simp; first | done | exact hC0 | exact ⟨rfl, hC0⟩ | (simp; exact hC0) | (refine ⟨by simp <;> omega, hC0⟩) | omega
                      | 1 => simp at ho; subst ho; simp [gwp, Region.wanted, yielded]; go_simp; first | done | exact hC0 | exact ⟨rfl, hC0⟩ | (simp; exact hC0) | (refine ⟨by simp <;> omega, hC0⟩) | omega
                      | 2 => simp at ho; subst ho; simp [gwp, Region.wanted, yielded]; go_simp; first | done | exact hC0 | exact ⟨rfl, hC0⟩ | (simp; exact hC0) | (refine ⟨by simp <;> omega, hC0⟩) | omega
                      | 3 => simp at ho; subst ho; simp [gwp, Region.wanted, yielded]; go_simp; first | done | exact hC0 | exact ⟨rfl, hC0⟩ | (simp; exact hC0) | (refine ⟨by simp <;> omega, hC0⟩) | omega
                      | 4 => simp at ho; subst ho; simp [gwp, Region.wanted, yielded]; go_simp; first | done | exact hC0 | exact ⟨rfl, hC0⟩ | (simp; exact hC0) | (refine ⟨by simp <;> omega, hC0⟩) | omega
                      | 5 => simp at ho; subst ho; simp [gwp, Region.wanted, yielded]; go_simp; first | done | exact hC0 | exact ⟨rfl, hC0⟩ | (simp; exact hC0) | (refine ⟨by simp <;> omega, hC0⟩) | omega
                      | 6 => simp at ho; subst ho; simp [gwp, Region.wanted, yielded]; go_simp; first | done | exact hC0 | exact ⟨rfl, hC0⟩ | (simp; exact hC0) | (refine ⟨by simp <;> omega, hC0⟩) | omega
                      | 7 =>
                        simp at ho; subst ho; simp [gwp, Region.wanted, yielded]; go_simp
                        refine (unhide HSO x bx).mono ?_
                        rintro e w' ⟨rfl, hb2⟩
                        go_simp
                        first | done | exact hC.on hb2 | exact ⟨rfl, hC.on hb2⟩ | (simp; exact hC.on hb2)
                      | i + 8 => omega
                    · intro full hfull us j hj
                      simp at hj
                    intro full hfull us w4 hus hC
                    simp [putAll, slotOf, Act.put] at hfull
                    subst hfull
                    match us, hus with
                    | [], _ =>
                    have b4 := hC.below
                    have HB4 := hide ((unhide HB).trans (b4.mono (unhide HB).size))
                    have HG4 := hide ((b4.block g hgW).trans (unhide HG))
                    have HO4 := hide (ownsRow_on (unhide HO) b4)
                    have hz4 := b4.size
                    rw [← b4.cell (p := ⟨sb, _, none⟩) (by show sb < _; omega)] at t0 q0
                    clear hC HB HG HO
                    simp [putP]
                    clear HSO b4 y0 y1 g0 g1 g2 g3 g4 g5 d0
                    cases sb3 with
                    | true =>
                      have HFS := hide (show dpF l set k j = none from unhide HFS0)
                      clear HFS0
                      have HO5 : Hid (WR wA.heap.size w4 u5 (N2 ++ coll (dpF l set k) (j + 1))) := by
                        show WR _ _ _ _
                        rw [coll_succ, unhide HFS]
                        have h4 : WR wA.heap.size w4 u5 (N2 ++ coll (dpF l set k) j) := unhide HO4
                        simpa using h4
                      clear HO4
                      go_wp2_with fail
                      go_roundw
                      case rel => exact ⟨j + 1, by omega, by go_num, HO5, HG4, HB4⟩
                      case measure => simp [intOf]; omega
                    | false =>
                      have HFS := hide (show dpF l set k j = some ⟨3, (p : Int), (j : Int)⟩ from unhide HFS0)
                      clear HFS0
                      have hOL : (N2 ++ coll (dpF l set k) j).length ≤ 1000 := by rw [List.length_append]; omega
                      have hown := (show w4.ownsRow wA.heap.size 36 3 u5 _ _ from unhide HO4).alloc (.cells #[.int .i64 3, .int .i64 (p : Int), .int .i64 (j : Int)] 36)
                      have hnews := why_news (s := ⟨3, (p : Int), (j : Int)⟩) (blk_alloc_new w4 (.cells #[.int .i64 3, .int .i64 (p : Int), .int .i64 (j : Int)] 36))
                      have HBx := hide ((unhide HB4).alloc (unhide HB4).size (.cells #[.int .i64 3, .int .i64 (p : Int), .int .i64 (j : Int)] 36))
                      have HGx := hide ((blk_alloc_lt w4 (.cells #[.int .i64 3, .int .i64 (p : Int), .int .i64 (j : Int)] 36) g (Array.getElem?_eq_some_iff.1 (unhide HG4)).1).trans (unhide HG4))
                      clear HO4 HB4 HG4
                      go_wp2_with (first
                        | (at_builtin; refine wpList_append_own _ rfl _ _ 29 rfl wA.heap.size 36 i0 (.agg #[.int .i64 0, .int .i64 0, .int .i64 0]) 3 24 Try.underlying29 hi hz0 hz1 hz2 rfl (by decide) _ _ _ rfl hown ⟨w4.heap.size, 0, none⟩ 1 1 (stepVs [⟨3, (p : Int), (j : Int)⟩]) rfl rfl hnews (steps_one _) (by unfold maxLen; omega) (by omega) (by have := (unhide HBx).size; omega) ?_))
                      intro v' w5 hown' hgrow _
                      have HB5 := hide ((unhide HBx).grown hgrow (by have := (unhide HBx).size; omega) (fun j hj => (World.ownsRow.lt hown j hj).1))
                      have HG5 := hide (pack_kept (unhide HGx) hown hgrow)
                      have HO5 : Hid (WR wA.heap.size w5 v' (N2 ++ coll (dpF l set k) (j + 1))) := by
                        show WR _ _ _ _
                        rw [coll_succ, unhide HFS, ← List.append_assoc]
                        unfold WR
                        rw [Option.toList_some, stepVs_app]
                        simpa [Nat.add_assoc] using hown'
                      clear hown hown' hgrow HGx HBx hnews
                      go_wp2_with fail
                      go_roundw
                      case rel => exact ⟨j + 1, by omega, by go_num, HO5, HG5, HB5⟩
                      case measure => simp [intOf]; omega
                  · have j2 : ¬ (j : Int) < (P.deps.length : Int) := by omega
                    have hje : j = P.deps.length := by omega
                    have hl3 := coll_len (dpF l set k) j
                    obtain ⟨N3, hN3⟩ : ∃ N3, N3 = N2 ++ coll (dpF l set k) P.deps.length := ⟨_, rfl⟩
                    have hN3l : N3.length ≤ 1 + 20 * k + 12 := by rw [hN3, List.length_append, ← hje]; omega
                    rw [hje, ← hN3] at HO
                    have HN3 := hide hN3
                    clear hN3 hje
                    go_wp2_with fail
                    go_loopw [5, 10] (fun v i wr => ∃ j : Nat, j ≤ set.length ∧ i = .int .i64 j ∧ Hid (WR wA.heap.size wr v (N3 ++ coll (bnF l set k) j)) ∧ Hid (wr.heap[g]? = some (.cells #[.string P.name, .int .i64 P.ver, .int .i64 P.size, .slice a1 P.deps.length c1, .slice a2 P.pres.length c2, .slice a3 P.bans.length c3] 40 (0, 0))) ∧ Hid (Below wA.heap.size wA wr)) (fun _ i _ => set.length - (intOf i).toNat)
                    case atStart => exact ⟨0, Nat.zero_le _, rfl, by simpa [coll] using HO, HG, HB⟩
                    case round =>
                      clear HO HG HB y0 y1 t0 g0 g1 g2 g3 g4 g5 hzW hgW hsW hxW HBW
                      rename World => wo
                      obtain ⟨j, hj, rfl, HO, HG, HB⟩ := hrel
                      have y0 := x0
                      have y1 := x1
                      rw [← (unhide HB).cell (p := ⟨w.heap.size, _, none⟩) hxA] at y0 y1
                      have t0 := ((unhide HB).cell (p := ⟨sb, so + k, none⟩) hsbA).trans u0'
                      have hzW := (unhide HB).size
                      obtain ⟨g0, g1, g2, g3, g4, g5, _⟩ := six (unhide HG)
                      have hgW : g < wo.heap.size := (Array.getElem?_eq_some_iff.1 (unhide HG)).1
                      have hsW : sb < wo.heap.size := by omega
                      have hxW : w.heap.size < wo.heap.size := by omega
                      have bW : Below w.heap.size w wo := (unhide HwA).trans ((unhide HB).mono (unhide HwA).size)
                      have HBW := hide bW
                      clear bW
                      by_cases hjl : j < set.length
                      · have j2 : (j : Int) < (set.length : Int) := by omega
                        have j0 : (0 : Int) ≤ (j : Int) := by omega
                        have hqin := unhide HIN j hjl
                        have q0 := ((unhide HB).cell (p := ⟨sb, so + j, none⟩) hsbA).trans (unhide HSC j hjl)
                        have hcl := coll_len (bnF l set k) j
                        have HFS0 : Hid (bnF l set k j = if decide (j ≠ k) && someB l [set.getD j 0] P.bans (-1) then some ⟨4, (p : Int), set.getD j 0⟩ else none) := by show _ = _; unfold bnF; rw [unhide HZK, unhide HPK0]
                        have HSO := hide (fun x (hx : Below wo.heap.size wo x) => l2Some_any (some ⟨pb, po, none⟩) l cap room (some ⟨sb, so + j, none⟩) [set.getD j 0] (sc - j) a3 P.bans c3 (-1) (fun i hi => by simp at hi; subst hi; simpa using hqin) x ((unhide HP).on ((unhide HBW).trans (hx.mono (unhide HBW).size))) (SetAt.one (b := sb) (o := so + j) ((hx.cell (p := ⟨sb, so + j, none⟩) (by show sb < _; omega)).trans q0) (by have := hx.size; omega)) ((unhide HVAL).bans.on ((unhide HBW).trans (hx.mono (unhide HBW).size))))
                        generalize set.getD j 0 = z at q0 HFS0 HSO hqin
                        generalize someB l [z] P.bans (-1) = sb4 at HFS0 HSO
                        have hw1 : IntKind.i64.wrap ((j : Int) + 1) = ((j + 1 : Nat) : Int) := by rw [IntKind.wrap_i64]; omega
                        have hcc : 0 ≤ (j : Int) + 1 ∧ (j : Int) + 1 ≤ (sc : Int) := by omega
                        have hdk : ¬ sc = j := by omega
                        by_cases hjk : j = k
                        · have hne : ((j : Int) != (k : Int)) = false := by simp [hjk]
                          have HFS := hide (show bnF l set k j = none from (unhide HFS0).trans (by simp [hjk]))
                          have hjk' : ¬ (j : Int) ≠ (k : Int) := by omega
                          clear HFS0 hjk
                          go_upto_region 23 with fail
                          refine wp_region_mix (k := 100) 13 [] [.int .i64 (j : Int), .int .i64 (k : Int), .bool false, .bool false, undef, undef, undef, undef, undef, undef, undef, undef, undef] (CZ wo) (by kernel_rfl) (by kernel_rfl) (by kernel_rfl) (by kernel_rfl) (by kernel_rfl) (by kernel_rfl) ⟨(Below.refl _ _).drew⟩ ?_ ?_ ?_
                          · intro full hfull i oo hi hns ho x fl us hC hb
                            simp [putAll, slotOf, Act.put] at hfull
                            subst hfull
                            have bx := hC.below
                            rw [← bx.cell (p := ⟨w.heap.size, _, none⟩) (by simp; omega)] at y0 y1
                            rw [← bx.cell (p := ⟨g, _, none⟩) (by simp; omega)] at g5
                            rw [← bx.cell (p := ⟨sb, _, none⟩) (by simp; omega)] at q0
                            have hC0 := hC.on (b' := fl) (Below.refl _ _)
                            match i with
                            | 0 => simp at ho; subst ho; simp [gwp, Region.wanted, yielded]; go_simp; first | done | exact hC0 | exact ⟨rfl, hC0⟩ | (simp; exact hC0) | (refine ⟨by simp <;> omega, hC0⟩) | omega
                            | 1 => simp at ho; subst ho; simp [gwp, Region.wanted, yielded]; go_simp; first | done | exact hC0 | exact ⟨rfl, hC0⟩ | (simp; exact hC0) | (refine ⟨by simp <;> omega, hC0⟩) | omega
                            | 2 => simp at ho; subst ho; simp [gwp, Region.wanted, yielded]; go_simp; first | done | exact hC0 | exact ⟨rfl, hC0⟩ | (simp; exact hC0) | (refine ⟨by simp <;> omega, hC0⟩) | omega
                            | 3 => simp at ho; subst ho; simp [gwp, Region.wanted, yielded]; go_simp; first | done | exact hC0 | exact ⟨rfl, hC0⟩ | (simp; exact hC0) | (refine ⟨by simp <;> omega, hC0⟩) | omega
                            | 4 => simp at ho; subst ho; simp [gwp, Region.wanted, yielded]; go_simp; first | done | exact hC0 | exact ⟨rfl, hC0⟩ | (simp; exact hC0) | (refine ⟨by simp <;> omega, hC0⟩) | omega
                            | 5 => simp at ho; subst ho; simp [gwp, Region.wanted, yielded]; go_simp; first | done | exact hC0 | exact ⟨rfl, hC0⟩ | (simp; exact hC0) | (refine ⟨by simp <;> omega, hC0⟩) | omega
                            | 6 => simp at ho; subst ho; simp [gwp, Region.wanted, yielded]; go_simp; first | done | exact hC0 | exact ⟨rfl, hC0⟩ | (simp; exact hC0) | (refine ⟨by simp <;> omega, hC0⟩) | omega
                            | 7 => simp at ho; subst ho; simp [gwp, Region.wanted, yielded]; go_simp; first | done | exact hC0 | exact ⟨rfl, hC0⟩ | (simp; exact hC0) | (refine ⟨by simp <;> omega, hC0⟩) | omega
                            | 8 => simp at ho; subst ho; simp [gwp, Region.wanted, yielded]; go_simp; first | done | exact hC0 | exact ⟨rfl, hC0⟩ | (simp; exact hC0) | (refine ⟨by simp <;> omega, hC0⟩) | omega
                            | 9 => simp at ho; subst ho; simp [gwp, Region.wanted, yielded]; go_simp; first | done | exact hC0 | exact ⟨rfl, hC0⟩ | (simp; exact hC0) | (refine ⟨by simp <;> omega, hC0⟩) | omega
                            | 10 => simp at ho; subst ho; simp [gwp, Region.wanted, yielded]; go_simp; first | done | exact hC0 | exact ⟨rfl, hC0⟩ | (simp; exact hC0) | (refine ⟨by simp <;> omega, hC0⟩) | omega
                            | 11 => simp at ho; subst ho; simp [gwp, Region.wanted, yielded]; go_simp; first | done | exact hC0 | exact ⟨rfl, hC0⟩ | (simp; exact hC0) | (refine ⟨by simp <;> omega, hC0⟩) | omega
                            | 12 => simp at ho; subst ho; simp [gwp, Region.wanted, yielded]; go_simp; first | done | exact hC0 | exact ⟨rfl, hC0⟩ | (simp; exact hC0) | (refine ⟨by simp <;> omega, hC0⟩) | omega
                            | i + 13 => omega
                          · intro full hfull us j hj
                            simp at hj
                          intro full hfull us w4 hus hC
                          simp [putAll, slotOf, Act.put] at hfull
                          subst hfull
                          match us, hus with
                          | [], _ =>
                          have b4 := hC.below
                          have HB4 := hide ((unhide HB).trans (b4.mono (unhide HB).size))
                          have HG4 := hide ((b4.block g hgW).trans (unhide HG))
                          have HO4 := hide (ownsRow_on (unhide HO) b4)
                          have hz4 := b4.size
                          rw [← b4.cell (p := ⟨sb, _, none⟩) (by show sb < _; omega)] at t0 q0
                          clear hC HB HG HO
                          simp [putP]
                          clear HSO b4
                          have HO5 : Hid (WR wA.heap.size w4 u5 (N3 ++ coll (bnF l set k) (j + 1))) := by
                            show WR _ _ _ _
                            rw [coll_succ, unhide HFS]
                            have h4 : WR wA.heap.size w4 u5 (N3 ++ coll (bnF l set k) j) := unhide HO4
                            simpa using h4
                          clear HO4
                          go_wp2_with fail
                          go_roundw
                          case rel => exact ⟨j + 1, by omega, by go_num, HO5, HG4, HB4⟩
                          case measure => simp [intOf]; omega
                        · have hne : ((j : Int) != (k : Int)) = true := by simp; omega
                          have HFS1 := hide (show bnF l set k j = if sb4 then some ⟨4, (p : Int), z⟩ else none from (unhide HFS0).trans (by simp [hjk]))
                          have hjk' : (j : Int) ≠ (k : Int) := by omega
                          clear HFS0 hjk
                          go_upto_region 23 with fail
                          refine wp_region_mix (k := 100) 13 [] [.int .i64 (j : Int), .int .i64 (k : Int), .bool true, .bool true, .agg #[.slice (some ⟨pb, po, none⟩) l.length cap, .int .i64 room], .slice (some ⟨sb, so, none⟩) set.length sc, .int .i64 (j : Int), .int .i64 (j : Int), .int .i64 ((j + 1 : Nat) : Int), .slice (some ⟨sb, so + j, none⟩) 1 (sc - j), .pointer (some ⟨g, 5, none⟩), .slice a3 P.bans.length c3, .bool sb4] (CZ wo) (by kernel_rfl) (by kernel_rfl) (by kernel_rfl) (by kernel_rfl) (by kernel_rfl) (by kernel_rfl) ⟨(Below.refl _ _).drew⟩ ?_ ?_ ?_
                          · intro full hfull i oo hi hns ho x fl us hC hb
                            simp [putAll, slotOf, Act.put] at hfull
                            subst hfull
                            have bx := hC.below
                            rw [← bx.cell (p := ⟨w.heap.size, _, none⟩) (by simp; omega)] at y0 y1
                            rw [← bx.cell (p := ⟨g, _, none⟩) (by simp; omega)] at g5
                            rw [← bx.cell (p := ⟨sb, _, none⟩) (by simp; omega)] at q0
                            have hC0 := hC.on (b' := fl) (Below.refl _ _)
                            match i with
                            | 0 => simp at ho; subst ho; simp [gwp, Region.wanted, yielded]; go_simp; first | done | exact hC0 | exact ⟨rfl, hC0⟩ | (simp; exact hC0) | (refine ⟨by simp <;> omega, hC0⟩) | omega
                            | 1 => simp at ho; subst ho; simp [gwp, Region.wanted, yielded]; go_simp; first | done | exact hC0 | exact ⟨rfl, hC0⟩ | (simp; exact hC0) | (refine ⟨by simp <;> omega, hC0⟩) | omega
                            | 2 => simp at ho; subst ho; simp [gwp, Region.wanted, yielded]; go_simp; first | done | exact hC0 | exact ⟨rfl, hC0⟩ | (simp; exact hC0) | (refine ⟨by simp <;> omega, hC0⟩) | omega
                            | 3 => simp at ho; subst ho; simp [gwp, Region.wanted, yielded]; go_simp; first | done | exact hC0 | exact ⟨rfl, hC0⟩ | (simp; exact hC0) | (refine ⟨by simp <;> omega, hC0⟩) | omega
                            | 4 => simp at ho; subst ho; simp [gwp, Region.wanted, yielded]; go_simp; first | done | exact hC0 | exact ⟨rfl, hC0⟩ | (simp; exact hC0) | (refine ⟨by simp <;> omega, hC0⟩) | omega
                            | 5 => simp at ho; subst ho; simp [gwp, Region.wanted, yielded]; go_simp; first | done | exact hC0 | exact ⟨rfl, hC0⟩ | (simp; exact hC0) | (refine ⟨by simp <;> omega, hC0⟩) | omega
                            | 6 => simp at ho; subst ho; simp [gwp, Region.wanted, yielded]; go_simp; first | done | exact hC0 | exact ⟨rfl, hC0⟩ | (simp; exact hC0) | (refine ⟨by simp <;> omega, hC0⟩) | omega
                            | 7 => simp at ho; subst ho; simp [gwp, Region.wanted, yielded]; go_simp; first | done | exact hC0 | exact ⟨rfl, hC0⟩ | (simp; exact hC0) | (refine ⟨by simp <;> omega, hC0⟩) | omega
                            | 8 => simp at ho; subst ho; simp [gwp, Region.wanted, yielded]; go_simp; first | done | exact hC0 | exact ⟨rfl, hC0⟩ | (simp; exact hC0) | (refine ⟨by simp <;> omega, hC0⟩) | omega
                            | 9 => simp at ho; subst ho; simp [gwp, Region.wanted, yielded]; go_simp; first | done | exact hC0 | exact ⟨rfl, hC0⟩ | (simp; exact hC0) | (refine ⟨by simp <;> omega, hC0⟩) | omega
                            | 10 => simp at ho; subst ho; simp [gwp, Region.wanted, yielded]; go_simp; first | done | exact hC0 | exact ⟨rfl, hC0⟩ | (simp; exact hC0) | (refine ⟨by simp <;> omega, hC0⟩) | omega
                            | 11 => simp at ho; subst ho; simp [gwp, Region.wanted, yielded]; go_simp; first | done | exact hC0 | exact ⟨rfl, hC0⟩ | (simp; exact hC0) | (refine ⟨by simp <;> omega, hC0⟩) | omega
                            | 12 =>
                              simp at ho; subst ho; simp [gwp, Region.wanted, yielded]; go_simp
                              refine (unhide HSO x bx).mono ?_
                              rintro e w' ⟨rfl, hb2⟩
                              go_simp
                              first | done | exact hC.on hb2 | exact ⟨rfl, hC.on hb2⟩ | (simp; exact hC.on hb2)
                            | i + 13 => omega
                          · intro full hfull us j hj
                            simp at hj
                          intro full hfull us w4 hus hC
                          simp [putAll, slotOf, Act.put] at hfull
                          subst hfull
                          match us, hus with
                          | [], _ =>
                          have b4 := hC.below
                          have HB4 := hide ((unhide HB).trans (b4.mono (unhide HB).size))
                          have HG4 := hide ((b4.block g hgW).trans (unhide HG))
                          have HO4 := hide (ownsRow_on (unhide HO) b4)
                          have hz4 := b4.size
                          rw [← b4.cell (p := ⟨sb, _, none⟩) (by show sb < _; omega)] at t0 q0
                          clear hC HB HG HO
                          simp [putP]
                          clear HSO b4 y0 y1 g0 g1 g2 g3 g4 g5
                          cases sb4 with
                          | false =>
                            have HFS := hide (show bnF l set k j = none from unhide HFS1)
                            clear HFS1
                            have HO5 : Hid (WR wA.heap.size w4 u5 (N3 ++ coll (bnF l set k) (j + 1))) := by
                              show WR _ _ _ _
                              rw [coll_succ, unhide HFS]
                              have h4 : WR wA.heap.size w4 u5 (N3 ++ coll (bnF l set k) j) := unhide HO4
                              simpa using h4
                            clear HO4
                            go_wp2_with fail
                            go_roundw
                            case rel => exact ⟨j + 1, by omega, by go_num, HO5, HG4, HB4⟩
                            case measure => simp [intOf]; omega
                          | true =>
                            have HFS := hide (show bnF l set k j = some ⟨4, (p : Int), z⟩ from unhide HFS1)
                            clear HFS1
                            have hOL : (N3 ++ coll (bnF l set k) j).length ≤ 1000 := by rw [List.length_append]; omega
                            go_upto_region 24 with fail
                            refine wp_region_mixL (k := 100) 11 [10] [u5, .slice (some ⟨sb, so, none⟩) set.length sc, .int .i64 (k : Int), .pointer (some ⟨sb, so + k, none⟩), .int .i64 (p : Int), .slice (some ⟨sb, so, none⟩) set.length sc, .int .i64 (j : Int), .pointer (some ⟨sb, so + j, none⟩), .int .i64 z, .agg #[.int .i64 4, .int .i64 (p : Int), .int .i64 z], undef] (CW w4 ⟨4, (p : Int), z⟩) (by kernel_rfl) (by kernel_rfl) (by kernel_rfl) (by kernel_rfl) (by kernel_rfl) (by kernel_rfl) ⟨(Below.refl _ _).drew, (fun y h => by cases h)⟩ ?_ ?_ ?_
                            · intro full hfull i oo hi hns ho x fl us hC hb
                              simp [putAll, slotOf, Act.put] at hfull
                              subst hfull
                              have bx := hC.below
                              rw [← bx.cell (p := ⟨sb, _, none⟩) (by simp; omega)] at t0 q0
                              have hC0 := hC.on (b' := fl) (Below.refl _ _)
                              match i with
                              | 0 => simp at ho; subst ho; simp [gwp, Region.wanted, yielded]; go_simp; first | done | exact hC0 | exact ⟨rfl, hC0⟩ | (simp; exact hC0) | (refine ⟨by simp <;> omega, hC0⟩) | omega
                              | 1 => simp at ho; subst ho; simp [gwp, Region.wanted, yielded]; go_simp; first | done | exact hC0 | exact ⟨rfl, hC0⟩ | (simp; exact hC0) | (refine ⟨by simp <;> omega, hC0⟩) | omega
                              | 2 => simp at ho; subst ho; simp [gwp, Region.wanted, yielded]; go_simp; first | done | exact hC0 | exact ⟨rfl, hC0⟩ | (simp; exact hC0) | (refine ⟨by simp <;> omega, hC0⟩) | omega
                              | 3 => simp at ho; subst ho; simp [gwp, Region.wanted, yielded]; go_simp; first | done | exact hC0 | exact ⟨rfl, hC0⟩ | (simp; exact hC0) | (refine ⟨by simp <;> omega, hC0⟩) | omega
                              | 4 => simp at ho; subst ho; simp [gwp, Region.wanted, yielded]; go_simp; first | done | exact hC0 | exact ⟨rfl, hC0⟩ | (simp; exact hC0) | (refine ⟨by simp <;> omega, hC0⟩) | omega
                              | 5 => simp at ho; subst ho; simp [gwp, Region.wanted, yielded]; go_simp; first | done | exact hC0 | exact ⟨rfl, hC0⟩ | (simp; exact hC0) | (refine ⟨by simp <;> omega, hC0⟩) | omega
                              | 6 => simp at ho; subst ho; simp [gwp, Region.wanted, yielded]; go_simp; first | done | exact hC0 | exact ⟨rfl, hC0⟩ | (simp; exact hC0) | (refine ⟨by simp <;> omega, hC0⟩) | omega
                              | 7 => simp at ho; subst ho; simp [gwp, Region.wanted, yielded]; go_simp; first | done | exact hC0 | exact ⟨rfl, hC0⟩ | (simp; exact hC0) | (refine ⟨by simp <;> omega, hC0⟩) | omega
                              | 8 => simp at ho; subst ho; simp [gwp, Region.wanted, yielded]; go_simp; first | done | exact hC0 | exact ⟨rfl, hC0⟩ | (simp; exact hC0) | (refine ⟨by simp <;> omega, hC0⟩) | omega
                              | 9 => simp at ho; subst ho; simp [gwp, Region.wanted, yielded]; go_simp; first | done | exact hC0 | exact ⟨rfl, hC0⟩ | (simp; exact hC0) | (refine ⟨by simp <;> omega, hC0⟩) | omega
                              | 10 => simp at hns
                              | i + 11 => omega
                            · intro full hfull us j hj oo ho x fl hC
                              simp [putAll, slotOf, Act.put] at hfull
                              subst hfull
                              match us with
                              | [] =>
                                simp at hj
                                subst hj
                                simp at ho
                                subst ho
                                simp [gwp, Region.wanted, yielded, putP]
                                go_simp
                                refine ⟨hC.below.alloc (by have := hC.below.size; omega) _, fun u hu => ?_⟩
                                cases hu
                                exact ⟨x.heap.size, rfl, hC.below.size, blk_alloc_new _ _⟩
                              | _ :: _ => simp at hj
                            intro full hfull us x hus hC
                            simp [putAll, slotOf, Act.put] at hfull
                            subst hfull
                            match us, hus with
                            | [yv], _ =>
                            obtain ⟨gg, hyv, hg1, hg2⟩ := hC.one yv rfl
                            subst hyv
                            have bx := hC.below
                            have hown := ownsRow_on (unhide HO4) bx
                            have hnews := why_news hg2
                            have hxz := bx.size
                            have HBx := hide ((unhide HB4).trans (bx.mono (unhide HB4).size))
                            have HGx := hide ((bx.block g (Array.getElem?_eq_some_iff.1 (unhide HG4)).1).trans (unhide HG4))
                            clear hC bx hg2 HO4 HB4 HG4 t0 q0
                            simp [putP, slotOf, Act.put]
                            go_wp2_with (first
                              | (at_builtin; refine wpList_append_own _ rfl _ _ 29 rfl wA.heap.size 36 i0 (.agg #[.int .i64 0, .int .i64 0, .int .i64 0]) 3 24 Try.underlying29 hi hz0 hz1 hz2 rfl (by decide) _ _ _ rfl hown ⟨gg, 0, none⟩ 1 1 (stepVs [⟨4, (p : Int), z⟩]) rfl rfl hnews (steps_one _) (by unfold maxLen; omega) (by omega) (by have := (unhide HBx).size; omega) ?_))
                            intro v' w5 hown' hgrow _
                            have HB5 := hide ((unhide HBx).grown hgrow (by have := (unhide HBx).size; omega) (fun j hj => (World.ownsRow.lt hown j hj).1))
                            have HG5 := hide (pack_kept (unhide HGx) hown hgrow)
                            have HO5 : Hid (WR wA.heap.size w5 v' (N3 ++ coll (bnF l set k) (j + 1))) := by
                              show WR _ _ _ _
                              rw [coll_succ, unhide HFS, ← List.append_assoc]
                              unfold WR
                              rw [Option.toList_some, stepVs_app]
                              simpa [Nat.add_assoc] using hown'
                            clear hown hown' hgrow HGx HBx hnews
                            go_wp2_with fail
                            go_roundw
                            case rel => exact ⟨j + 1, by omega, by go_num, HO5, HG5, HB5⟩
                            case measure => simp [intOf]; omega
                      · have j2 : ¬ (j : Int) < (set.length : Int) := by omega
                        have hje : j = set.length := by omega
                        have HN4 : Hid (N3 ++ coll (bnF l set k) j = lackS l room set ++ (List.range (k + 1)).flatMap (placeL l set)) := by
                          show _ = _
                          rw [unhide HN3, unhide HN2, unhide HN, hje, List.range_succ, List.flatMap_append]
                          simp [placeL, unhide HPK0, List.append_assoc]
                        have hl4 := coll_len (bnF l set k) j
                        have hl4' : (N3 ++ coll (bnF l set k) j).length ≤ 1 + 20 * (k + 1) := by rw [List.length_append]; omega
                        generalize N3 ++ coll (bnF l set k) j = M at HN4 HO hl4'
                        clear hje g0 g1 g2 g3 g4 g5 y0 y1 t0 HBW HG
                        go_wp2_with fail
                        go_roundw
                        case rel => exact ⟨k + 1, M, by omega, by go_num, hl4', HN4, HO, HB⟩
                        case measure => simp [intOf]; omega
        · have j1 : ¬ (k : Int) < (set.length : Int) := by omega
          have hke : k = set.length := by omega
          have HN2 : Hid (N = specWhy l room set) := by
            show _ = _
            rw [unhide HN, hke, unhide HSW]
          have HB6 := hide ((unhide HwA).trans ((unhide HBq).mono (unhide HwA).size))
          have HO6 := hide (show WR w.heap.size wq u5 N from row_base (unhide HOq) (by omega))
          clear hke HN HOq HBq
          go_wp2_with fail
          go_ret
          exact ⟨⟨_, rfl, by rw [← unhide HN2]; simpa using unhide HO6⟩, unhide HB6⟩
    · obtain ⟨N0, hN0⟩ : ∃ N0, N0 = lackS l room set := ⟨_, rfl⟩
      have hN0' : N0 = [] := by rw [hN0, unhide HLS, if_neg hlk]
      have hN0l : N0.length ≤ 1 := by rw [hN0']; simp
      have HN0 := hide hN0
      have HB := HB2
      have HO : Hid (WR wA.heap.size w2 (.slice (some ⟨wA.heap.size, 0, none⟩) 0 0) N0) := by show WR _ _ _ _; rw [hN0']; exact unhide HR2
      clear HLS hN0 hN0' HB2 HR2 HCZ2 e0 e1
      go_wp2_with fail
      go_loopw [5, 6] (fun v i wr => ∃ (k : Nat) (N : List StepD), k ≤ set.length ∧ i = .int .i64 k ∧ N.length ≤ 1 + 20 * k ∧ Hid (N = lackS l room set ++ (List.range k).flatMap (placeL l set)) ∧ Hid (WR wA.heap.size wr v N) ∧ Hid (Below wA.heap.size wA wr)) (fun _ i _ => set.length - (intOf i).toNat)
      case atStart => exact ⟨0, N0, Nat.zero_le _, rfl, by omega, by show _ = _; simp [unhide HN0], HO, HB⟩
      case round =>
        rename World => wq
        clear HO HB
        obtain ⟨k, N, hk, rfl, hNl, HN, HOq, HBq⟩ := hrel
        have hzq := (unhide HBq).size
        by_cases hlt : k < set.length
        · have j1 : (k : Int) < (set.length : Int) := by omega
          have j0' : (0 : Int) ≤ (k : Int) := by omega
          have hkin := unhide HIN k hlt
          rcases (unhide HS).2 with hnil | ⟨sb, so, rfl, hsbl, hsc'⟩
          · rw [hnil] at hlt; simp at hlt
          have u0' := hsc' k hlt
          have hpk0 : packOf l set k = l.getD (set.getD k 0).toNat dPack := rfl
          have HZK0 : Hid (set.getD k 0 = set.getD k 0) := rfl
          obtain ⟨p, hzk⟩ : ∃ p : Nat, set.getD k 0 = (p : Int) := ⟨(set.getD k 0).toNat, by omega⟩
          rw [hzk] at u0' hpk0
          rw [show ((p : Int)).toNat = p by simp] at hpk0
          have HZK := hide hzk
          have hpl : p < l.length := by omega
          rcases (unhide HP).2 with hnil | ⟨pb, po, rfl, hpS, hpk⟩
          · rw [hnil] at hpl; simp at hpl
          obtain ⟨a1, c1, a2, c2, a3, c3, hcells, hval⟩ := hpk p hpl
          rw [← hpk0] at hcells hval
          obtain ⟨P, hPP⟩ : ∃ P, packOf l set k = P := ⟨_, rfl⟩
          rw [hPP] at hcells hval
          have HPK0 := hide hPP
          have HPK := hide hpk
          have HVAL := hide hval
          have hpw : pb < w.heap.size := hpS
          have bwq : Below w.heap.size w wq := (unhide HwA).trans ((unhide HBq).mono (unhide HwA).size)
          obtain ⟨n0, n1, n2, n3, n4, n5⟩ := hcells.stay (bwq.block pb hpw)
          have s0 := (bwq.cell (p := ⟨sb, so + k, none⟩) hsbl).trans u0'
          have u0' := ((unhide HwA).cell (p := ⟨sb, so + k, none⟩) hsbl).trans u0'
          have HSC : Hid (∀ i, i < set.length → wA.cell? ⟨sb, so + i, none⟩ = some (.int .i64 (set.getD i 0))) := fun i hi => ((unhide HwA).cell (p := ⟨sb, so + i, none⟩) hsbl).trans (hsc' i hi)
          have hsbA : sb < wA.heap.size := by omega
          have e0 := x0
          have e1 := x1
          rw [← (unhide HBq).cell (p := ⟨w.heap.size, _, none⟩) hxA] at e0 e1
          have hdl : P.deps.length ≤ 4 := by rw [← hPP, hpk0]; exact (hok.reqs p hpl).1
          have hpi : (p : Int) < (l.length : Int) := by omega
          have hp0 : (0 : Int) ≤ (p : Int) := by omega
          have hsq : sb < wq.heap.size := by omega
          have hpq : pb < wq.heap.size := by omega
          have hwq : w.heap.size < wq.heap.size := by omega
          clear hsc' hpk hcells hval hpk0 hPP hzk HZK0 bwq
          go_upto_region 9 with fail
          refine wp_region_mix (k := 100) 9 [8] [.pointer (some ⟨w.heap.size, 0, none⟩), .slice (some ⟨pb, po, none⟩) l.length cap, .slice (some ⟨sb, so, none⟩) set.length sc, .int .i64 (k : Int), .pointer (some ⟨sb, so + k, none⟩), .int .i64 (p : Int), .pointer (some ⟨pb, po + p * 6, none⟩), .agg #[.string P.name, .int .i64 P.ver, .int .i64 P.size, .slice a1 P.deps.length c1, .slice a2 P.pres.length c2, .slice a3 P.bans.length c3], undef] (C8 wq) (by kernel_rfl) (by kernel_rfl) (by kernel_rfl) (by kernel_rfl) (by kernel_rfl) (by kernel_rfl) ⟨(Below.refl _ _).drew, (fun y h => by cases h)⟩ ?_ ?_ ?_
          · intro full hfull i oo hi hns ho x fl us hC hb
            simp [putAll, slotOf, Act.put] at hfull
            subst hfull
            have hq := hC.below
            rw [← hq.cell (p := ⟨w.heap.size, _, none⟩) hwq] at e0
            rw [← hq.cell (p := ⟨sb, _, none⟩) hsq] at s0
            rw [← hq.cell (p := ⟨pb, _, none⟩) hpq] at n0 n1 n2 n3 n4 n5
            have hC0 := hC.on (b' := fl) (Below.refl _ _)
            match i with
            | 0 => simp at ho; subst ho; simp [gwp, Region.wanted, yielded]; go_simp; first | done | exact hC0 | exact ⟨rfl, hC0⟩ | (simp; exact hC0) | (refine ⟨by simp <;> omega, hC0⟩) | omega
            | 1 => simp at ho; subst ho; simp [gwp, Region.wanted, yielded]; go_simp; first | done | exact hC0 | exact ⟨rfl, hC0⟩ | (simp; exact hC0) | (refine ⟨by simp <;> omega, hC0⟩) | omega
            | 2 => simp at ho; subst ho; simp [gwp, Region.wanted, yielded]; go_simp; first | done | exact hC0 | exact ⟨rfl, hC0⟩ | (simp; exact hC0) | (refine ⟨by simp <;> omega, hC0⟩) | omega
            | 3 => simp at ho; subst ho; simp [gwp, Region.wanted, yielded]; go_simp; first | done | exact hC0 | exact ⟨rfl, hC0⟩ | (simp; exact hC0) | (refine ⟨by simp <;> omega, hC0⟩) | omega
            | 4 => simp at ho; subst ho; simp [gwp, Region.wanted, yielded]; go_simp; first | done | exact hC0 | exact ⟨rfl, hC0⟩ | (simp; exact hC0) | (refine ⟨by simp <;> omega, hC0⟩) | omega
            | 5 => simp at ho; subst ho; simp [gwp, Region.wanted, yielded]; go_simp; first | done | exact hC0 | exact ⟨rfl, hC0⟩ | (simp; exact hC0) | (refine ⟨by simp <;> omega, hC0⟩) | omega
            | 6 => simp at ho; subst ho; simp [gwp, Region.wanted, yielded]; go_simp; first | done | exact hC0 | exact ⟨rfl, hC0⟩ | (simp; exact hC0) | (refine ⟨by simp <;> omega, hC0⟩) | omega
            | 7 => simp at ho; subst ho; simp [gwp, Region.wanted, yielded]; go_simp; first | done | exact hC0 | exact ⟨rfl, hC0⟩ | (simp; exact hC0) | (refine ⟨by simp <;> omega, hC0⟩) | omega
            | 8 => simp at hns
            | i + 9 => omega
          · intro full hfull us j hj oo ho x fl hC
            simp [putAll, slotOf, Act.put] at hfull
            subst hfull
            match us with
            | [] =>
              simp at hj
              subst hj
              simp at ho
              subst ho
              simp [gwp, Region.wanted, yielded, putP]
              go_simp
              have hC2 := hC.on (b' := fl) ((Below.refl x.heap.size x).alloc (Nat.le_refl _) (.cells #[.string ByteArray.empty, .int .i64 0, .int .i64 0, .slice none 0 0, .slice none 0 0, .slice none 0 0] 40))
              refine ⟨hC2.below, fun y hy => ?_⟩
              cases hy
              exact ⟨x.heap.size, rfl, hC.below.size, blk_alloc_new _ _⟩
            | _ :: _ => simp at hj
          · intro full hfull us x hus hC
            simp [putAll, slotOf, Act.put] at hfull
            subst hfull
            match us, hus with
            | [yv], _ =>
            obtain ⟨g, rfl, hg, hgb⟩ := hC.fresh yv rfl
            obtain ⟨e0', e1', e2', e3', e4', e5', ef⟩ := six hgb
            have f0 := ef 0
            have f1 := ef 1
            have f2 := ef 2
            have f3 := ef 3
            have f4 := ef 4
            have f5 := ef 5
            have HGB := hide hgb
            have HCB := hide hC.below
            clear hC hgb ef e0 e1 s0 n0 n1 n2 n3 n4 n5
            simp [putP, slotOf, Act.put]
            go_upto_region 10 with fail
            obtain ⟨hW6, hG6⟩ := set6_facts (unhide HGB) (.string P.name) (.int .i64 P.ver) (.int .i64 P.size) (.slice a1 P.deps.length c1) (.slice a2 P.pres.length c2) (.slice a3 P.bans.length c3)
            change Code.wp _ _ _ _ (set6 x g (.string P.name) (.int .i64 P.ver) (.int .i64 P.size) (.slice a1 P.deps.length c1) (.slice a2 P.pres.length c2) (.slice a3 P.bans.length c3))
            generalize set6 x g (.string P.name) (.int .i64 P.ver) (.int .i64 P.size) (.slice a1 P.deps.length c1) (.slice a2 P.pres.length c2) (.slice a3 P.bans.length c3) = W1 at hW6 hG6 ⊢
            have b01 : Below wq.heap.size wq W1 := (unhide HCB).trans ⟨hG6.os, hG6.tape, hG6.output, hG6.size, fun b hb => hG6.block b (by have := (unhide HCB).size; omega) (by simp; omega)⟩
            have HB := hide ((unhide HBq).trans (b01.mono (unhide HBq).size))
            have HO := hide (show WR wA.heap.size W1 u5 N from ownsRow_on (unhide HOq) b01)
            have HG := hide hW6
            clear b01 hW6 hG6 HGB HCB HOq HBq e0' e1' e2' e3' e4' e5' f0 f1 f2 f3 f4 f5
            go_wp2_with fail
            go_loopw [5, 8] (fun v i wr => ∃ j : Nat, j ≤ k ∧ i = .int .i64 j ∧ Hid (WR wA.heap.size wr v (N ++ coll (twF l set k) j)) ∧ Hid (wr.heap[g]? = some (.cells #[.string P.name, .int .i64 P.ver, .int .i64 P.size, .slice a1 P.deps.length c1, .slice a2 P.pres.length c2, .slice a3 P.bans.length c3] 40 (0, 0))) ∧ Hid (Below wA.heap.size wA wr)) (fun _ i _ => k - (intOf i).toNat)
            case atStart => exact ⟨0, Nat.zero_le _, rfl, by simpa [coll] using HO, HG, HB⟩
            case round =>
              rename World => wo
              obtain ⟨j, hj, rfl, HO, HG, HB⟩ := hrel
              have y0 := x0
              have y1 := x1
              rw [← (unhide HB).cell (p := ⟨w.heap.size, _, none⟩) hxA] at y0 y1
              have t0 := ((unhide HB).cell (p := ⟨sb, so + k, none⟩) hsbA).trans u0'
              have hzW := (unhide HB).size
              obtain ⟨g0, g1, g2, g3, g4, g5, _⟩ := six (unhide HG)
              have hgW : g < wo.heap.size := (Array.getElem?_eq_some_iff.1 (unhide HG)).1
              have hsW : sb < wo.heap.size := by omega
              have hxW : w.heap.size < wo.heap.size := by omega
              have bW : Below w.heap.size w wo := (unhide HwA).trans ((unhide HB).mono (unhide HwA).size)
              have HBW := hide bW
              clear bW
              by_cases hjl : j < k
              · have j2 : (j : Int) < (k : Int) := by omega
                have j0 : (0 : Int) ≤ (j : Int) := by omega
                have hjs : (j : Int) < (set.length : Int) := by omega
                have hqin := unhide HIN j (by omega)
                have q0 := ((unhide HB).cell (p := ⟨sb, so + j, none⟩) hsbA).trans (unhide HSC j (by omega))
                have hcl := coll_len (twF l set k) j
                have HFS0 : Hid (twF l set k j = if (packOf l set j).name.toList == P.name.toList then some ⟨2, (p : Int), set.getD j 0⟩ else none) := by show _ = _; unfold twF; rw [unhide HZK, unhide HPK0]
                have hpq0 : packOf l set j = l.getD (set.getD j 0).toNat dPack := rfl
                generalize set.getD j 0 = z at q0 HFS0 hqin hpq0
                obtain ⟨q, rfl⟩ : ∃ q : Nat, z = (q : Int) := ⟨z.toNat, by omega⟩
                have hql : q < l.length := by omega
                have hqi : (q : Int) < (l.length : Int) := by omega
                have hq00 : (0 : Int) ≤ (q : Int) := by omega
                obtain ⟨_, _, _, _, _, _, hcq, _⟩ := unhide HPK q hql
                rw [show ((q : Int)).toNat = q by simp] at hpq0
                rw [← hpq0] at hcq
                have nq := hcq.name
                generalize packOf l set j = Q at HFS0 nq
                rw [← (unhide HBW).cell (p := ⟨pb, _, none⟩) hpw] at nq
                have hpW : pb < wo.heap.size := by omega
                clear hcq hpq0
                go_upto_region 13 with fail
                refine wp_region_mix (k := 100) 11 [] [.pointer (some ⟨w.heap.size, 0, none⟩), .slice (some ⟨pb, po, none⟩) l.length cap, .slice (some ⟨sb, so, none⟩) set.length sc, .int .i64 (j : Int), .pointer (some ⟨sb, so + j, none⟩), .int .i64 (q : Int), .pointer (some ⟨pb, po + q * 6, none⟩), .pointer (some ⟨pb, po + q * 6, none⟩), .string Q.name, .pointer (some ⟨g, 0, none⟩), .string P.name] (CZ wo) (by kernel_rfl) (by kernel_rfl) (by kernel_rfl) (by kernel_rfl) (by kernel_rfl) (by kernel_rfl) ⟨(Below.refl _ _).drew⟩ ?_ ?_ ?_
                · intro full hfull i oo hi hns ho x fl us hC hb
                  simp [putAll, slotOf, Act.put] at hfull
                  subst hfull
                  have bx := hC.below
                  rw [← bx.cell (p := ⟨w.heap.size, _, none⟩) (by simp; omega)] at y0 y1
                  rw [← bx.cell (p := ⟨sb, _, none⟩) (by simp; omega)] at q0
                  rw [← bx.cell (p := ⟨g, _, none⟩) (by simp; omega)] at g0
                  rw [← bx.cell (p := ⟨pb, _, none⟩) (by simp; omega)] at nq
                  have hC0 := hC.on (b' := fl) (Below.refl _ _)
                  match i with
                  | 0 => simp at ho; subst ho; simp [gwp, Region.wanted, yielded]; go_simp; first | done | exact hC0 | exact ⟨rfl, hC0⟩ | (simp; exact hC0) | (refine ⟨by simp <;> omega, hC0⟩) | omega
                  | 1 => simp at ho; subst ho; simp [gwp, Region.wanted, yielded]; go_simp; first | done | exact hC0 | exact ⟨rfl, hC0⟩ | (simp; exact hC0) | (refine ⟨by simp <;> omega, hC0⟩) | omega
                  | 2 => simp at ho; subst ho; simp [gwp, Region.wanted, yielded]; go_simp; first | done | exact hC0 | exact ⟨rfl, hC0⟩ | (simp; exact hC0) | (refine ⟨by simp <;> omega, hC0⟩) | omega
                  | 3 => simp at ho; subst ho; simp [gwp, Region.wanted, yielded]; go_simp; first | done | exact hC0 | exact ⟨rfl, hC0⟩ | (simp; exact hC0) | (refine ⟨by simp <;> omega, hC0⟩) | omega
                  | 4 => simp at ho; subst ho; simp [gwp, Region.wanted, yielded]; go_simp; first | done | exact hC0 | exact ⟨rfl, hC0⟩ | (simp; exact hC0) | (refine ⟨by simp <;> omega, hC0⟩) | omega
                  | 5 => simp at ho; subst ho; simp [gwp, Region.wanted, yielded]; go_simp; first | done | exact hC0 | exact ⟨rfl, hC0⟩ | (simp; exact hC0) | (refine ⟨by simp <;> omega, hC0⟩) | omega
                  | 6 => simp at ho; subst ho; simp [gwp, Region.wanted, yielded]; go_simp; first | done | exact hC0 | exact ⟨rfl, hC0⟩ | (simp; exact hC0) | (refine ⟨by simp <;> omega, hC0⟩) | omega
                  | 7 => simp at ho; subst ho; simp [gwp, Region.wanted, yielded]; go_simp; first | done | exact hC0 | exact ⟨rfl, hC0⟩ | (simp; exact hC0) | (refine ⟨by simp <;> omega, hC0⟩) | omega
                  | 8 => simp at ho; subst ho; simp [gwp, Region.wanted, yielded]; go_simp; first | done | exact hC0 | exact ⟨rfl, hC0⟩ | (simp; exact hC0) | (refine ⟨by simp <;> omega, hC0⟩) | omega
                  | 9 => simp at ho; subst ho; simp [gwp, Region.wanted, yielded]; go_simp; first | done | exact hC0 | exact ⟨rfl, hC0⟩ | (simp; exact hC0) | (refine ⟨by simp <;> omega, hC0⟩) | omega
                  | 10 => simp at ho; subst ho; simp [gwp, Region.wanted, yielded]; go_simp; first | done | exact hC0 | exact ⟨rfl, hC0⟩ | (simp; exact hC0) | (refine ⟨by simp <;> omega, hC0⟩) | omega
                  | i + 11 => omega
                · intro full hfull us j hj
                  simp at hj
                intro full hfull us w4 hus hC
                simp [putAll, slotOf, Act.put] at hfull
                subst hfull
                match us, hus with
                | [], _ =>
                have b4 := hC.below
                have HB4 := hide ((unhide HB).trans (b4.mono (unhide HB).size))
                have HG4 := hide ((b4.block g hgW).trans (unhide HG))
                have HO4 := hide (ownsRow_on (unhide HO) b4)
                have hz4 := b4.size
                rw [← b4.cell (p := ⟨sb, _, none⟩) (by show sb < _; omega)] at t0 q0
                clear hC HB HG HO
                simp [putP]
                clear b4 y0 y1 g0 g1 g2 g3 g4 g5 nq
                cases hnb : (Q.name.toList == P.name.toList) with
                | true =>
                  have HFS := hide (show twF l set k j = some ⟨2, (p : Int), (q : Int)⟩ from (unhide HFS0).trans (by rw [hnb]; rfl))
                  clear HFS0
                  have hOL : (N ++ coll (twF l set k) j).length ≤ 1000 := by rw [List.length_append]; omega
                  go_upto_region 14 with fail
                  refine wp_region_mixL (k := 100) 11 [10] [u5, .slice (some ⟨sb, so, none⟩) set.length sc, .int .i64 (k : Int), .pointer (some ⟨sb, so + k, none⟩), .int .i64 (p : Int), .slice (some ⟨sb, so, none⟩) set.length sc, .int .i64 (j : Int), .pointer (some ⟨sb, so + j, none⟩), .int .i64 (q : Int), .agg #[.int .i64 2, .int .i64 (p : Int), .int .i64 (q : Int)], undef] (CW w4 ⟨2, (p : Int), (q : Int)⟩) (by kernel_rfl) (by kernel_rfl) (by kernel_rfl) (by kernel_rfl) (by kernel_rfl) (by kernel_rfl) ⟨(Below.refl _ _).drew, (fun y h => by cases h)⟩ ?_ ?_ ?_
                  · intro full hfull i oo hi hns ho x fl us hC hb
                    simp [putAll, slotOf, Act.put] at hfull
                    subst hfull
                    have bx := hC.below
                    rw [← bx.cell (p := ⟨sb, _, none⟩) (by simp; omega)] at t0 q0
                    have hC0 := hC.on (b' := fl) (Below.refl _ _)
                    match i with
                    | 0 => simp at ho; subst ho; simp [gwp, Region.wanted, yielded]; go_simp; first | done | exact hC0 | exact ⟨rfl, hC0⟩ | (simp; exact hC0) | (refine ⟨by simp <;> omega, hC0⟩) | omega
                    | 1 => simp at ho; subst ho; simp [gwp, Region.wanted, yielded]; go_simp; first | done | exact hC0 | exact ⟨rfl, hC0⟩ | (simp; exact hC0) | (refine ⟨by simp <;> omega, hC0⟩) | omega
                    | 2 => simp at ho; subst ho; simp [gwp, Region.wanted, yielded]; go_simp; first | done | exact hC0 | exact ⟨rfl, hC0⟩ | (simp; exact hC0) | (refine ⟨by simp <;> omega, hC0⟩) | omega
                    | 3 => simp at ho; subst ho; simp [gwp, Region.wanted, yielded]; go_simp; first | done | exact hC0 | exact ⟨rfl, hC0⟩ | (simp; exact hC0) | (refine ⟨by simp <;> omega, hC0⟩) | omega
                    | 4 => simp at ho; subst ho; simp [gwp, Region.wanted, yielded]; go_simp; first | done | exact hC0 | exact ⟨rfl, hC0⟩ | (simp; exact hC0) | (refine ⟨by simp <;> omega, hC0⟩) | omega
                    | 5 => simp at ho; subst ho; simp [gwp, Region.wanted, yielded]; go_simp; first | done | exact hC0 | exact ⟨rfl, hC0⟩ | (simp; exact hC0) | (refine ⟨by simp <;> omega, hC0⟩) | omega
                    | 6 => simp at ho; subst ho; simp [gwp, Region.wanted, yielded]; go_simp; first | done | exact hC0 | exact ⟨rfl, hC0⟩ | (simp; exact hC0) | (refine ⟨by simp <;> omega, hC0⟩) | omega
                    | 7 => simp at ho; subst ho; simp [gwp, Region.wanted, yielded]; go_simp; first | done | exact hC0 | exact ⟨rfl, hC0⟩ | (simp; exact hC0) | (refine ⟨by simp <;> omega, hC0⟩) | omega
                    | 8 => simp at ho; subst ho; simp [gwp, Region.wanted, yielded]; go_simp; first | done | exact hC0 | exact ⟨rfl, hC0⟩ | (simp; exact hC0) | (refine ⟨by simp <;> omega, hC0⟩) | omega
                    | 9 => simp at ho; subst ho; simp [gwp, Region.wanted, yielded]; go_simp; first | done | exact hC0 | exact ⟨rfl, hC0⟩ | (simp; exact hC0) | (refine ⟨by simp <;> omega, hC0⟩) | omega
                    | 10 => simp at hns
                    | i + 11 => omega
                  · intro full hfull us j hj oo ho x fl hC
                    simp [putAll, slotOf, Act.put] at hfull
                    subst hfull
                    match us with
                    | [] =>
                      simp at hj
                      subst hj
                      simp at ho
                      subst ho
                      simp [gwp, Region.wanted, yielded, putP]
                      go_simp
                      refine ⟨hC.below.alloc (by have := hC.below.size; omega) _, fun u hu => ?_⟩
                      cases hu
                      exact ⟨x.heap.size, rfl, hC.below.size, blk_alloc_new _ _⟩
                    | _ :: _ => simp at hj
                  intro full hfull us x hus hC
                  simp [putAll, slotOf, Act.put] at hfull
                  subst hfull
                  match us, hus with
                  | [yv], _ =>
                  obtain ⟨gg, hyv, hg1, hg2⟩ := hC.one yv rfl
                  subst hyv
                  have bx := hC.below
                  have hown := ownsRow_on (unhide HO4) bx
                  have hnews := why_news hg2
                  have hxz := bx.size
                  have HBx := hide ((unhide HB4).trans (bx.mono (unhide HB4).size))
                  have HGx := hide ((bx.block g (Array.getElem?_eq_some_iff.1 (unhide HG4)).1).trans (unhide HG4))
                  clear hC bx hg2 HO4 HB4 HG4 t0 q0
                  simp [putP, slotOf, Act.put]
                  go_wp2_with (first
                    | (at_builtin; refine wpList_append_own _ rfl _ _ 29 rfl wA.heap.size 36 i0 (.agg #[.int .i64 0, .int .i64 0, .int .i64 0]) 3 24 Try.underlying29 hi hz0 hz1 hz2 rfl (by decide) _ _ _ rfl hown ⟨gg, 0, none⟩ 1 1 (stepVs [⟨2, (p : Int), (q : Int)⟩]) rfl rfl hnews (steps_one _) (by unfold maxLen; omega) (by omega) (by have := (unhide HBx).size; omega) ?_))
                  intro v' w5 hown' hgrow _
                  have HB5 := hide ((unhide HBx).grown hgrow (by have := (unhide HBx).size; omega) (fun j hj => (World.ownsRow.lt hown j hj).1))
                  have HG5 := hide (pack_kept (unhide HGx) hown hgrow)
                  have HO5 : Hid (WR wA.heap.size w5 v' (N ++ coll (twF l set k) (j + 1))) := by
                    show WR _ _ _ _
                    rw [coll_succ, unhide HFS, ← List.append_assoc]
                    unfold WR
                    rw [Option.toList_some, stepVs_app]
                    simpa [Nat.add_assoc] using hown'
                  clear hown hown' hgrow HGx HBx hnews
                  go_wp2_with fail
                  go_roundw
                  case rel => exact ⟨j + 1, by omega, by go_num, HO5, HG5, HB5⟩
                  case measure => simp [intOf]; omega
                | false =>
                  have HFS := hide (show twF l set k j = none from (unhide HFS0).trans (by rw [hnb]; rfl))
                  clear HFS0
                  have HO5 : Hid (WR wA.heap.size w4 u5 (N ++ coll (twF l set k) (j + 1))) := by
                    show WR _ _ _ _
                    rw [coll_succ, unhide HFS]
                    have h4 : WR wA.heap.size w4 u5 (N ++ coll (twF l set k) j) := unhide HO4
                    simpa using h4
                  clear HO4
                  go_wp2_with fail
                  go_roundw
                  case rel => exact ⟨j + 1, by omega, by go_num, HO5, HG4, HB4⟩
                  case measure => simp [intOf]; omega
              · have j2 : ¬ (j : Int) < (k : Int) := by omega
                have hje : j = k := by omega
                have hl2 := coll_len (twF l set k) j
                obtain ⟨N2, hN2⟩ : ∃ N2, N2 = N ++ coll (twF l set k) k := ⟨_, rfl⟩
                have hN2l : N2.length ≤ 1 + 20 * k + 8 := by rw [hN2, List.length_append]; rw [hje] at hl2; omega
                rw [hje, ← hN2] at HO
                have HN2 := hide hN2
                clear hN2 hje
                go_wp2_with fail
                go_loopw [5, 9] (fun v i wr => ∃ j : Nat, j ≤ P.deps.length ∧ i = .int .i64 j ∧ Hid (WR wA.heap.size wr v (N2 ++ coll (dpF l set k) j)) ∧ Hid (wr.heap[g]? = some (.cells #[.string P.name, .int .i64 P.ver, .int .i64 P.size, .slice a1 P.deps.length c1, .slice a2 P.pres.length c2, .slice a3 P.bans.length c3] 40 (0, 0))) ∧ Hid (Below wA.heap.size wA wr)) (fun _ i _ => P.deps.length - (intOf i).toNat)
                case atStart => exact ⟨0, Nat.zero_le _, rfl, by simpa [coll] using HO, HG, HB⟩
                case round =>
                  clear HO HG HB y0 y1 t0 g0 g1 g2 g3 g4 g5 hzW hgW hsW hxW HBW
                  rename World => wo
                  obtain ⟨j, hj, rfl, HO, HG, HB⟩ := hrel
                  have y0 := x0
                  have y1 := x1
                  rw [← (unhide HB).cell (p := ⟨w.heap.size, _, none⟩) hxA] at y0 y1
                  have t0 := ((unhide HB).cell (p := ⟨sb, so + k, none⟩) hsbA).trans u0'
                  have hzW := (unhide HB).size
                  obtain ⟨g0, g1, g2, g3, g4, g5, _⟩ := six (unhide HG)
                  have hgW : g < wo.heap.size := (Array.getElem?_eq_some_iff.1 (unhide HG)).1
                  have hsW : sb < wo.heap.size := by omega
                  have hxW : w.heap.size < wo.heap.size := by omega
                  have bW : Below w.heap.size w wo := (unhide HwA).trans ((unhide HB).mono (unhide HwA).size)
                  have HBW := hide bW
                  clear bW
                  by_cases hjl : j < P.deps.length
                  · have j2 : (j : Int) < (P.deps.length : Int) := by omega
                    have j0 : (0 : Int) ≤ (j : Int) := by omega
                    have q0 := t0
                    rcases (unhide HVAL).deps.2 with hnil | ⟨db, dof, rfl, hdS, hdk⟩
                    · rw [hnil] at hjl; simp at hjl
                    obtain ⟨ra, rc, d0, hrq⟩ := hdk j hjl
                    have hdw : db < w.heap.size := hdS
                    have hcl := coll_len (dpF l set k) j
                    have HFS0 : Hid (dpF l set k j = if someB l set (P.deps.getD j []) (-1) then none else some ⟨3, (p : Int), (j : Int)⟩) := by show _ = _; unfold dpF; rw [unhide HZK, unhide HPK0]
                    have HSO := hide (fun x (hx : Below wo.heap.size wo x) => l2Some_any (some ⟨pb, po, none⟩) l cap room (some ⟨sb, so, none⟩) set sc ra (P.deps.getD j []) rc (-1) (unhide HIN) x ((unhide HP).on ((unhide HBW).trans (hx.mono (unhide HBW).size))) ((unhide HS).on ((unhide HBW).trans (hx.mono (unhide HBW).size))) (hrq.on ((unhide HBW).trans (hx.mono (unhide HBW).size))))
                    generalize P.deps.getD j [] = ROW at d0 hrq HFS0 HSO
                    generalize someB l set ROW (-1) = sb3 at HFS0 HSO
                    rw [← (unhide HBW).cell (p := ⟨db, _, none⟩) hdw] at d0
                    have hdW : db < wo.heap.size := by omega
                    clear hdk hrq
                    go_upto_region 18 with fail
                    refine wp_region_mix (k := 100) 8 [] [.agg #[.slice (some ⟨pb, po, none⟩) l.length cap, .int .i64 room], .slice (some ⟨sb, so, none⟩) set.length sc, .pointer (some ⟨g, 3, none⟩), .slice (some ⟨db, dof, none⟩) P.deps.length c1, .int .i64 (j : Int), .pointer (some ⟨db, dof + j, none⟩), .slice ra ROW.length rc, .bool sb3] (CZ wo) (by kernel_rfl) (by kernel_rfl) (by kernel_rfl) (by kernel_rfl) (by kernel_rfl) (by kernel_rfl) ⟨(Below.refl _ _).drew⟩ ?_ ?_ ?_
                    · intro full hfull i oo hi hns ho x fl us hC hb
                      simp [putAll, slotOf, Act.put] at hfull
                      subst hfull
                      have bx := hC.below
                      rw [← bx.cell (p := ⟨w.heap.size, _, none⟩) (by simp; omega)] at y0 y1
                      rw [← bx.cell (p := ⟨g, _, none⟩) (by simp; omega)] at g3
                      rw [← bx.cell (p := ⟨db, _, none⟩) (by simp; omega)] at d0
                      have hC0 := hC.on (b' := fl) (Below.refl _ _)
                      match i with
                      | 0 => simp at ho; subst ho; simp [gwp, Region.wanted, yielded]; go_simp; first | done | exact hC0 | exact ⟨rfl, hC0⟩ | (simp; exact hC0) | (refine ⟨by simp <;> omega, hC0⟩) | omega
                      | 1 => simp at ho; subst ho; simp [gwp, Region.wanted, yielded]; go_simp; first | done | exact hC0 | exact ⟨rfl, hC0⟩ | (simp; exact hC0) | (refine ⟨by simp <;> omega, hC0⟩) | omega
                      | 2 => simp at ho; subst ho; simp [gwp, Region.wanted, yielded]; go_simp; first | done | exact hC0 | exact ⟨rfl, hC0⟩ | (simp; exact hC0) | (refine ⟨by simp <;> omega, hC0⟩) | omega
                      | 3 => simp at ho; subst ho; simp [gwp, Region.wanted, yielded]; go_simp; first | done | exact hC0 | exact ⟨rfl, hC0⟩ | (simp; exact hC0) | (refine ⟨by simp <;> omega, hC0⟩) | omega
                      | 4 => simp at ho; subst ho; simp [gwp, Region.wanted, yielded]; go_simp; first | done | exact hC0 | exact ⟨rfl, hC0⟩ | (simp; exact hC0) | (refine ⟨by simp <;> omega, hC0⟩) | omega
                      | 5 => simp at ho; subst ho; simp [gwp, Region.wanted, yielded]; go_simp; first | done | exact hC0 | exact ⟨rfl, hC0⟩ | (simp; exact hC0) | (refine ⟨by simp <;> omega, hC0⟩) | omega
                      | 6 => simp at ho; subst ho; simp [gwp, Region.wanted, yielded]; go_simp; first | done | exact hC0 | exact ⟨rfl, hC0⟩ | (simp; exact hC0) | (refine ⟨by simp <;> omega, hC0⟩) | omega
                      | 7 =>
                        simp at ho; subst ho; simp [gwp, Region.wanted, yielded]; go_simp
                        refine (unhide HSO x bx).mono ?_
                        rintro e w' ⟨rfl, hb2⟩
                        go_simp
                        first | done | exact hC.on hb2 | exact ⟨rfl, hC.on hb2⟩ | (simp; exact hC.on hb2)
                      | i + 8 => omega
                    · intro full hfull us j hj
                      simp at hj
                    intro full hfull us w4 hus hC
                    simp [putAll, slotOf, Act.put] at hfull
                    subst hfull
                    match us, hus with
                    | [], _ =>
                    have b4 := hC.below
                    have HB4 := hide ((unhide HB).trans (b4.mono (unhide HB).size))
                    have HG4 := hide ((b4.block g hgW).trans (unhide HG))
                    have HO4 := hide (ownsRow_on (unhide HO) b4)
                    have hz4 := b4.size
                    rw [← b4.cell (p := ⟨sb, _, none⟩) (by show sb < _; omega)] at t0 q0
                    clear hC HB HG HO
                    simp [putP]
                    clear HSO b4 y0 y1 g0 g1 g2 g3 g4 g5 d0
                    cases sb3 with
                    | true =>
                      have HFS := hide (show dpF l set k j = none from unhide HFS0)
                      clear HFS0
                      have HO5 : Hid (WR wA.heap.size w4 u5 (N2 ++ coll (dpF l set k) (j + 1))) := by
                        show WR _ _ _ _
                        rw [coll_succ, unhide HFS]
                        have h4 : WR wA.heap.size w4 u5 (N2 ++ coll (dpF l set k) j) := unhide HO4
                        simpa using h4
                      clear HO4
                      go_wp2_with fail
                      go_roundw
                      case rel => exact ⟨j + 1, by omega, by go_num, HO5, HG4, HB4⟩
                      case measure => simp [intOf]; omega
                    | false =>
                      have HFS := hide (show dpF l set k j = some ⟨3, (p : Int), (j : Int)⟩ from unhide HFS0)
                      clear HFS0
                      have hOL : (N2 ++ coll (dpF l set k) j).length ≤ 1000 := by rw [List.length_append]; omega
                      have hown := (show w4.ownsRow wA.heap.size 36 3 u5 _ _ from unhide HO4).alloc (.cells #[.int .i64 3, .int .i64 (p : Int), .int .i64 (j : Int)] 36)
                      have hnews := why_news (s := ⟨3, (p : Int), (j : Int)⟩) (blk_alloc_new w4 (.cells #[.int .i64 3, .int .i64 (p : Int), .int .i64 (j : Int)] 36))
                      have HBx := hide ((unhide HB4).alloc (unhide HB4).size (.cells #[.int .i64 3, .int .i64 (p : Int), .int .i64 (j : Int)] 36))
                      have HGx := hide ((blk_alloc_lt w4 (.cells #[.int .i64 3, .int .i64 (p : Int), .int .i64 (j : Int)] 36) g (Array.getElem?_eq_some_iff.1 (unhide HG4)).1).trans (unhide HG4))
                      clear HO4 HB4 HG4
                      go_wp2_with (first
                        | (at_builtin; refine wpList_append_own _ rfl _ _ 29 rfl wA.heap.size 36 i0 (.agg #[.int .i64 0, .int .i64 0, .int .i64 0]) 3 24 Try.underlying29 hi hz0 hz1 hz2 rfl (by decide) _ _ _ rfl hown ⟨w4.heap.size, 0, none⟩ 1 1 (stepVs [⟨3, (p : Int), (j : Int)⟩]) rfl rfl hnews (steps_one _) (by unfold maxLen; omega) (by omega) (by have := (unhide HBx).size; omega) ?_))
                      intro v' w5 hown' hgrow _
                      have HB5 := hide ((unhide HBx).grown hgrow (by have := (unhide HBx).size; omega) (fun j hj => (World.ownsRow.lt hown j hj).1))
                      have HG5 := hide (pack_kept (unhide HGx) hown hgrow)
                      have HO5 : Hid (WR wA.heap.size w5 v' (N2 ++ coll (dpF l set k) (j + 1))) := by
                        show WR _ _ _ _
                        rw [coll_succ, unhide HFS, ← List.append_assoc]
                        unfold WR
                        rw [Option.toList_some, stepVs_app]
                        simpa [Nat.add_assoc] using hown'
                      clear hown hown' hgrow HGx HBx hnews
                      go_wp2_with fail
                      go_roundw
                      case rel => exact ⟨j + 1, by omega, by go_num, HO5, HG5, HB5⟩
                      case measure => simp [intOf]; omega
                  · have j2 : ¬ (j : Int) < (P.deps.length : Int) := by omega
                    have hje : j = P.deps.length := by omega
                    have hl3 := coll_len (dpF l set k) j
                    obtain ⟨N3, hN3⟩ : ∃ N3, N3 = N2 ++ coll (dpF l set k) P.deps.length := ⟨_, rfl⟩
                    have hN3l : N3.length ≤ 1 + 20 * k + 12 := by rw [hN3, List.length_append, ← hje]; omega
                    rw [hje, ← hN3] at HO
                    have HN3 := hide hN3
                    clear hN3 hje
                    go_wp2_with fail
                    go_loopw [5, 10] (fun v i wr => ∃ j : Nat, j ≤ set.length ∧ i = .int .i64 j ∧ Hid (WR wA.heap.size wr v (N3 ++ coll (bnF l set k) j)) ∧ Hid (wr.heap[g]? = some (.cells #[.string P.name, .int .i64 P.ver, .int .i64 P.size, .slice a1 P.deps.length c1, .slice a2 P.pres.length c2, .slice a3 P.bans.length c3] 40 (0, 0))) ∧ Hid (Below wA.heap.size wA wr)) (fun _ i _ => set.length - (intOf i).toNat)
                    case atStart => exact ⟨0, Nat.zero_le _, rfl, by simpa [coll] using HO, HG, HB⟩
                    case round =>
                      clear HO HG HB y0 y1 t0 g0 g1 g2 g3 g4 g5 hzW hgW hsW hxW HBW
                      rename World => wo
                      obtain ⟨j, hj, rfl, HO, HG, HB⟩ := hrel
                      have y0 := x0
                      have y1 := x1
                      rw [← (unhide HB).cell (p := ⟨w.heap.size, _, none⟩) hxA] at y0 y1
                      have t0 := ((unhide HB).cell (p := ⟨sb, so + k, none⟩) hsbA).trans u0'
                      have hzW := (unhide HB).size
                      obtain ⟨g0, g1, g2, g3, g4, g5, _⟩ := six (unhide HG)
                      have hgW : g < wo.heap.size := (Array.getElem?_eq_some_iff.1 (unhide HG)).1
                      have hsW : sb < wo.heap.size := by omega
                      have hxW : w.heap.size < wo.heap.size := by omega
                      have bW : Below w.heap.size w wo := (unhide HwA).trans ((unhide HB).mono (unhide HwA).size)
                      have HBW := hide bW
                      clear bW
                      by_cases hjl : j < set.length
                      · have j2 : (j : Int) < (set.length : Int) := by omega
                        have j0 : (0 : Int) ≤ (j : Int) := by omega
                        have hqin := unhide HIN j hjl
                        have q0 := ((unhide HB).cell (p := ⟨sb, so + j, none⟩) hsbA).trans (unhide HSC j hjl)
                        have hcl := coll_len (bnF l set k) j
                        have HFS0 : Hid (bnF l set k j = if decide (j ≠ k) && someB l [set.getD j 0] P.bans (-1) then some ⟨4, (p : Int), set.getD j 0⟩ else none) := by show _ = _; unfold bnF; rw [unhide HZK, unhide HPK0]
                        have HSO := hide (fun x (hx : Below wo.heap.size wo x) => l2Some_any (some ⟨pb, po, none⟩) l cap room (some ⟨sb, so + j, none⟩) [set.getD j 0] (sc - j) a3 P.bans c3 (-1) (fun i hi => by simp at hi; subst hi; simpa using hqin) x ((unhide HP).on ((unhide HBW).trans (hx.mono (unhide HBW).size))) (SetAt.one (b := sb) (o := so + j) ((hx.cell (p := ⟨sb, so + j, none⟩) (by show sb < _; omega)).trans q0) (by have := hx.size; omega)) ((unhide HVAL).bans.on ((unhide HBW).trans (hx.mono (unhide HBW).size))))
                        generalize set.getD j 0 = z at q0 HFS0 HSO hqin
                        generalize someB l [z] P.bans (-1) = sb4 at HFS0 HSO
                        have hw1 : IntKind.i64.wrap ((j : Int) + 1) = ((j + 1 : Nat) : Int) := by rw [IntKind.wrap_i64]; omega
                        have hcc : 0 ≤ (j : Int) + 1 ∧ (j : Int) + 1 ≤ (sc : Int) := by omega
                        have hdk : ¬ sc = j := by omega
                        by_cases hjk : j = k
                        · have hne : ((j : Int) != (k : Int)) = false := by simp [hjk]
                          have HFS := hide (show bnF l set k j = none from (unhide HFS0).trans (by simp [hjk]))
                          have hjk' : ¬ (j : Int) ≠ (k : Int) := by omega
                          clear HFS0 hjk
                          go_upto_region 23 with fail
                          refine wp_region_mix (k := 100) 13 [] [.int .i64 (j : Int), .int .i64 (k : Int), .bool false, .bool false, undef, undef, undef, undef, undef, undef, undef, undef, undef] (CZ wo) (by kernel_rfl) (by kernel_rfl) (by kernel_rfl) (by kernel_rfl) (by kernel_rfl) (by kernel_rfl) ⟨(Below.refl _ _).drew⟩ ?_ ?_ ?_
                          · intro full hfull i oo hi hns ho x fl us hC hb
                            simp [putAll, slotOf, Act.put] at hfull
                            subst hfull
                            have bx := hC.below
                            rw [← bx.cell (p := ⟨w.heap.size, _, none⟩) (by simp; omega)] at y0 y1
                            rw [← bx.cell (p := ⟨g, _, none⟩) (by simp; omega)] at g5
                            rw [← bx.cell (p := ⟨sb, _, none⟩) (by simp; omega)] at q0
                            have hC0 := hC.on (b' := fl) (Below.refl _ _)
                            match i with
                            | 0 => simp at ho; subst ho; simp [gwp, Region.wanted, yielded]; go_simp; first | done | exact hC0 | exact ⟨rfl, hC0⟩ | (simp; exact hC0) | (refine ⟨by simp <;> omega, hC0⟩) | omega
                            | 1 => simp at ho; subst ho; simp [gwp, Region.wanted, yielded]; go_simp; first | done | exact hC0 | exact ⟨rfl, hC0⟩ | (simp; exact hC0) | (refine ⟨by simp <;> omega, hC0⟩) | omega
                            | 2 => simp at ho; subst ho; simp [gwp, Region.wanted, yielded]; go_simp; first | done | exact hC0 | exact ⟨rfl, hC0⟩ | (simp; exact hC0) | (refine ⟨by simp <;> omega, hC0⟩) | omega
                            | 3 => simp at ho; subst ho; simp [gwp, Region.wanted, yielded]; go_simp; first | done | exact hC0 | exact ⟨rfl, hC0⟩ | (simp; exact hC0) | (refine ⟨by simp <;> omega, hC0⟩) | omega
                            | 4 => simp at ho; subst ho; simp [gwp, Region.wanted, yielded]; go_simp; first | done | exact hC0 | exact ⟨rfl, hC0⟩ | (simp; exact hC0) | (refine ⟨by simp <;> omega, hC0⟩) | omega
                            | 5 => simp at ho; subst ho; simp [gwp, Region.wanted, yielded]; go_simp; first | done | exact hC0 | exact ⟨rfl, hC0⟩ | (simp; exact hC0) | (refine ⟨by simp <;> omega, hC0⟩) | omega
                            | 6 => simp at ho; subst ho; simp [gwp, Region.wanted, yielded]; go_simp; first | done | exact hC0 | exact ⟨rfl, hC0⟩ | (simp; exact hC0) | (refine ⟨by simp <;> omega, hC0⟩) | omega
                            | 7 => simp at ho; subst ho; simp [gwp, Region.wanted, yielded]; go_simp; first | done | exact hC0 | exact ⟨rfl, hC0⟩ | (simp; exact hC0) | (refine ⟨by simp <;> omega, hC0⟩) | omega
                            | 8 => simp at ho; subst ho; simp [gwp, Region.wanted, yielded]; go_simp; first | done | exact hC0 | exact ⟨rfl, hC0⟩ | (simp; exact hC0) | (refine ⟨by simp <;> omega, hC0⟩) | omega
                            | 9 => simp at ho; subst ho; simp [gwp, Region.wanted, yielded]; go_simp; first | done | exact hC0 | exact ⟨rfl, hC0⟩ | (simp; exact hC0) | (refine ⟨by simp <;> omega, hC0⟩) | omega
                            | 10 => simp at ho; subst ho; simp [gwp, Region.wanted, yielded]; go_simp; first | done | exact hC0 | exact ⟨rfl, hC0⟩ | (simp; exact hC0) | (refine ⟨by simp <;> omega, hC0⟩) | omega
                            | 11 => simp at ho; subst ho; simp [gwp, Region.wanted, yielded]; go_simp; first | done | exact hC0 | exact ⟨rfl, hC0⟩ | (simp; exact hC0) | (refine ⟨by simp <;> omega, hC0⟩) | omega
                            | 12 => simp at ho; subst ho; simp [gwp, Region.wanted, yielded]; go_simp; first | done | exact hC0 | exact ⟨rfl, hC0⟩ | (simp; exact hC0) | (refine ⟨by simp <;> omega, hC0⟩) | omega
                            | i + 13 => omega
                          · intro full hfull us j hj
                            simp at hj
                          intro full hfull us w4 hus hC
                          simp [putAll, slotOf, Act.put] at hfull
                          subst hfull
                          match us, hus with
                          | [], _ =>
                          have b4 := hC.below
                          have HB4 := hide ((unhide HB).trans (b4.mono (unhide HB).size))
                          have HG4 := hide ((b4.block g hgW).trans (unhide HG))
                          have HO4 := hide (ownsRow_on (unhide HO) b4)
                          have hz4 := b4.size
                          rw [← b4.cell (p := ⟨sb, _, none⟩) (by show sb < _; omega)] at t0 q0
                          clear hC HB HG HO
                          simp [putP]
                          clear HSO b4
                          have HO5 : Hid (WR wA.heap.size w4 u5 (N3 ++ coll (bnF l set k) (j + 1))) := by
                            show WR _ _ _ _
                            rw [coll_succ, unhide HFS]
                            have h4 : WR wA.heap.size w4 u5 (N3 ++ coll (bnF l set k) j) := unhide HO4
                            simpa using h4
                          clear HO4
                          go_wp2_with fail
                          go_roundw
                          case rel => exact ⟨j + 1, by omega, by go_num, HO5, HG4, HB4⟩
                          case measure => simp [intOf]; omega
                        · have hne : ((j : Int) != (k : Int)) = true := by simp; omega
                          have HFS1 := hide (show bnF l set k j = if sb4 then some ⟨4, (p : Int), z⟩ else none from (unhide HFS0).trans (by simp [hjk]))
                          have hjk' : (j : Int) ≠ (k : Int) := by omega
                          clear HFS0 hjk
                          go_upto_region 23 with fail
                          refine wp_region_mix (k := 100) 13 [] [.int .i64 (j : Int), .int .i64 (k : Int), .bool true, .bool true, .agg #[.slice (some ⟨pb, po, none⟩) l.length cap, .int .i64 room], .slice (some ⟨sb, so, none⟩) set.length sc, .int .i64 (j : Int), .int .i64 (j : Int), .int .i64 ((j + 1 : Nat) : Int), .slice (some ⟨sb, so + j, none⟩) 1 (sc - j), .pointer (some ⟨g, 5, none⟩), .slice a3 P.bans.length c3, .bool sb4] (CZ wo) (by kernel_rfl) (by kernel_rfl) (by kernel_rfl) (by kernel_rfl) (by kernel_rfl) (by kernel_rfl) ⟨(Below.refl _ _).drew⟩ ?_ ?_ ?_
                          · intro full hfull i oo hi hns ho x fl us hC hb
                            simp [putAll, slotOf, Act.put] at hfull
                            subst hfull
                            have bx := hC.below
                            rw [← bx.cell (p := ⟨w.heap.size, _, none⟩) (by simp; omega)] at y0 y1
                            rw [← bx.cell (p := ⟨g, _, none⟩) (by simp; omega)] at g5
                            rw [← bx.cell (p := ⟨sb, _, none⟩) (by simp; omega)] at q0
                            have hC0 := hC.on (b' := fl) (Below.refl _ _)
                            match i with
                            | 0 => simp at ho; subst ho; simp [gwp, Region.wanted, yielded]; go_simp; first | done | exact hC0 | exact ⟨rfl, hC0⟩ | (simp; exact hC0) | (refine ⟨by simp <;> omega, hC0⟩) | omega
                            | 1 => simp at ho; subst ho; simp [gwp, Region.wanted, yielded]; go_simp; first | done | exact hC0 | exact ⟨rfl, hC0⟩ | (simp; exact hC0) | (refine ⟨by simp <;> omega, hC0⟩) | omega
                            | 2 => simp at ho; subst ho; simp [gwp, Region.wanted, yielded]; go_simp; first | done | exact hC0 | exact ⟨rfl, hC0⟩ | (simp; exact hC0) | (refine ⟨by simp <;> omega, hC0⟩) | omega
                            | 3 => simp at ho; subst ho; simp [gwp, Region.wanted, yielded]; go_simp; first | done | exact hC0 | exact ⟨rfl, hC0⟩ | (simp; exact hC0) | (refine ⟨by simp <;> omega, hC0⟩) | omega
                            | 4 => simp at ho; subst ho; simp [gwp, Region.wanted, yielded]; go_simp; first | done | exact hC0 | exact ⟨rfl, hC0⟩ | (simp; exact hC0) | (refine ⟨by simp <;> omega, hC0⟩) | omega
                            | 5 => simp at ho; subst ho; simp [gwp, Region.wanted, yielded]; go_simp; first | done | exact hC0 | exact ⟨rfl, hC0⟩ | (simp; exact hC0) | (refine ⟨by simp <;> omega, hC0⟩) | omega
                            | 6 => simp at ho; subst ho; simp [gwp, Region.wanted, yielded]; go_simp; first | done | exact hC0 | exact ⟨rfl, hC0⟩ | (simp; exact hC0) | (refine ⟨by simp <;> omega, hC0⟩) | omega
                            | 7 => simp at ho; subst ho; simp [gwp, Region.wanted, yielded]; go_simp; first | done | exact hC0 | exact ⟨rfl, hC0⟩ | (simp; exact hC0) | (refine ⟨by simp <;> omega, hC0⟩) | omega
                            | 8 => simp at ho; subst ho; simp [gwp, Region.wanted, yielded]; go_simp; first | done | exact hC0 | exact ⟨rfl, hC0⟩ | (simp; exact hC0) | (refine ⟨by simp <;> omega, hC0⟩) | omega
                            | 9 => simp at ho; subst ho; simp [gwp, Region.wanted, yielded]; go_simp; first | done | exact hC0 | exact ⟨rfl, hC0⟩ | (simp; exact hC0) | (refine ⟨by simp <;> omega, hC0⟩) | omega
                            | 10 => simp at ho; subst ho; simp [gwp, Region.wanted, yielded]; go_simp; first | done | exact hC0 | exact ⟨rfl, hC0⟩ | (simp; exact hC0) | (refine ⟨by simp <;> omega, hC0⟩) | omega
                            | 11 => simp at ho; subst ho; simp [gwp, Region.wanted, yielded]; go_simp; first | done | exact hC0 | exact ⟨rfl, hC0⟩ | (simp; exact hC0) | (refine ⟨by simp <;> omega, hC0⟩) | omega
                            | 12 =>
                              simp at ho; subst ho; simp [gwp, Region.wanted, yielded]; go_simp
                              refine (unhide HSO x bx).mono ?_
                              rintro e w' ⟨rfl, hb2⟩
                              go_simp
                              first | done | exact hC.on hb2 | exact ⟨rfl, hC.on hb2⟩ | (simp; exact hC.on hb2)
                            | i + 13 => omega
                          · intro full hfull us j hj
                            simp at hj
                          intro full hfull us w4 hus hC
                          simp [putAll, slotOf, Act.put] at hfull
                          subst hfull
                          match us, hus with
                          | [], _ =>
                          have b4 := hC.below
                          have HB4 := hide ((unhide HB).trans (b4.mono (unhide HB).size))
                          have HG4 := hide ((b4.block g hgW).trans (unhide HG))
                          have HO4 := hide (ownsRow_on (unhide HO) b4)
                          have hz4 := b4.size
                          rw [← b4.cell (p := ⟨sb, _, none⟩) (by show sb < _; omega)] at t0 q0
                          clear hC HB HG HO
                          simp [putP]
                          clear HSO b4 y0 y1 g0 g1 g2 g3 g4 g5
                          cases sb4 with
                          | false =>
                            have HFS := hide (show bnF l set k j = none from unhide HFS1)
                            clear HFS1
                            have HO5 : Hid (WR wA.heap.size w4 u5 (N3 ++ coll (bnF l set k) (j + 1))) := by
                              show WR _ _ _ _
                              rw [coll_succ, unhide HFS]
                              have h4 : WR wA.heap.size w4 u5 (N3 ++ coll (bnF l set k) j) := unhide HO4
                              simpa using h4
                            clear HO4
                            go_wp2_with fail
                            go_roundw
                            case rel => exact ⟨j + 1, by omega, by go_num, HO5, HG4, HB4⟩
                            case measure => simp [intOf]; omega
                          | true =>
                            have HFS := hide (show bnF l set k j = some ⟨4, (p : Int), z⟩ from unhide HFS1)
                            clear HFS1
                            have hOL : (N3 ++ coll (bnF l set k) j).length ≤ 1000 := by rw [List.length_append]; omega
                            go_upto_region 24 with fail
                            refine wp_region_mixL (k := 100) 11 [10] [u5, .slice (some ⟨sb, so, none⟩) set.length sc, .int .i64 (k : Int), .pointer (some ⟨sb, so + k, none⟩), .int .i64 (p : Int), .slice (some ⟨sb, so, none⟩) set.length sc, .int .i64 (j : Int), .pointer (some ⟨sb, so + j, none⟩), .int .i64 z, .agg #[.int .i64 4, .int .i64 (p : Int), .int .i64 z], undef] (CW w4 ⟨4, (p : Int), z⟩) (by kernel_rfl) (by kernel_rfl) (by kernel_rfl) (by kernel_rfl) (by kernel_rfl) (by kernel_rfl) ⟨(Below.refl _ _).drew, (fun y h => by cases h)⟩ ?_ ?_ ?_
                            · intro full hfull i oo hi hns ho x fl us hC hb
                              simp [putAll, slotOf, Act.put] at hfull
                              subst hfull
                              have bx := hC.below
                              rw [← bx.cell (p := ⟨sb, _, none⟩) (by simp; omega)] at t0 q0
                              have hC0 := hC.on (b' := fl) (Below.refl _ _)
                              match i with
                              | 0 => simp at ho; subst ho; simp [gwp, Region.wanted, yielded]; go_simp; first | done | exact hC0 | exact ⟨rfl, hC0⟩ | (simp; exact hC0) | (refine ⟨by simp <;> omega, hC0⟩) | omega
                              | 1 => simp at ho; subst ho; simp [gwp, Region.wanted, yielded]; go_simp; first | done | exact hC0 | exact ⟨rfl, hC0⟩ | (simp; exact hC0) | (refine ⟨by simp <;> omega, hC0⟩) | omega
                              | 2 => simp at ho; subst ho; simp [gwp, Region.wanted, yielded]; go_simp; first | done | exact hC0 | exact ⟨rfl, hC0⟩ | (simp; exact hC0) | (refine ⟨by simp <;> omega, hC0⟩) | omega
                              | 3 => simp at ho; subst ho; simp [gwp, Region.wanted, yielded]; go_simp; first | done | exact hC0 | exact ⟨rfl, hC0⟩ | (simp; exact hC0) | (refine ⟨by simp <;> omega, hC0⟩) | omega
                              | 4 => simp at ho; subst ho; simp [gwp, Region.wanted, yielded]; go_simp; first | done | exact hC0 | exact ⟨rfl, hC0⟩ | (simp; exact hC0) | (refine ⟨by simp <;> omega, hC0⟩) | omega
                              | 5 => simp at ho; subst ho; simp [gwp, Region.wanted, yielded]; go_simp; first | done | exact hC0 | exact ⟨rfl, hC0⟩ | (simp; exact hC0) | (refine ⟨by simp <;> omega, hC0⟩) | omega
                              | 6 => simp at ho; subst ho; simp [gwp, Region.wanted, yielded]; go_simp; first | done | exact hC0 | exact ⟨rfl, hC0⟩ | (simp; exact hC0) | (refine ⟨by simp <;> omega, hC0⟩) | omega
                              | 7 => simp at ho; subst ho; simp [gwp, Region.wanted, yielded]; go_simp; first | done | exact hC0 | exact ⟨rfl, hC0⟩ | (simp; exact hC0) | (refine ⟨by simp <;> omega, hC0⟩) | omega
                              | 8 => simp at ho; subst ho; simp [gwp, Region.wanted, yielded]; go_simp; first | done | exact hC0 | exact ⟨rfl, hC0⟩ | (simp; exact hC0) | (refine ⟨by simp <;> omega, hC0⟩) | omega
                              | 9 => simp at ho; subst ho; simp [gwp, Region.wanted, yielded]; go_simp; first | done | exact hC0 | exact ⟨rfl, hC0⟩ | (simp; exact hC0) | (refine ⟨by simp <;> omega, hC0⟩) | omega
                              | 10 => simp at hns
                              | i + 11 => omega
                            · intro full hfull us j hj oo ho x fl hC
                              simp [putAll, slotOf, Act.put] at hfull
                              subst hfull
                              match us with
                              | [] =>
                                simp at hj
                                subst hj
                                simp at ho
                                subst ho
                                simp [gwp, Region.wanted, yielded, putP]
                                go_simp
                                refine ⟨hC.below.alloc (by have := hC.below.size; omega) _, fun u hu => ?_⟩
                                cases hu
                                exact ⟨x.heap.size, rfl, hC.below.size, blk_alloc_new _ _⟩
                              | _ :: _ => simp at hj
                            intro full hfull us x hus hC
                            simp [putAll, slotOf, Act.put] at hfull
                            subst hfull
                            match us, hus with
                            | [yv], _ =>
                            obtain ⟨gg, hyv, hg1, hg2⟩ := hC.one yv rfl
                            subst hyv
                            have bx := hC.below
                            have hown := ownsRow_on (unhide HO4) bx
                            have hnews := why_news hg2
                            have hxz := bx.size
                            have HBx := hide ((unhide HB4).trans (bx.mono (unhide HB4).size))
                            have HGx := hide ((bx.block g (Array.getElem?_eq_some_iff.1 (unhide HG4)).1).trans (unhide HG4))
                            clear hC bx hg2 HO4 HB4 HG4 t0 q0
                            simp [putP, slotOf, Act.put]
                            go_wp2_with (first
                              | (at_builtin; refine wpList_append_own _ rfl _ _ 29 rfl wA.heap.size 36 i0 (.agg #[.int .i64 0, .int .i64 0, .int .i64 0]) 3 24 Try.underlying29 hi hz0 hz1 hz2 rfl (by decide) _ _ _ rfl hown ⟨gg, 0, none⟩ 1 1 (stepVs [⟨4, (p : Int), z⟩]) rfl rfl hnews (steps_one _) (by unfold maxLen; omega) (by omega) (by have := (unhide HBx).size; omega) ?_))
                            intro v' w5 hown' hgrow _
                            have HB5 := hide ((unhide HBx).grown hgrow (by have := (unhide HBx).size; omega) (fun j hj => (World.ownsRow.lt hown j hj).1))
                            have HG5 := hide (pack_kept (unhide HGx) hown hgrow)
                            have HO5 : Hid (WR wA.heap.size w5 v' (N3 ++ coll (bnF l set k) (j + 1))) := by
                              show WR _ _ _ _
                              rw [coll_succ, unhide HFS, ← List.append_assoc]
                              unfold WR
                              rw [Option.toList_some, stepVs_app]
                              simpa [Nat.add_assoc] using hown'
                            clear hown hown' hgrow HGx HBx hnews
                            go_wp2_with fail
                            go_roundw
                            case rel => exact ⟨j + 1, by omega, by go_num, HO5, HG5, HB5⟩
                            case measure => simp [intOf]; omega
                      · have j2 : ¬ (j : Int) < (set.length : Int) := by omega
                        have hje : j = set.length := by omega
                        have HN4 : Hid (N3 ++ coll (bnF l set k) j = lackS l room set ++ (List.range (k + 1)).flatMap (placeL l set)) := by
                          show _ = _
                          rw [unhide HN3, unhide HN2, unhide HN, hje, List.range_succ, List.flatMap_append]
                          simp [placeL, unhide HPK0, List.append_assoc]
                        have hl4 := coll_len (bnF l set k) j
                        have hl4' : (N3 ++ coll (bnF l set k) j).length ≤ 1 + 20 * (k + 1) := by rw [List.length_append]; omega
                        generalize N3 ++ coll (bnF l set k) j = M at HN4 HO hl4'
                        clear hje g0 g1 g2 g3 g4 g5 y0 y1 t0 HBW HG
                        go_wp2_with fail
                        go_roundw
                        case rel => exact ⟨k + 1, M, by omega, by go_num, hl4', HN4, HO, HB⟩
                        case measure => simp [intOf]; omega
        · have j1 : ¬ (k : Int) < (set.length : Int) := by omega
          have hke : k = set.length := by omega
          have HN2 : Hid (N = specWhy l room set) := by
            show _ = _
            rw [unhide HN, hke, unhide HSW]
          have HB6 := hide ((unhide HwA).trans ((unhide HBq).mono (unhide HwA).size))
          have HO6 := hide (show WR w.heap.size wq u5 N from row_base (unhide HOq) (by omega))
          clear hke HN HOq HBq
          go_wp2_with fail
          go_ret
          exact ⟨⟨_, rfl, by rw [← unhide HN2]; simpa using unhide HO6⟩, unhide HB6⟩
end Go.Proofs.Ytcmgddkifhcmlan
