/- The walk of the law FnStateDep: of every code it answers true, and writes nothing that was there. -/
import Derived.Test.YtnegiggafgfmkabGDrawT
import Derived.Test.YtnegiggafgfmkabGLd
import Derived.Test.YtnegiggafgfmkabLdFits
import Derived.Test.YtnegiggafgfmkabLdIn
namespace Go.Proofs.Ytnegiggafgfmkab
set_option linter.unusedVariables false
set_option linter.unusedSimpArgs false
open Go.RowKit Go.Deep

def fitZ (l : List PackD) (row : List ReqD) (z : Int) : Bool := anyB row (l.getD z.toNat dPack)
theorem dep_some {l : List PackD} {set : List Int} {row : List ReqD} (h : someB l set row (-1) = true) : 0 < (set.filter (fitZ l row)).length := by
  unfold someB at h
  rw [List.any_eq_true] at h
  obtain ⟨i, hi, h1⟩ := h
  have hi := List.mem_range.1 hi
  unfold oneB at h1
  rw [Bool.and_eq_true] at h1
  exact List.length_pos_of_mem (List.mem_filter.2 ⟨getD_mem hi, h1.2⟩)
theorem dep_rest {l : List PackD} {room : Int} {set rest : List Int} {row : List ReqD} {k : Nat} (hrow : row ∈ (packOf l set k).deps) (hr : ∀ z ∈ rest, fitZ l row z = false) (hin : rest.any (· == set.getD k 0) = true) : okZ l room rest = false := by
  cases h : okZ l room rest with
  | false => rfl
  | true =>
    exfalso
    rw [List.any_eq_true] at hin
    obtain ⟨z, hz, he⟩ := hin
    simp at he
    obtain ⟨i, hi, rfl⟩ := List.getElem_of_mem hz
    have e1 : rest.getD i 0 = rest[i] := by simp [List.getD, hi]
    have e2 : packOf l rest i = packOf l set k := by
      unfold packOf
      rw [e1, he]
      simp [List.getD]
    rw [← e2] at hrow
    have h1 := ok_deps h hi hrow
    unfold someB at h1
    rw [List.any_eq_true] at h1
    obtain ⟨q, hq, h2⟩ := h1
    have hq := List.mem_range.1 hq
    unfold oneB at h2
    rw [Bool.and_eq_true] at h2
    have h3 := hr _ (getD_mem (d := 0) hq)
    unfold fitZ at h3
    rw [h3] at h2
    cases h2.2
theorem filter_take {f : Int → Bool} {set : List Int} {k : Nat} (hlt : k < set.length) : (set.take (k + 1)).filter f = (set.take k).filter f ++ (if f (set.getD k 0) then [set.getD k 0] else []) := by
  rw [List.take_succ_eq_append_getElem hlt, List.filter_append]
  have : set.getD k 0 = set[k] := by simp [List.getD, hlt]
  rw [this]
  congr 1
  by_cases h : f set[k] = true
  · simp [h]
  · simp at h; simp [h]
theorem filter_short {f : Int → Bool} {set : List Int} (k : Nat) : ((set.take k).filter f).length ≤ set.length := by
  have h1 := List.length_filter_le f (set.take k)
  have h2 : (set.take k).length ≤ set.length := by simp; omega
  omega
theorem RowI.two (w : World) : RowI w.heap.size ((w.alloc (.cells #[] 3)).alloc (.cells #[] 3)) (.slice (some ⟨w.heap.size, 0, none⟩) 0 0) [] ∧ RowI w.heap.size ((w.alloc (.cells #[] 3)).alloc (.cells #[] 3)) (.slice (some ⟨w.heap.size + 1, 0, none⟩) 0 0) [] := by
  constructor
  · exact ⟨rfl, Or.inr ⟨w.heap.size, 0, #[], rfl, Nat.le_refl _, (blk_alloc_lt _ _ _ (by simp)).trans (blk_alloc_new _ _), Nat.zero_le _, Nat.zero_le _, rfl, rfl⟩⟩
  · refine ⟨rfl, Or.inr ⟨w.heap.size + 1, 0, #[], rfl, by omega, ?_, Nat.zero_le _, Nat.zero_le _, rfl, rfl⟩⟩
    have := blk_alloc_new (w.alloc (.cells #[] 3)) (.cells #[] 3)
    simpa using this
theorem RowI.other {B : Nat} {w w' : World} {v u : Value} {l : List Int} (h : RowI B w u l) (hg : w.grownBy w' v.ownBlock) (hne : v.ownBlock ≠ u.ownBlock) : RowI B w' u l := by
  obtain ⟨h1, h2⟩ := h
  refine ⟨h1, h2.imp id ?_⟩
  rintro ⟨g, cap, cur, hv, hg2, hc, r⟩
  refine ⟨g, cap, cur, hv, hg2, ?_, r⟩
  rw [hg.block g (Array.getElem?_eq_some_iff.1 hc).1 (fun e => hne (by rw [hv]; exact e.symm))]
  exact hc
theorem RowI.old {B : Nat} {w : World} {u : Value} {l : List Int} (h : RowI B w u l) {j : Nat} (hj : u.ownBlock = some j) : j < w.heap.size := (World.ownsRow.lt h j hj).2
theorem apart_grown {w : World} {v v' u : Value} {l : List Int} {B : Nat} (hu : RowI B w u l) (hne : v.ownBlock ≠ u.ownBlock) (h : v'.ownBlock = v.ownBlock ∨ v'.ownBlock = some w.heap.size) : v'.ownBlock ≠ u.ownBlock := by
  rcases h with h | h
  · rw [h]; exact hne
  · intro e
    have := RowI.old hu (e.symm.trans h)
    omega

set_option maxRecDepth 100000 in
set_option maxHeartbeats 8000000 in
theorem dep_any (a : Option Addr) (n c : Nat) (w : World) (h : CodeAt w.heap.size w a n) (hc : n ≤ c) (hc2 : c ≤ maxLen) :
    Calls Try.prog 7 #[.slice a n c] w fun e w' => e = .returned (.bool true) ∧ Below w.heap.size w w' := by
  have hmx := hc2
  unfold maxLen at hmx
  by_cases hbig : 1048576 < n
  · have hb' : (1048576 : Int) < (n : Int) := by omega
    go_enter Try.func7, Try.ntmps7
    go_wp2_with fail
    go_ret
    exact ⟨rfl, Below.refl _ _⟩
  have hb' : ¬ (1048576 : Int) < (n : Int) := by omega
  go_enter Try.func7, Try.ntmps7
  go_wp2_with fail
  refine (DrawStateOk_V a n c w h (by omega) hc hc2).mono ?_
  rintro e w1 ⟨⟨v, room, u, rfl, hV, set, hrow, hsl⟩, b1⟩
  obtain ⟨va, vn, vc, rfl, _⟩ := SlBy.slice hV
  obtain ⟨l, rfl, hP⟩ := V2.packs hV
  obtain ⟨sa, sc, hu, hset⟩ := RowI.set hrow (by omega)
  subst hu
  have HP1 := hide hP
  have HS1 := hide hset
  have HB1 := hide b1
  clear hV hrow hP hset b1 h
  go_upto_region 4 with fail
  obtain ⟨w2, hw2⟩ : ∃ w2, w2 = w1.alloc (.cells #[.slice va l.length vc, .int .i64 room] 25) := ⟨_, rfl⟩
  rw [← hw2]
  have b2 : Below w1.heap.size w1 w2 := by rw [hw2]; exact (Below.refl _ _).alloc (Nat.le_refl _) _
  have x0 : w2.cell? ⟨w1.heap.size, 0, none⟩ = some (.slice va l.length vc) := by rw [hw2]; simp
  have x1 : w2.cell? ⟨w1.heap.size, 1, none⟩ = some (.int .i64 room) := by rw [hw2]; simp
  have hlt2 : w1.heap.size < w2.heap.size := by rw [hw2]; simp
  have HP2 := hide ((unhide HP1).on b2)
  have HS2 := hide ((unhide HS1).on b2)
  have HB2 := hide ((unhide HB1).trans (b2.mono (unhide HB1).size))
  clear hw2 b2 HP1 HS1 HB1
  go_wp2_with fail
  refine (implStateOk_any va l vc room sa set sc w2 (unhide HP2) (unhide HS2)).mono ?_
  rintro e w3 ⟨rfl, b3⟩
  have HP3 := hide ((unhide HP2).on b3)
  have HS3 := hide ((unhide HS2).on b3)
  have HB3 := hide ((unhide HB2).trans (b3.mono (unhide HB2).size))
  have hlt3 : w1.heap.size < w3.heap.size := Nat.lt_of_lt_of_le hlt2 b3.size
  rw [← b3.cell (p := ⟨w1.heap.size, _, none⟩) hlt2] at x0 x1
  clear HP2 HS2 HB2 b3 hlt2
  go_wp2_with fail
  refine (specStateOk_any va l vc room sa set sc w3 (unhide HP3) (unhide HS3)).mono ?_
  rintro e w4 ⟨rfl, b4⟩
  have HP4 := hide ((unhide HP3).on b4)
  have HS4 := hide ((unhide HS3).on b4)
  have HB4 := hide ((unhide HB3).trans (b4.mono (unhide HB3).size))
  have hlt4 : w1.heap.size < w4.heap.size := Nat.lt_of_lt_of_le hlt3 b4.size
  rw [← b4.cell (p := ⟨w1.heap.size, _, none⟩) hlt3] at x0 x1
  clear HP3 HS3 HB3 b4 hlt3
  cases hok : okZ l room set with
  | false =>
    go_wp2_with fail
    refine (specStateOk_any va l vc room sa set sc w4 (unhide HP4) (unhide HS4)).mono ?_
    rintro e w5 ⟨rfl, b5⟩
    have HP5 := hide ((unhide HP4).on b5)
    have HS5 := hide ((unhide HS4).on b5)
    have HB5 := hide ((unhide HB4).trans (b5.mono (unhide HB4).size))
    have hlt5 : w1.heap.size < w5.heap.size := Nat.lt_of_lt_of_le hlt4 b5.size
    rw [← b5.cell (p := ⟨w1.heap.size, _, none⟩) hlt4] at x0 x1
    clear HP4 HS4 HB4 b5 hlt4
    rw [hok]
    clear hok
    go_wp2_with fail
    go_ret
    exact ⟨rfl, unhide HB5⟩
  | true =>
    obtain ⟨i0, hi, hz0, hz1, hz2⟩ := info_parts Try.infoInt'
    have HOK := hide hok
    clear hok
    go_wp2_with fail
    go_loopw [6] (fun i wr => ∃ k : Nat, k ≤ set.length ∧ i = .int .i64 k ∧ Hid (Below w4.heap.size w4 wr)) (fun i _ => set.length - (intOf i).toNat)
    case atStart => exact ⟨0, Nat.zero_le _, rfl, Below.refl _ _⟩
    case round =>
      rename World => wo
      obtain ⟨k, hk, rfl, HW⟩ := hrel
      by_cases hlt : k < set.length
      · have j1 : (k : Int) < (set.length : Int) := by omega
        have jk0 : (0 : Int) ≤ (k : Int) := by omega
        have hp1 := form_place (ok_form (unhide HOK)) hlt
        rcases (unhide HS4).2 with hnil | ⟨sb, so, rfl, hbl, hsc⟩
        · rw [hnil] at hlt; simp at hlt
        have c1 := hsc k hlt
        have HSC := hide hsc
        clear hsc
        have hPx := (unhide HP4)
        rcases hPx.2 with hnil | ⟨pb, po, rfl, hpS, hpk⟩
        · rw [hnil] at hp1; simp at hp1; omega
        have HPK := hide hpk
        obtain ⟨da, dc, a2, d2, a3, d3, hce1, hpv1⟩ := hpk (set.getD k 0).toNat (by omega)
        have hdp := hce1.deps
        have hDP := hpv1.deps
        have hpack : l.getD (set.getD k 0).toNat dPack = packOf l set k := rfl
        rw [hpack] at hdp hDP
        obtain ⟨z1, hz1'⟩ : ∃ z1, z1 = set.getD k 0 := ⟨_, rfl⟩
        have HZ1 := hide hz1'
        rw [← hz1'] at c1 hp1 hdp
        clear hz1'
        obtain ⟨p1, rfl⟩ : ∃ p : Nat, z1 = (p : Int) := ⟨z1.toNat, by omega⟩
        simp only [Int.toNat_natCast] at hdp
        have i10 : (0 : Int) ≤ (p1 : Int) := by omega
        have i11 : (p1 : Int) < (l.length : Int) := by omega
        have hpw : pb < w4.heap.size := hpS
        have X0 := x0
        have X1 := x1
        have C1 := c1
        rw [← (unhide HW).cell (p := ⟨w1.heap.size, _, none⟩) hlt4] at X0 X1
        rw [← (unhide HW).cell (p := ⟨sb, _, none⟩) hbl] at C1
        rw [← (unhide HW).cell (p := ⟨pb, _, none⟩) hpw] at hdp
        have HDP := hide hDP
        generalize hdeps : (packOf l set k).deps = deps at hdp HDP
        have HDE := hide hdeps
        have hdm := hDP.1
        rw [hdeps] at hdm
        unfold maxLen at hdm
        have HC1 := hide c1
        clear hpk hPx hce1 hpv1 hDP hpack hdeps c1
        go_wp2_with fail
        go_quiet (fail)
        go_wp2_with fail
        clear C1 X0 X1 hdp
        go_loopw [8] (fun i wr => ∃ j : Nat, j ≤ deps.length ∧ i = .int .i64 j ∧ Hid (Below w4.heap.size w4 wr)) (fun i _ => deps.length - (intOf i).toNat)
        case atStart => exact ⟨0, Nat.zero_le _, rfl, below_drewN (unhide HW) _⟩
        case round =>
          rename World => wx
          obtain ⟨j, hj, rfl, HX⟩ := hrel
          by_cases hjk : j < deps.length
          · have j2 : (j : Int) < (deps.length : Int) := by omega
            have jj0 : (0 : Int) ≤ (j : Int) := by omega
            rcases (unhide HDP).2 with hnil | ⟨rb, ro, rfl, hrS, hrk⟩
            · rw [hnil] at hjk; simp at hjk
            obtain ⟨ra, rc, r0, hreq⟩ := hrk j hjk
            have hrow : deps.getD j [] ∈ (packOf l set k).deps := by rw [unhide HDE]; exact getD_mem hjk
            generalize deps.getD j [] = row at r0 hreq hrow
            have hrbw : rb < w4.heap.size := hrS
            have HREQ := hide hreq
            have HROW := hide hrow
            have hdps := ok_deps (unhide HOK) hlt hrow
            have HFS := hide (dep_some hdps)
            have HR0 := hide r0
            clear hrk hreq hrow hdps r0
            have hxz := (unhide HX).size
            go_wp2_with fail
            go_loopw [9, 10, 11] (fun f r i wr => ∃ m : Nat, m ≤ set.length ∧ i = .int .i64 m ∧ Hid (RowI w4.heap.size wr f ((set.take m).filter (fitZ l row))) ∧ Hid (RowI w4.heap.size wr r ((set.take m).filter (fun z => !fitZ l row z))) ∧ Hid (f.ownBlock ≠ r.ownBlock) ∧ Hid (Below w4.heap.size w4 wr)) (fun _ _ i _ => set.length - (intOf i).toNat)
            case atStart =>
              obtain ⟨t1, t2⟩ := RowI.two wx
              exact ⟨0, Nat.zero_le _, rfl, RowI.low t1 hxz, RowI.low t2 hxz, (by show _ ≠ _; simp [Value.ownBlock]), ((unhide HX).alloc hxz _).alloc (by simp; omega) _⟩
            case round =>
              rename World => wm
              obtain ⟨m, hm, rfl, HF, HR, HNE, HM⟩ := hrel
              by_cases hml : m < set.length
              · have j3 : (m : Int) < (set.length : Int) := by omega
                have jm0 : (0 : Int) ≤ (m : Int) := by omega
                have hp2 := form_place (ok_form (unhide HOK)) hml
                have c2 := unhide HSC m hml
                have htF := filter_take (f := fitZ l row) hml
                have htR := filter_take (f := fun z => !fitZ l row z) hml
                have hlF := filter_short (f := fitZ l row) (set := set) m
                have hlR := filter_short (f := fun z => !fitZ l row z) (set := set) m
                generalize (set.take m).filter (fitZ l row) = F at HF htF hlF
                generalize (set.take m).filter (fun z => !fitZ l row z) = R at HR htR hlR
                generalize set.getD m 0 = z2 at c2 hp2 htF htR
                obtain ⟨p2, rfl⟩ : ∃ p : Nat, z2 = (p : Int) := ⟨z2.toNat, by omega⟩
                have i20 : (0 : Int) ≤ (p2 : Int) := by omega
                have i21 : (p2 : Int) < (l.length : Int) := by omega
                have HTF := hide htF
                have HTR := hide htR
                obtain ⟨b1, e1, b2, e2, b3, e3, hce2, _⟩ := unhide HPK p2 (by omega)
                obtain ⟨m0, m1, m2, m3, m4, m5⟩ := hce2
                have hfz : fitZ l row (p2 : Int) = anyB row (l.getD p2 dPack) := by unfold fitZ; simp
                have HFZ := hide hfz
                generalize l.getD p2 dPack = P2 at m0 m1 m2 m3 m4 m5 HFZ
                have X0 := x0
                have X1 := x1
                have r0 := unhide HR0
                have hmz := (unhide HM).size
                have hlx : w1.heap.size < wm.heap.size := by omega
                have hsw : sb < wm.heap.size := by omega
                have hpw2 : pb < wm.heap.size := by omega
                have hrw2 : rb < wm.heap.size := by omega
                rw [← (unhide HM).cell (p := ⟨w1.heap.size, _, none⟩) hlt4] at X0 X1
                rw [← (unhide HM).cell (p := ⟨sb, _, none⟩) hbl] at c2
                rw [← (unhide HM).cell (p := ⟨pb, _, none⟩) hpw] at m0 m1 m2 m3 m4 m5
                rw [← (unhide HM).cell (p := ⟨rb, _, none⟩) hrbw] at r0
                have HCF := hide (fun x (hx : Below wm.heap.size wm x) => ldFits_any P2 b1 e1 b2 e2 b3 e3 ra row rc x (((unhide HREQ).on (unhide HM)).on hx))
                clear hp2 htF htR hfz
                go_upto_region 19 with fail
                refine wp_region_mix (k := 100) 12 [] [.pointer (some ⟨w1.heap.size, 0, none⟩), .slice (some ⟨pb, po, none⟩) l.length vc, .slice (some ⟨sb, so, none⟩) set.length sc, .int .i64 (m : Int), .pointer (some ⟨sb, so + m, none⟩), .int .i64 (p2 : Int), .pointer (some ⟨pb, po + p2 * 6, none⟩), .agg #[.string P2.name, .int .i64 P2.ver, .int .i64 P2.size, .slice b1 P2.deps.length e1, .slice b2 P2.pres.length e2, .slice b3 P2.bans.length e3], .slice (some ⟨rb, ro, none⟩) deps.length dc, .int .i64 (j : Int), .pointer (some ⟨rb, ro + j, none⟩), .slice ra row.length rc] (C0 wm) (by kernel_rfl) (by kernel_rfl) (by kernel_rfl) (by kernel_rfl) (by kernel_rfl) (by kernel_rfl) ⟨(Below.refl _ _).drew⟩ ?_ ?_ ?_
                · intro full hfull i oo hi hns ho x fl us hC hb
                  simp [putAll, slotOf, Act.put] at hfull
                  subst hfull
                  have bx := hC.below
                  rw [← bx.cell (p := ⟨w1.heap.size, _, none⟩) hlx] at X0 X1
                  rw [← bx.cell (p := ⟨sb, _, none⟩) hsw] at c2
                  rw [← bx.cell (p := ⟨rb, _, none⟩) hrw2] at r0
                  rw [← bx.cell (p := ⟨pb, _, none⟩) hpw2] at m0 m1 m2 m3 m4 m5
                  have hC0 := hC.on (b' := fl) (Below.refl _ _)
                  match i with
                  | 0 => simp at ho; subst ho; simp [gwp, Region.wanted, yielded]; go_simp; first | done | exact hC0 | exact ⟨rfl, hC0⟩ | (simp; exact hC0) | rfl | (intro h; omega) | (simp; omega)
                  | 1 => simp at ho; subst ho; simp [gwp, Region.wanted, yielded]; go_simp; first | done | exact hC0 | exact ⟨rfl, hC0⟩ | (simp; exact hC0) | rfl | (intro h; omega) | (simp; omega)
                  | 2 => simp at ho; subst ho; simp [gwp, Region.wanted, yielded]; go_simp; first | done | exact hC0 | exact ⟨rfl, hC0⟩ | (simp; exact hC0) | rfl | (intro h; omega) | (simp; omega)
                  | 3 => simp at ho; subst ho; simp [gwp, Region.wanted, yielded]; go_simp; first | done | exact hC0 | exact ⟨rfl, hC0⟩ | (simp; exact hC0) | rfl | (intro h; omega) | (simp; omega)
                  | 4 => simp at ho; subst ho; simp [gwp, Region.wanted, yielded]; go_simp; first | done | exact hC0 | exact ⟨rfl, hC0⟩ | (simp; exact hC0) | rfl | (intro h; omega) | (simp; omega)
                  | 5 => simp at ho; subst ho; simp [gwp, Region.wanted, yielded]; go_simp; first | done | exact hC0 | exact ⟨rfl, hC0⟩ | (simp; exact hC0) | rfl | (intro h; omega) | (simp; omega)
                  | 6 => simp at ho; subst ho; simp [gwp, Region.wanted, yielded]; go_simp; first | done | exact hC0 | exact ⟨rfl, hC0⟩ | (simp; exact hC0) | rfl | (intro h; omega) | (simp; omega)
                  | 7 => simp at ho; subst ho; simp [gwp, Region.wanted, yielded]; go_simp; first | done | exact hC0 | exact ⟨rfl, hC0⟩ | (simp; exact hC0) | rfl | (intro h; omega) | (simp; omega)
                  | 8 => simp at ho; subst ho; simp [gwp, Region.wanted, yielded]; go_simp; first | done | exact hC0 | exact ⟨rfl, hC0⟩ | (simp; exact hC0) | rfl | (intro h; omega) | (simp; omega)
                  | 9 => simp at ho; subst ho; simp [gwp, Region.wanted, yielded]; go_simp; first | done | exact hC0 | exact ⟨rfl, hC0⟩ | (simp; exact hC0) | rfl | (intro h; omega) | (simp; omega)
                  | 10 => simp at ho; subst ho; simp [gwp, Region.wanted, yielded]; go_simp; first | done | exact hC0 | exact ⟨rfl, hC0⟩ | (simp; exact hC0) | rfl | (intro h; omega) | (simp; omega)
                  | 11 => simp at ho; subst ho; simp [gwp, Region.wanted, yielded]; go_simp; first | done | exact hC0 | exact ⟨rfl, hC0⟩ | (simp; exact hC0) | rfl | (intro h; omega) | (simp; omega)
                  | i + 12 => omega
                · intro full hfull us j hj
                  simp at hj
                · intro full hfull us wz hus hC
                  simp [putAll, slotOf, Act.put] at hfull
                  subst hfull
                  match us, hus with
                  | [], _ =>
                  have bz := hC.below
                  clear hC
                  simp [putP]
                  have HN0 := hide ((unhide HM).trans (bz.mono (unhide HM).size))
                  have HCF2 := hide (unhide HCF wz bz)
                  have HF2 := hide (show RowI w4.heap.size wz _ F from ownsRow_on (unhide HF) bz)
                  have HR2 := hide (show RowI w4.heap.size wz _ R from ownsRow_on (unhide HR) bz)
                  rw [← bz.cell (p := ⟨sb, _, none⟩) hsw] at c2
                  have hsz : sb < wz.heap.size := Nat.lt_of_lt_of_le hsw bz.size
                  clear bz HCF HF HR HM X0 X1 m0 m1 m2 m3 m4 m5 r0 hsw hlx hpw2 hrw2 hmz
                  go_wp2_with fail
                  refine (unhide HCF2).mono ?_
                  rintro e wn ⟨rfl, bn⟩
                  have HN1 := hide ((unhide HN0).trans (bn.mono (unhide HN0).size))
                  have HF3 := hide (show RowI w4.heap.size wn _ F from ownsRow_on (unhide HF2) bn)
                  have HR3 := hide (show RowI w4.heap.size wn _ R from ownsRow_on (unhide HR2) bn)
                  rw [← bn.cell (p := ⟨sb, _, none⟩) hsz] at c2
                  clear bn HCF2 HF2 HR2 HN0 hsz
                  have hnz := (unhide HN1).size
                  cases hfit : anyB row P2 with
                  | true =>
                    have HE1 := hide (show (set.take (m + 1)).filter (fitZ l row) = F ++ [(p2 : Int)] by rw [unhide HTF, unhide HFZ, hfit]; rfl)
                    have HE2 := hide (show (set.take (m + 1)).filter (fun z => !fitZ l row z) = R by rw [unhide HTR]; simp [unhide HFZ, hfit])
                    have HW1 := HF3
                    have HO1 := HR3
                    clear HTF HTR HFZ HF3 HR3
                    have hown := unhide HW1
                    go_wp2_with (first
                      | (at_builtin; refine wpList_append_two rfl _ _ 26 rfl w4.heap.size 3 i0 (.int .i64 0) 1 8 Try.underlying26 hi hz0 hz1 hz2 rfl (by decide) _ _ _ rfl (hown.alloc _) ⟨wn.heap.size, 0, none⟩ 1 [.int .i64 (p2 : Int)] rfl rfl ?cf1 ?cf2 ?cf3 ?cf4 ?cf5 ?_))
                    case cf1 =>
                      intro j u hj
                      match j, hj with
                      | 0, hj => simp at hj; subst hj; simp [Addr.add]
                    case cf2 => intro u hu; simp at hu; subst hu; rfl
                    case cf3 => unfold maxLen; omega
                    case cf4 => omega
                    case cf5 => simp; omega
                    intro v' w3 hown' hgrow hfr
                    have hb1 := ((unhide HN1).alloc (by omega) (.cells #[.int .i64 (p2 : Int)] 3)).grown hgrow (by simp; omega) (fun j hj => (World.ownsRow.lt hown j hj).1)
                    have HW3 : Hid (RowI w4.heap.size w3 v' (F ++ [(p2 : Int)])) := by
                      show RowI _ _ _ _
                      unfold RowI
                      simpa using hown'
                    have hoth : RowI w4.heap.size (wn.alloc (.cells #[.int .i64 (p2 : Int)] 3)) _ R := World.ownsRow.alloc (unhide HO1) _
                    have HO3 := hide (RowI.other hoth hgrow (unhide HNE))
                    have hne3 := apart_grown hoth (unhide HNE) (by simpa using hfr)
                    have HB3 := hide hb1
                    clear hown hown' hgrow hb1 hoth hfr
                    go_wp2_with fail
                    go_roundw
                    case rel => exact ⟨m + 1, by omega, by go_num, by rw [unhide HE1]; exact HW3, by rw [unhide HE2]; exact HO3, hne3, HB3⟩
                    case measure => simp [intOf]; omega
                  | false =>
                    have HE1 := hide (show (set.take (m + 1)).filter (fitZ l row) = F by rw [unhide HTF, unhide HFZ, hfit]; simp)
                    have HE2 := hide (show (set.take (m + 1)).filter (fun z => !fitZ l row z) = R ++ [(p2 : Int)] by rw [unhide HTR]; simp [unhide HFZ, hfit])
                    have HW1 := HR3
                    have HO1 := HF3
                    clear HTF HTR HFZ HF3 HR3
                    have hown := unhide HW1
                    go_wp2_with (first
                      | (at_builtin; refine wpList_append_two rfl _ _ 26 rfl w4.heap.size 3 i0 (.int .i64 0) 1 8 Try.underlying26 hi hz0 hz1 hz2 rfl (by decide) _ _ _ rfl (hown.alloc _) ⟨wn.heap.size, 0, none⟩ 1 [.int .i64 (p2 : Int)] rfl rfl ?cr1 ?cr2 ?cr3 ?cr4 ?cr5 ?_))
                    case cr1 =>
                      intro j u hj
                      match j, hj with
                      | 0, hj => simp at hj; subst hj; simp [Addr.add]
                    case cr2 => intro u hu; simp at hu; subst hu; rfl
                    case cr3 => unfold maxLen; omega
                    case cr4 => omega
                    case cr5 => simp; omega
                    intro v' w3 hown' hgrow hfr
                    have hb1 := ((unhide HN1).alloc (by omega) (.cells #[.int .i64 (p2 : Int)] 3)).grown hgrow (by simp; omega) (fun j hj => (World.ownsRow.lt hown j hj).1)
                    have HW3 : Hid (RowI w4.heap.size w3 v' (R ++ [(p2 : Int)])) := by
                      show RowI _ _ _ _
                      unfold RowI
                      simpa using hown'
                    have hoth : RowI w4.heap.size (wn.alloc (.cells #[.int .i64 (p2 : Int)] 3)) _ F := World.ownsRow.alloc (unhide HO1) _
                    have HO3 := hide (RowI.other hoth hgrow (unhide HNE).symm)
                    have hne3 := apart_grown hoth (unhide HNE).symm (by simpa using hfr)
                    have HB3 := hide hb1
                    clear hown hown' hgrow hb1 hoth hfr
                    go_wp2_with fail
                    go_roundw
                    case rel => exact ⟨m + 1, by omega, by go_num, by rw [unhide HE1]; exact HO3, by rw [unhide HE2]; exact HW3, hne3.symm, HB3⟩
                    case measure => simp [intOf]; omega
              · have j3 : ¬ (m : Int) < (set.length : Int) := by omega
                have hme : m = set.length := by omega
                rw [hme, List.take_length] at HF HR
                have hrr := fun h => dep_rest (room := room) (unhide HROW) (fun z hz => by have := (List.mem_filter.1 hz).2; simpa using this) h (rest := set.filter (fun z => !fitZ l row z))
                have hlF := filter_short (f := fitZ l row) (set := set) set.length
                have hlR := filter_short (f := fun z => !fitZ l row z) (set := set) set.length
                rw [List.take_length] at hlF hlR
                generalize set.filter (fun z => !fitZ l row z) = R at HR hrr hlR
                have hFp := unhide HFS
                generalize set.filter (fitZ l row) = F at HF hFp hlF
                obtain ⟨fa, fc, rfl, _⟩ := RowI.set (unhide HF) (by omega)
                obtain ⟨ra', rc', rfl, hRs⟩ := RowI.set (unhide HR) (by omega)
                have HRS := hide hRs
                have hfl : ((F.length : Int) == 0) = false := by rw [beq_eq_false_iff_ne]; omega
                have hp3 : R.any (· == set.getD k 0) = R.any (· == (p1 : Int)) := by rw [← unhide HZ1]
                rw [hp3] at hrr
                have HRR := hide hrr
                have C1 := unhide HC1
                rw [← (unhide HM).cell (p := ⟨sb, _, none⟩) hbl] at C1
                have HIN := hide (ldInZ_any ra' R rc' (p1 : Int) wm hRs)
                clear hrr hp3 hRs HF HR HFS hme
                go_wp2_with fail
                refine (unhide HIN).mono ?_
                rintro e wn ⟨rfl, hwn⟩
                obtain rfl := hwn.symm
                cases hin : R.any (· == (p1 : Int)) with
                | false =>
                  clear HIN HRR HRS
                  go_wp2_with fail
                  go_roundw
                  case rel => exact ⟨j + 1, by omega, by go_num, HM⟩
                  case measure => simp [intOf]; omega
                | true =>
                  have hokf := unhide HRR hin
                  have X0 := x0
                  have X1 := x1
                  rw [← (unhide HM).cell (p := ⟨w1.heap.size, _, none⟩) hlt4] at X0 X1
                  have HCS := hide (implStateOk_any (some ⟨pb, po, none⟩) l vc room ra' R rc' wm ((unhide HP4).on (unhide HM)) (unhide HRS))
                  rw [hokf] at HCS
                  clear HIN HRR HRS hokf
                  go_wp2_with fail
                  refine (unhide HCS).mono ?_
                  rintro e wp ⟨rfl, bp⟩
                  have HM2 := hide ((unhide HM).trans (bp.mono (unhide HM).size))
                  clear HCS bp
                  go_wp2_with fail
                  go_roundw
                  case rel => exact ⟨j + 1, by omega, by go_num, HM2⟩
                  case measure => simp [intOf]; omega
          · have j2 : ¬ (j : Int) < (deps.length : Int) := by omega
            go_wp2_with fail
            go_roundw
            case rel => exact ⟨k + 1, by omega, by go_num, HX⟩
            case measure => simp [intOf]; omega
      · have j1 : ¬ (k : Int) < (set.length : Int) := by omega
        have HB5 := hide ((unhide HB4).trans ((unhide HW).mono (unhide HB4).size))
        go_wp2_with fail
        go_ret
        exact ⟨rfl, unhide HB5⟩
end Go.Proofs.Ytnegiggafgfmkab
