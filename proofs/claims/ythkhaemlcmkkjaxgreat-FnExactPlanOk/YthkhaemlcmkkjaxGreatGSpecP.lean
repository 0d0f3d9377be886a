/- The specification's StateOk. The specification's StateOk, all of it. -/
import Derived.Test.YthkhaemlcmkkjaxGreatGStA
import Derived.Test.YthkhaemlcmkkjaxGreatGForm
namespace Go.Proofs.YthkhaemlcmkkjaxGreat
set_option linter.unusedVariables false
set_option linter.unusedSimpArgs false
open Go.RowKit Go.Deep

theorem any_take_succ {α : Type} {l : List α} {d : α} {f : α → Bool} {k : Nat} (h : k < l.length) : (l.take (k + 1)).any f = ((l.take k).any f || f (l.getD k d)) := by
  rw [List.take_succ_eq_append_getElem h, List.any_append]
  simp [List.getD, h]
theorem any_of_take {α : Type} {l : List α} {d : α} {f : α → Bool} {k : Nat} (h : k < l.length) (hf : f (l.getD k d) = true) : l.any f = true := by
  rw [List.any_eq_true]
  exact ⟨_, getD_mem h, hf⟩
/-- All along a statement that only reads, and lays memory of its own. -/
structure C0 (W : World) (b : Bool) (us : List Value) (x : World) : Prop where
  below : Below W.heap.size W x
theorem C0.on {W : World} {b b' : Bool} {us : List Value} {x y : World} (h : C0 W b us x) (hb : Below x.heap.size x y) : C0 W b' us y := ⟨h.below.trans (hb.mono h.below.size)⟩
/-- Place i of a state is not left out, and its pack fits one of some requests. -/
def oneB (l : List PackD) (set : List Int) (reqs : List ReqD) (no : Int) (i : Nat) : Bool := decide (set.getD i 0 ≠ no) && anyB reqs (l.getD (set.getD i 0).toNat dPack)
def someB (l : List PackD) (set : List Int) (reqs : List ReqD) (no : Int) : Bool := (List.range set.length).any (oneB l set reqs no)

set_option maxRecDepth 100000 in
set_option maxHeartbeats 4000000 in
theorem l2Some_any (a : Option Addr) (l : List PackD) (cap : Nat) (room : Int) (sa : Option Addr) (set : List Int) (sc : Nat) (ra : Option Addr) (reqs : List ReqD) (rc : Nat) (no : Int) (hin : ∀ i, i < set.length → 0 ≤ set.getD i 0 ∧ set.getD i 0 < l.length) (w : World) (h : PacksAt (Old w) w a l) (hs : SetAt w sa set) (hr : ReqsAt (Old w) w ra reqs) :
    Calls Tryz.prog 56 #[.agg #[.slice a l.length cap, .int .i64 room], .slice sa set.length sc, .slice ra reqs.length rc, .int .i64 no] w fun e w' => e = .returned (.bool (someB l set reqs no)) ∧ Below w.heap.size w w' := by
  have hsl := hs.1
  have hm := h.1
  have hrm := hr.1
  unfold maxLen at hm hrm
  have bA := (Below.refl w.heap.size w).alloc (Nat.le_refl _) (.cells #[.slice a l.length cap, .int .i64 room] 33)
  have HP := hide h
  have HS := hide hs
  have HR := hide hr
  have HIN := hide hin
  clear h hs hr hin
  go_enter Tryz.func56, Tryz.ntmps56
  go_wp2_with fail
  obtain ⟨w0, hw0⟩ : ∃ w0, w0 = w.alloc (.cells #[.slice a l.length cap, .int .i64 room] 33) := ⟨_, rfl⟩
  have x0 : w0.cell? ⟨w.heap.size, 0, none⟩ = some (.slice a l.length cap) := by rw [hw0]; simp
  have z0 : w0.heap.size = w.heap.size + 1 := by rw [hw0]; simp
  rw [← hw0] at bA ⊢
  have HA := hide bA
  clear hw0 bA
  go_loopw [9] (fun i wr => ∃ k : Nat, k ≤ set.length ∧ i = .int .i64 k ∧ Hid ((List.range k).any (oneB l set reqs no) = false) ∧ Hid (Below w0.heap.size w0 wr)) (fun i _ => set.length - (intOf i).toNat)
  case atStart => exact ⟨0, Nat.zero_le _, rfl, rfl, Below.refl _ _⟩
  case round =>
    rename World => wo
    obtain ⟨k, hk, rfl, HN, HB⟩ := hrel
    by_cases hlt : k < set.length
    · have j1 : (k : Int) < (set.length : Int) := by omega
      have hkin := unhide HIN k hlt
      have hone : oneB l set reqs no k = (decide (set.getD k 0 ≠ no) && anyB reqs (l.getD (set.getD k 0).toNat dPack)) := rfl
      rcases (unhide HS).2 with hnil | ⟨b, o, rfl, hbl, hsc⟩
      · rw [hnil] at hlt; simp at hlt
      have c0 := hsc k hlt
      generalize hZ : set.getD k 0 = z at c0 hkin hone
      obtain ⟨p, rfl⟩ : ∃ p : Nat, z = (p : Int) := ⟨z.toNat, by omega⟩
      have hpl : p < l.length := by omega
      rcases (unhide HP).2 with hnil | ⟨pb, po, rfl, hpS, hpk⟩
      · rw [hnil] at hpl; simp at hpl
      obtain ⟨a1, c1, a2, c2, a3, c3, hcells, _⟩ := hpk p hpl
      have hone' : oneB l set reqs no k = (decide ((p : Int) ≠ no) && anyB reqs (l.getD p dPack)) := by rw [hone]; simp
      generalize hPP : l.getD p dPack = P at hcells hone'
      have HCE := hide hcells
      have HONE := hide hone'
      have hpw : pb < w.heap.size := hpS
      clear hsc hpk hcells hone hone' hPP
      have HC0 := hide c0
      clear c0
      go_wp2_with fail
      go_loopw [10] (fun i wr => ∃ j : Nat, j ≤ reqs.length ∧ i = .int .i64 j ∧ Hid ((reqs.take j).any (fun q => decide ((p : Int) ≠ no) && fitsB q P) = false) ∧ Hid (Below w0.heap.size w0 wr)) (fun i _ => reqs.length - (intOf i).toNat)
      case atStart => exact ⟨0, Nat.zero_le _, rfl, rfl, HB⟩
      case round =>
        rename World => wx
        obtain ⟨j, hj, rfl, HJ, HBX⟩ := hrel
        by_cases hjl : j < reqs.length
        · have j2 : (j : Int) < (reqs.length : Int) := by omega
          rcases (unhide HR).2 with hnil | ⟨rb, ro, rfl, hrS, hrk⟩
          · rw [hnil] at hjl; simp at hjl
          obtain ⟨q0, q1, q2, _⟩ := hrk j hjl
          have htk := any_take_succ (d := dReq) (f := fun q => decide ((p : Int) ≠ no) && fitsB q P) hjl
          have hres : fitsB (reqs.getD j dReq) P = true → (p : Int) ≠ no → someB l set reqs no = true := fun h1 h2 => by
            unfold someB
            rw [List.any_eq_true]
            refine ⟨k, List.mem_range.2 hlt, ?_⟩
            rw [unhide HONE]
            unfold anyB
            rw [any_of_take hjl h1]
            simp [h2]
          generalize reqs.getD j dReq = Q at q0 q1 q2 htk hres
          have HTK := hide htk
          have HRES := hide hres
          have hrw : rb < w.heap.size := hrS
          have bx : Below w.heap.size w wx := (unhide HA).trans ((unhide HBX).mono (by omega))
          have y0 : wx.cell? ⟨w.heap.size, 0, none⟩ = some (.slice (some ⟨pb, po, none⟩) l.length cap) := ((unhide HBX).cell (p := ⟨w.heap.size, 0, none⟩) (by simp; omega)).trans x0
          have c0 := (bx.cell (p := ⟨b, o + k, none⟩) hbl).trans (unhide HC0)
          obtain ⟨p0, p1, p2, p3, p4, p5⟩ := (unhide HCE).stay (bx.block pb hpw)
          rw [← bx.cell (p := ⟨rb, _, none⟩) hrw] at q0 q1 q2
          have HCL := hide (And.intro y0 (And.intro c0 (And.intro p0 (And.intro p1 (And.intro p2 (And.intro p3 (And.intro p4 (And.intro p5 (And.intro q0 (And.intro q1 q2))))))))))
          have hltb : b < wx.heap.size := by have := bx.size; omega
          have hltp : pb < wx.heap.size := by have := bx.size; omega
          have hltr : rb < wx.heap.size := by have := bx.size; omega
          have hltw : w.heap.size < wx.heap.size := by have := (unhide HBX).size; omega
          have hpi : (p : Int) < (l.length : Int) := by omega
          have hp0 : (0 : Int) ≤ (p : Int) := by omega
          clear htk hres bx hrk c0 p0 p1 p2 p3 p4 p5 q0 q1 q2 y0
          by_cases hno : (p : Int) = no
          · have hnb : ((p : Int) != no) = false := by simp [hno]
            have e1 : (reqs.take (j + 1)).any (fun q => decide ((p : Int) ≠ no) && fitsB q P) = false := by rw [unhide HTK, unhide HJ]; simp [hno]
            have HE1 := hide e1
            clear e1 HTK HRES
            go_wp2_with fail
            refine wp_region_mix (k := 100) 20 [] [.slice (some ⟨b, o, none⟩) set.length sc, .int .i64 (k : Int), .pointer (some ⟨b, o + k, none⟩), .int .i64 (p : Int), .int .i64 no, .bool false, .bool false, undef, undef, undef, undef, undef, undef, undef, undef, undef, undef, undef, undef, undef] (C0 wx) (by kernel_rfl) (by kernel_rfl) (by kernel_rfl) (by kernel_rfl) (by kernel_rfl) (by kernel_rfl) ⟨(Below.refl _ _).drew⟩ ?_ ?_ ?_
            · intro full hfull i oo hi hns ho x fl us hC hb
              simp [putAll, slotOf, Act.put] at hfull
              subst hfull
              obtain ⟨y0, c0, p0, p1, p2, p3, p4, p5, q0, q1, q2⟩ := unhide HCL
              have hq := hC.below
              rw [← hq.cell (p := ⟨w.heap.size, _, none⟩) hltw] at y0
              rw [← hq.cell (p := ⟨b, _, none⟩) hltb] at c0
              rw [← hq.cell (p := ⟨pb, _, none⟩) hltp] at p0 p1 p2 p3 p4 p5
              rw [← hq.cell (p := ⟨rb, _, none⟩) hltr] at q0 q1 q2
              have hC0 := hC.on (b' := fl) (Below.refl _ _)
              match i with
              | 0 => simp at ho; subst ho; simp [gwp, Region.wanted, yielded]; go_simp; first | done | exact hC0 | exact ⟨rfl, hC0⟩
              | 1 => simp at ho; subst ho; simp [gwp, Region.wanted, yielded]; go_simp; first | done | exact hC0 | exact ⟨rfl, hC0⟩
              | 2 => simp at ho; subst ho; simp [gwp, Region.wanted, yielded]; go_simp; first | done | exact hC0 | exact ⟨rfl, hC0⟩
              | 3 => simp at ho; subst ho; simp [gwp, Region.wanted, yielded]; go_simp; first | done | exact hC0 | exact ⟨rfl, hC0⟩
              | 4 => simp at ho; subst ho; simp [gwp, Region.wanted, yielded]; go_simp; first | done | exact hC0 | exact ⟨rfl, hC0⟩
              | 5 => simp at ho; subst ho; simp [gwp, Region.wanted, yielded]; go_simp; first | done | exact hC0 | exact ⟨rfl, hC0⟩
              | 6 => simp at ho; subst ho; simp [gwp, Region.wanted, yielded]; go_simp; first | done | exact hC0 | exact ⟨rfl, hC0⟩
              | 7 => simp at ho; subst ho; simp [gwp, Region.wanted, yielded]; go_simp; first | done | exact hC0 | exact ⟨rfl, hC0⟩
              | 8 => simp at ho; subst ho; simp [gwp, Region.wanted, yielded]; go_simp; first | done | exact hC0 | exact ⟨rfl, hC0⟩
              | 9 => simp at ho; subst ho; simp [gwp, Region.wanted, yielded]; go_simp; first | done | exact hC0 | exact ⟨rfl, hC0⟩
              | 10 => simp at ho; subst ho; simp [gwp, Region.wanted, yielded]; go_simp; first | done | exact hC0 | exact ⟨rfl, hC0⟩
              | 11 => simp at ho; subst ho; simp [gwp, Region.wanted, yielded]; go_simp; first | done | exact hC0 | exact ⟨rfl, hC0⟩
              | 12 => simp at ho; subst ho; simp [gwp, Region.wanted, yielded]; go_simp; first | done | exact hC0 | exact ⟨rfl, hC0⟩
              | 13 => simp at ho; subst ho; simp [gwp, Region.wanted, yielded]; go_simp; first | done | exact hC0 | exact ⟨rfl, hC0⟩
              | 14 => simp at ho; subst ho; simp [gwp, Region.wanted, yielded]; go_simp; first | done | exact hC0 | exact ⟨rfl, hC0⟩
              | 15 => simp at ho; subst ho; simp [gwp, Region.wanted, yielded]; go_simp; first | done | exact hC0 | exact ⟨rfl, hC0⟩
              | 16 => simp at ho; subst ho; simp [gwp, Region.wanted, yielded]; go_simp; first | done | exact hC0 | exact ⟨rfl, hC0⟩
              | 17 => simp at ho; subst ho; simp [gwp, Region.wanted, yielded]; go_simp; first | done | exact hC0 | exact ⟨rfl, hC0⟩
              | 18 => simp at ho; subst ho; simp [gwp, Region.wanted, yielded]; go_simp; first | done | exact hC0 | exact ⟨rfl, hC0⟩
              | 19 => simp at ho; subst ho; simp [gwp, Region.wanted, yielded]; go_simp; first | done | exact hC0 | exact ⟨rfl, hC0⟩
              | i + 20 => omega
            · intro full hfull us j hj
              simp at hj
            · intro full hfull us w2 hus hC
              simp [putAll, slotOf, Act.put] at hfull
              subst hfull
              match us, hus with
              | [], _ =>
              have HB2 := hide ((unhide HBX).trans (hC.below.mono (unhide HBX).size))
              clear hC
              simp [putP]
              go_wp2_with fail
              go_roundw
              case rel => exact ⟨j + 1, by omega, by go_num, unhide HE1, unhide HB2⟩
              case measure => simp [intOf]; omega
          · have hnb : ((p : Int) != no) = true := by simp [hno]
            have hst : (reqs.take (j + 1)).any (fun q => decide ((p : Int) ≠ no) && fitsB q P) = fitsB Q P := by rw [unhide HTK, unhide HJ]; simp [hno]
            have HST := hide hst
            have HR2 := hide (fun h => unhide HRES h hno)
            clear hst HTK HRES
            go_wp2_with fail
            refine wp_region_mix (k := 100) 20 [] [.slice (some ⟨b, o, none⟩) set.length sc, .int .i64 (k : Int), .pointer (some ⟨b, o + k, none⟩), .int .i64 (p : Int), .int .i64 no, .bool true, .bool true, .pointer (some ⟨w.heap.size, 0, none⟩), .slice (some ⟨pb, po, none⟩) l.length cap, .slice (some ⟨b, o, none⟩) set.length sc, .int .i64 (k : Int), .pointer (some ⟨b, o + k, none⟩), .int .i64 (p : Int), .pointer (some ⟨pb, po + p * 6, none⟩), .agg #[.string P.name, .int .i64 P.ver, .int .i64 P.size, .slice a1 P.deps.length c1, .slice a2 P.pres.length c2, .slice a3 P.bans.length c3], .slice (some ⟨rb, ro, none⟩) reqs.length rc, .int .i64 (j : Int), .pointer (some ⟨rb, ro + j * 3, none⟩), .agg #[.string Q.name, .int .i64 Q.low, .int .i64 Q.high], .bool (fitsB Q P)] (C0 wx) (by kernel_rfl) (by kernel_rfl) (by kernel_rfl) (by kernel_rfl) (by kernel_rfl) (by kernel_rfl) ⟨(Below.refl _ _).drew⟩ ?_ ?_ ?_
            · intro full hfull i oo hi hns ho x fl us hC hb
              simp [putAll, slotOf, Act.put] at hfull
              subst hfull
              obtain ⟨y0, c0, p0, p1, p2, p3, p4, p5, q0, q1, q2⟩ := unhide HCL
              have hq := hC.below
              rw [← hq.cell (p := ⟨w.heap.size, _, none⟩) hltw] at y0
              rw [← hq.cell (p := ⟨b, _, none⟩) hltb] at c0
              rw [← hq.cell (p := ⟨pb, _, none⟩) hltp] at p0 p1 p2 p3 p4 p5
              rw [← hq.cell (p := ⟨rb, _, none⟩) hltr] at q0 q1 q2
              have hC0 := hC.on (b' := fl) (Below.refl _ _)
              match i with
              | 0 => simp at ho; subst ho; simp [gwp, Region.wanted, yielded]; go_simp; first | done | exact hC0 | exact ⟨rfl, hC0⟩
              | 1 => simp at ho; subst ho; simp [gwp, Region.wanted, yielded]; go_simp; first | done | exact hC0 | exact ⟨rfl, hC0⟩
              | 2 => simp at ho; subst ho; simp [gwp, Region.wanted, yielded]; go_simp; first | done | exact hC0 | exact ⟨rfl, hC0⟩
              | 3 => simp at ho; subst ho; simp [gwp, Region.wanted, yielded]; go_simp; first | done | exact hC0 | exact ⟨rfl, hC0⟩
              | 4 => simp at ho; subst ho; simp [gwp, Region.wanted, yielded]; go_simp; first | done | exact hC0 | exact ⟨rfl, hC0⟩
              | 5 => simp at ho; subst ho; simp [gwp, Region.wanted, yielded]; go_simp; first | done | exact hC0 | exact ⟨rfl, hC0⟩
              | 6 => simp at ho; subst ho; simp [gwp, Region.wanted, yielded]; go_simp; first | done | exact hC0 | exact ⟨rfl, hC0⟩
              | 7 => simp at ho; subst ho; simp [gwp, Region.wanted, yielded]; go_simp; first | done | exact hC0 | exact ⟨rfl, hC0⟩
              | 8 => simp at ho; subst ho; simp [gwp, Region.wanted, yielded]; go_simp; first | done | exact hC0 | exact ⟨rfl, hC0⟩
              | 9 => simp at ho; subst ho; simp [gwp, Region.wanted, yielded]; go_simp; first | done | exact hC0 | exact ⟨rfl, hC0⟩
              | 10 => simp at ho; subst ho; simp [gwp, Region.wanted, yielded]; go_simp; first | done | exact hC0 | exact ⟨rfl, hC0⟩
              | 11 => simp at ho; subst ho; simp [gwp, Region.wanted, yielded]; go_simp; first | done | exact hC0 | exact ⟨rfl, hC0⟩
              | 12 => simp at ho; subst ho; simp [gwp, Region.wanted, yielded]; go_simp; first | done | exact hC0 | exact ⟨rfl, hC0⟩
              | 13 => simp at ho; subst ho; simp [gwp, Region.wanted, yielded]; go_simp; first | done | exact hC0 | exact ⟨rfl, hC0⟩
              | 14 => simp at ho; subst ho; simp [gwp, Region.wanted, yielded]; go_simp; first | done | exact hC0 | exact ⟨rfl, hC0⟩
              | 15 => simp at ho; subst ho; simp [gwp, Region.wanted, yielded]; go_simp; first | done | exact hC0 | exact ⟨rfl, hC0⟩
              | 16 => simp at ho; subst ho; simp [gwp, Region.wanted, yielded]; go_simp; first | done | exact hC0 | exact ⟨rfl, hC0⟩
              | 17 => simp at ho; subst ho; simp [gwp, Region.wanted, yielded]; go_simp; first | done | exact hC0 | exact ⟨rfl, hC0⟩
              | 18 => simp at ho; subst ho; simp [gwp, Region.wanted, yielded]; go_simp; first | done | exact hC0 | exact ⟨rfl, hC0⟩
              | 19 =>
                simp at ho; subst ho; simp [gwp, Region.wanted, yielded]; go_simp
                refine (l1Fits_any P Q a1 c1 a2 c2 a3 c3 x).mono ?_
                rintro e w' ⟨rfl, hb2⟩
                go_simp
                first | done | exact hC.on hb2 | exact ⟨rfl, hC.on hb2⟩
              | i + 20 => omega
            · intro full hfull us j hj
              simp at hj
            · intro full hfull us w2 hus hC
              simp [putAll, slotOf, Act.put] at hfull
              subst hfull
              match us, hus with
              | [], _ =>
              have HB2 := hide ((unhide HBX).trans (hC.below.mono (unhide HBX).size))
              clear hC
              simp [putP]
              cases hfit : fitsB Q P with
              | true =>
                go_wp2_with fail
                go_ret
                exact ⟨ret_bool (unhide HR2 hfit).symm, (unhide HA).trans ((unhide HB2).mono (by omega))⟩
              | false =>
                go_wp2_with fail
                go_roundw
                case rel => exact ⟨j + 1, by omega, by go_num, (unhide HST).trans hfit, unhide HB2⟩
                case measure => simp [intOf]; omega
        · have j2 : ¬ (j : Int) < (reqs.length : Int) := by omega
          have hje : j = reqs.length := by omega
          subst hje
          have e1 : (List.range (k + 1)).any (oneB l set reqs no) = false := by
            rw [List.range_succ, List.any_append, unhide HN]
            simp only [List.any_cons, List.any_nil, Bool.or_false, Bool.false_or]
            rw [unhide HONE]
            have h1 := unhide HJ
            rw [List.take_length] at h1
            unfold anyB
            rw [Bool.and_eq_false_iff]
            by_cases hno : (p : Int) = no
            · left; simp [hno]
            · right
              rw [List.any_eq_false] at h1 ⊢
              intro q hq
              have := h1 q hq
              simpa [hno] using this
          have HE1 := hide e1
          clear e1
          go_wp2_with fail
          go_roundw
          case rel => exact ⟨k + 1, by omega, by go_num, unhide HE1, unhide HBX⟩
          case measure => simp [intOf]; omega
    · have j1 : ¬ (k : Int) < (set.length : Int) := by omega
      have hke : k = set.length := by omega
      subst hke
      go_wp2_with fail
      go_ret
      exact ⟨ret_bool (unhide HN).symm, (unhide HA).trans ((unhide HB).mono (by omega))⟩
end Go.Proofs.YthkhaemlcmkkjaxGreat

namespace Go.Proofs.YthkhaemlcmkkjaxGreat
set_option linter.unusedVariables false
set_option linter.unusedSimpArgs false
open Go.RowKit Go.Deep

def packOf (l : List PackD) (set : List Int) (i : Nat) : PackD := l.getD (set.getD i 0).toNat dPack
/-- Place i of a state is as it should be. -/
def twiceB (l : List PackD) (set : List Int) (i : Nat) : Bool := decide (0 < i) && ((packOf l set (i - 1)).name.toList == (packOf l set i).name.toList)
def placeOk (l : List PackD) (set : List Int) (i : Nat) : Bool := !twiceB l set i && !someB l set (packOf l set i).bans (set.getD i 0) && (packOf l set i).deps.all (fun row => someB l set row (-1))
def specOk (l : List PackD) (room : Int) (set : List Int) : Bool := formB l room set && decide (sumTo l set set.length ≤ room) && (List.range set.length).all (placeOk l set)

/-- All along a statement that lays one variable. -/
structure C8 (W : World) (b : Bool) (us : List Value) (x : World) : Prop where
  below : Below W.heap.size W x
  fresh : ∀ y, us = [y] → ∃ g, y = .pointer (some ⟨g, 0, none⟩) ∧ W.heap.size ≤ g ∧ x.heap[g]? = some (.cells #[.string ByteArray.empty, .int .i64 0, .int .i64 0, .slice none 0 0, .slice none 0 0, .slice none 0 0] 68 (0, 0))
theorem C8.on {W : World} {b b' : Bool} {us : List Value} {x y : World} (h : C8 W b us x) (hb : Below x.heap.size x y) : C8 W b' us y := by
  refine ⟨h.below.trans (hb.mono h.below.size), fun z hz => ?_⟩
  obtain ⟨g, h1, h2, h3⟩ := h.fresh z hz
  exact ⟨g, h1, h2, (hb.block g (Array.getElem?_eq_some_iff.1 h3).1).trans h3⟩

/-- Six cells written. -/
def set6 (w : World) (g : Nat) (v0 v1 v2 v3 v4 v5 : Value) : World := (((((w.setCell ⟨g, 0, none⟩ v0).setCell ⟨g, 1, none⟩ v1).setCell ⟨g, 2, none⟩ v2).setCell ⟨g, 3, none⟩ v3).setCell ⟨g, 4, none⟩ v4).setCell ⟨g, 5, none⟩ v5
theorem set6_facts {w : World} {g : Nat} {T : TypeId} {r0 r1 r2 r3 r4 r5 : Value} (h : w.heap[g]? = some (.cells #[r0, r1, r2, r3, r4, r5] T (0, 0))) (v0 v1 v2 v3 v4 v5 : Value) :
    (set6 w g v0 v1 v2 v3 v4 v5).heap[g]? = some (.cells #[v0, v1, v2, v3, v4, v5] T (0, 0)) ∧ w.grownBy (set6 w g v0 v1 v2 v3 v4 v5) (some g) := by
  have one : ∀ (x : World) (o : Nat) (v : Value), x.grownBy (x.setCell ⟨g, o, none⟩ v) (some g) := fun x o v => ⟨rfl, rfl, rfl, by rw [nblk_setCell]; exact Nat.le_refl _, fun b hb hne => blk_setCell_other _ _ _ _ (fun e => hne (by rw [show b = g from e]))⟩
  refine ⟨?_, ?_⟩
  · unfold set6
    rw [blk_set (blk_set (blk_set (blk_set (blk_set (blk_set h 0 _) 1 _) 2 _) 3 _) 4 _) 5 _]
    rfl
  · exact (((((one w 0 v0).trans (one _ 1 v1)).trans (one _ 2 v2)).trans (one _ 3 v3)).trans (one _ 4 v4)).trans (one _ 5 v5)

set_option maxRecDepth 100000 in
set_option maxHeartbeats 8000000 in
theorem specStateOk_any' (a : Option Addr) (l : List PackD) (cap : Nat) (room : Int) (sa : Option Addr) (set : List Int) (sc : Nat) (w : World) (h : PacksAt (Old w) w a l) (hs : SetAt w sa set) :
    Calls Tryz.prog 32 #[.agg #[.slice a l.length cap, .int .i64 room], .slice sa set.length sc] w fun e w' => e = .returned (.bool (specOk l room set)) ∧ Below w.heap.size w w' := by
  have hsl := hs.1
  have hm := h.1
  unfold maxLen at hm
  have HP := hide h
  have HS := hide hs
  clear h hs
  go_enter Tryz.func32, Tryz.ntmps32
  go_upto_region 1 with fail
  obtain ⟨w0, hw0⟩ : ∃ w0, w0 = w.alloc (.cells #[.slice a l.length cap, .int .i64 room] 33) := ⟨_, rfl⟩
  have bA : Below w.heap.size w w0 := by rw [hw0]; exact (Below.refl _ _).alloc (Nat.le_refl _) _
  have x0 : w0.cell? ⟨w.heap.size, 0, none⟩ = some (.slice a l.length cap) := by rw [hw0]; simp
  have x1 : w0.cell? ⟨w.heap.size, 1, none⟩ = some (.int .i64 room) := by rw [hw0]; simp
  have z0 : w0.heap.size = w.heap.size + 1 := by rw [hw0]; simp
  rw [← hw0]
  have HA := hide bA
  have hlt0 : w.heap.size < w0.heap.size := by omega
  clear hw0 bA
  have CF := hide (fun x (hx : Below w.heap.size w x) => l2Form_any a l cap room sa set sc x ((unhide HP).on hx) ((unhide HS).on hx))
  have CZ := hide (fun x (hx : Below w.heap.size w x) => specStateSize_any a l cap room sa set sc x ((unhide HP).on hx) ((unhide HS).on hx))
  cases hfm : formB l room set with
  | false =>
    have HE := hide (show specOk l room set = false by unfold specOk; rw [hfm]; rfl)
    refine wp_region_mix (k := 100) 11 [] [.agg #[.slice a l.length cap, .int .i64 room], .slice sa set.length sc, .bool false, .bool true, .bool true, undef, undef, undef, undef, undef, undef] (C0 w0) (by kernel_rfl) (by kernel_rfl) (by kernel_rfl) (by kernel_rfl) (by kernel_rfl) (by kernel_rfl) ⟨(Below.refl _ _).drew⟩ ?_ ?_ ?_
    · intro full hfull i oo hi hns ho x fl us hC hb
      simp [putAll, slotOf, Act.put] at hfull
      subst hfull
      have hq := hC.below
      have bx : Below w.heap.size w x := (unhide HA).trans (hq.mono (by omega))
      rw [← hq.cell (p := ⟨w.heap.size, _, none⟩) hlt0] at x0 x1
      have hC0 := hC.on (b' := fl) (Below.refl _ _)
      match i with
      | 0 => simp at ho; subst ho; simp [gwp, Region.wanted, yielded]; go_simp; first | done | exact hC0 | exact ⟨rfl, hC0⟩ | omega | (refine ⟨by simp <;> omega, hC0⟩)
      | 1 => simp at ho; subst ho; simp [gwp, Region.wanted, yielded]; go_simp; first | done | exact hC0 | exact ⟨rfl, hC0⟩ | omega | (refine ⟨by simp <;> omega, hC0⟩)
      | 3 => simp at ho; subst ho; simp [gwp, Region.wanted, yielded]; go_simp; first | done | exact hC0 | exact ⟨rfl, hC0⟩ | omega | (refine ⟨by simp <;> omega, hC0⟩)
      | 4 => simp at ho; subst ho; simp [gwp, Region.wanted, yielded]; go_simp; first | done | exact hC0 | exact ⟨rfl, hC0⟩ | omega | (refine ⟨by simp <;> omega, hC0⟩)
      | 5 => simp at ho; subst ho; simp [gwp, Region.wanted, yielded]; go_simp; first | done | exact hC0 | exact ⟨rfl, hC0⟩ | omega | (refine ⟨by simp <;> omega, hC0⟩)
      | 6 => simp at ho; subst ho; simp [gwp, Region.wanted, yielded]; go_simp; first | done | exact hC0 | exact ⟨rfl, hC0⟩ | omega | (refine ⟨by simp <;> omega, hC0⟩)
      | 7 => simp at ho; subst ho; simp [gwp, Region.wanted, yielded]; go_simp; first | done | exact hC0 | exact ⟨rfl, hC0⟩ | omega | (refine ⟨by simp <;> omega, hC0⟩)
      | 8 => simp at ho; subst ho; simp [gwp, Region.wanted, yielded]; go_simp; first | done | exact hC0 | exact ⟨rfl, hC0⟩ | omega | (refine ⟨by simp <;> omega, hC0⟩)
      | 9 => simp at ho; subst ho; simp [gwp, Region.wanted, yielded]; go_simp; first | done | exact hC0 | exact ⟨rfl, hC0⟩ | omega | (refine ⟨by simp <;> omega, hC0⟩)
      | 10 => simp at ho; subst ho; simp [gwp, Region.wanted, yielded]; go_simp; first | done | exact hC0 | exact ⟨rfl, hC0⟩ | omega | (refine ⟨by simp <;> omega, hC0⟩)
      | 2 =>
        simp at ho; subst ho; simp [gwp, Region.wanted, yielded]; go_simp
        refine (unhide CF x bx).mono ?_
        rintro e w' ⟨rfl, hb2⟩
        rw [hfm]
        go_simp
        first | done | exact hC.on hb2 | exact ⟨rfl, hC.on hb2⟩
      | i + 11 => omega
    · intro full hfull us j hj
      simp at hj
    · intro full hfull us w2 hus hC
      simp [putAll, slotOf, Act.put] at hfull
      subst hfull
      match us, hus with
      | [], _ =>
      have HB2 := hide ((unhide HA).trans (hC.below.mono (by omega)))
      clear hC
      simp [putP]
      go_wp2_with fail
      go_ret
      exact ⟨ret_bool (unhide HE).symm, unhide HB2⟩
  | true =>
    have hsz : sizeZ l room set = sumTo l set set.length := by unfold sizeZ; rw [hfm]; rfl
    have hok2 : specOk l room set = (decide (sumTo l set set.length ≤ room) && (List.range set.length).all (placeOk l set)) := by unfold specOk; rw [hfm]; rfl
    have HOK2 := hide hok2
    have hin := fun i (hi : i < set.length) => form_place hfm hi
    have HIN := hide hin
    have HFM := hide hfm
    clear hok2 hin
    generalize hzz : sumTo l set set.length = zz at hsz HOK2
    clear hzz
    refine wp_region_mix (k := 100) 11 [] [.agg #[.slice a l.length cap, .int .i64 room], .slice sa set.length sc, .bool true, .bool false, .bool false, .agg #[.slice a l.length cap, .int .i64 room], .slice sa set.length sc, .int .i64 zz, .pointer (some ⟨w.heap.size, 1, none⟩), .int .i64 room, .bool (decide (room < zz))] (C0 w0) (by kernel_rfl) (by kernel_rfl) (by kernel_rfl) (by kernel_rfl) (by kernel_rfl) (by kernel_rfl) ⟨(Below.refl _ _).drew⟩ ?_ ?_ ?_
    · intro full hfull i oo hi hns ho x fl us hC hb
      simp [putAll, slotOf, Act.put] at hfull
      subst hfull
      have hq := hC.below
      have bx : Below w.heap.size w x := (unhide HA).trans (hq.mono (by omega))
      rw [← hq.cell (p := ⟨w.heap.size, _, none⟩) hlt0] at x0 x1
      have hC0 := hC.on (b' := fl) (Below.refl _ _)
      match i with
      | 0 => simp at ho; subst ho; simp [gwp, Region.wanted, yielded]; go_simp; first | done | exact hC0 | exact ⟨rfl, hC0⟩ | omega | (refine ⟨by simp <;> omega, hC0⟩)
      | 1 => simp at ho; subst ho; simp [gwp, Region.wanted, yielded]; go_simp; first | done | exact hC0 | exact ⟨rfl, hC0⟩ | omega | (refine ⟨by simp <;> omega, hC0⟩)
      | 3 => simp at ho; subst ho; simp [gwp, Region.wanted, yielded]; go_simp; first | done | exact hC0 | exact ⟨rfl, hC0⟩ | omega | (refine ⟨by simp <;> omega, hC0⟩)
      | 4 => simp at ho; subst ho; simp [gwp, Region.wanted, yielded]; go_simp; first | done | exact hC0 | exact ⟨rfl, hC0⟩ | omega | (refine ⟨by simp <;> omega, hC0⟩)
      | 5 => simp at ho; subst ho; simp [gwp, Region.wanted, yielded]; go_simp; first | done | exact hC0 | exact ⟨rfl, hC0⟩ | omega | (refine ⟨by simp <;> omega, hC0⟩)
      | 6 => simp at ho; subst ho; simp [gwp, Region.wanted, yielded]; go_simp; first | done | exact hC0 | exact ⟨rfl, hC0⟩ | omega | (refine ⟨by simp <;> omega, hC0⟩)
      | 8 => simp at ho; subst ho; simp [gwp, Region.wanted, yielded]; go_simp; first | done | exact hC0 | exact ⟨rfl, hC0⟩ | omega | (refine ⟨by simp <;> omega, hC0⟩)
      | 9 => simp at ho; subst ho; simp [gwp, Region.wanted, yielded]; go_simp; first | done | exact hC0 | exact ⟨rfl, hC0⟩ | omega | (refine ⟨by simp <;> omega, hC0⟩)
      | 10 => simp at ho; subst ho; simp [gwp, Region.wanted, yielded]; go_simp; first | done | exact hC0 | exact ⟨rfl, hC0⟩ | omega | (refine ⟨by simp <;> omega, hC0⟩)
      | 2 =>
        simp at ho; subst ho; simp [gwp, Region.wanted, yielded]; go_simp
        refine (unhide CF x bx).mono ?_
        rintro e w' ⟨rfl, hb2⟩
        rw [hfm]
        go_simp
        first | done | exact hC.on hb2 | exact ⟨rfl, hC.on hb2⟩
      | 7 =>
        simp at ho; subst ho; simp [gwp, Region.wanted, yielded]; go_simp
        refine (unhide CZ x bx).mono ?_
        rintro e w' ⟨rfl, hb2⟩
        rw [hsz]
        go_simp
        first | done | exact hC.on hb2 | exact ⟨rfl, hC.on hb2⟩
      | i + 11 => omega
    · intro full hfull us j hj
      simp at hj
    · intro full hfull us w2 hus hC
      simp [putAll, slotOf, Act.put] at hfull
      subst hfull
      match us, hus with
      | [], _ =>
      have b2 := hC.below
      rw [← b2.cell (p := ⟨w.heap.size, _, none⟩) hlt0] at x0 x1
      have hz2 := b2.size
      have HB2 := hide ((unhide HA).trans (b2.mono (by omega)))
      clear hC CF CZ b2
      simp [putP]
      by_cases hle : zz ≤ room
      · have hnl : ¬ room < zz := by omega
        have HOK3 := hide (show specOk l room set = (List.range set.length).all (placeOk l set) by rw [unhide HOK2]; simp [hle])
        go_wp2_with fail
        go_loopw [5] (fun i wr => ∃ k : Nat, k ≤ set.length ∧ i = .int .i64 k ∧ Hid ((List.range k).all (placeOk l set) = true) ∧ Hid (Below w2.heap.size w2 wr)) (fun i _ => set.length - (intOf i).toNat)
        case atStart => exact ⟨0, Nat.zero_le _, rfl, rfl, Below.refl _ _⟩
        case round =>
          rename World => wo
          obtain ⟨k, hk, rfl, HN, HB⟩ := hrel
          by_cases hlt : k < set.length
          · have j1 : (k : Int) < (set.length : Int) := by omega
            have hkin := unhide HIN k hlt
            have bo : Below w.heap.size w wo := (unhide HB2).trans ((unhide HB).mono (unhide HB2).size)
            have zo := (unhide HB).size
            rcases (unhide HS).2 with hnil | ⟨sb, so, rfl, hsbl, hsc⟩
            · rw [hnil] at hlt; simp at hlt
            have s0 := hsc k hlt
            have hpl0 : placeOk l set k = (!twiceB l set k && !someB l set (packOf l set k).bans (set.getD k 0) && (packOf l set k).deps.all (fun row => someB l set row (-1))) := rfl
            have htw0 : twiceB l set k = (decide (0 < k) && ((packOf l set (k - 1)).name.toList == (packOf l set k).name.toList)) := rfl
            have hpk0 : packOf l set k = l.getD (set.getD k 0).toNat dPack := rfl
            have hall : (List.range (k + 1)).all (placeOk l set) = ((List.range k).all (placeOk l set) && placeOk l set k) := by rw [List.range_succ]; simp
            have hno : placeOk l set k = false → specOk l room set = false := fun hf => by
              rw [unhide HOK3, List.all_eq_false]
              exact ⟨k, List.mem_range.2 hlt, by simp [hf]⟩
            have hprev : 0 < k → set.getD (k - 1) 0 = ((set.getD (k - 1) 0).toNat : Int) ∧ (set.getD (k - 1) 0).toNat < l.length ∧ w.cell? ⟨sb, so + (k - 1), none⟩ = some (.int .i64 (set.getD (k - 1) 0)) := fun h0 => by
              have := unhide HIN (k - 1) (by omega)
              exact ⟨by omega, by omega, hsc (k - 1) (by omega)⟩
            generalize set.getD k 0 = z at s0 hkin hpl0 hpk0
            obtain ⟨p, rfl⟩ : ∃ p : Nat, z = (p : Int) := ⟨z.toNat, by omega⟩
            have hpl : p < l.length := by omega
            rcases (unhide HP).2 with hnil | ⟨pb, po, rfl, hpS, hpk⟩
            · rw [hnil] at hpl; simp at hpl
            obtain ⟨a1, c1, a2, c2, a3, c3, hcells, hval⟩ := hpk p hpl
            rw [show ((p : Int)).toNat = p by simp] at hpk0
            rw [← hpk0] at hcells hval
            generalize packOf l set k = P at hcells hval hpl0 htw0
            have hpw : pb < w.heap.size := hpS
            obtain ⟨n0, n1, n2, n3, n4, n5⟩ := hcells.stay (bo.block pb hpw)
            rw [← bo.cell (p := ⟨sb, _, none⟩) hsbl] at s0
            have hdm := hval.deps.1
            unfold maxLen at hdm
            have HVAL := hide hval
            have HPL := hide hpl0
            have HTW0 := hide htw0
            have HALL := hide hall
            have HNO := hide hno
            have HPR := hide hprev
            have HBO := hide bo
            have HPK := hide hpk
            rw [← (unhide HB).cell (p := ⟨w.heap.size, _, none⟩) (by simp; omega)] at x0 x1
            have hpi : (p : Int) < (l.length : Int) := by omega
            have HFO := hide (And.intro x0 (And.intro s0 (And.intro n0 (And.intro n1 (And.intro n2 (And.intro n3 (And.intro n4 n5)))))))
            have HX1 := hide (And.intro x0 (And.intro x1 s0))
            have hsw : sb < wo.heap.size := by have := bo.size; omega
            have hpwo : pb < wo.heap.size := by have := bo.size; omega
            have hwwo : w.heap.size < wo.heap.size := by omega
            clear hsc hpk hcells hval hpl0 htw0 hall hno hprev bo hpk0
            go_upto_region 6 with fail
            refine wp_region_mix (k := 100) 9 [8] [.pointer (some ⟨w.heap.size, 0, none⟩), .slice (some ⟨pb, po, none⟩) l.length cap, .slice (some ⟨sb, so, none⟩) set.length sc, .int .i64 (k : Int), .pointer (some ⟨sb, so + k, none⟩), .int .i64 (p : Int), .pointer (some ⟨pb, po + p * 6, none⟩), .agg #[.string P.name, .int .i64 P.ver, .int .i64 P.size, .slice a1 P.deps.length c1, .slice a2 P.pres.length c2, .slice a3 P.bans.length c3], undef] (C8 wo) (by kernel_rfl) (by kernel_rfl) (by kernel_rfl) (by kernel_rfl) (by kernel_rfl) (by kernel_rfl) ⟨(Below.refl _ _).drew, (fun y h => by cases h)⟩ ?_ ?_ ?_
            · intro full hfull i oo hi hns ho x fl us hC hb
              simp [putAll, slotOf, Act.put] at hfull
              subst hfull
              have hq := hC.below
              obtain ⟨x0, s0, n0, n1, n2, n3, n4, n5⟩ := unhide HFO
              rw [← hq.cell (p := ⟨w.heap.size, _, none⟩) hwwo] at x0
              rw [← hq.cell (p := ⟨sb, _, none⟩) hsw] at s0
              rw [← hq.cell (p := ⟨pb, _, none⟩) hpwo] at n0 n1 n2 n3 n4 n5
              have hC0 := hC.on (b' := fl) (Below.refl _ _)
              match i with
              | 0 => simp at ho; subst ho; simp [gwp, Region.wanted, yielded]; go_simp; first | done | exact hC0 | exact ⟨rfl, hC0⟩ | omega | (refine ⟨by simp <;> omega, hC0⟩)
              | 1 => simp at ho; subst ho; simp [gwp, Region.wanted, yielded]; go_simp; first | done | exact hC0 | exact ⟨rfl, hC0⟩ | omega | (refine ⟨by simp <;> omega, hC0⟩)
              | 2 => simp at ho; subst ho; simp [gwp, Region.wanted, yielded]; go_simp; first | done | exact hC0 | exact ⟨rfl, hC0⟩ | omega | (refine ⟨by simp <;> omega, hC0⟩)
              | 3 => simp at ho; subst ho; simp [gwp, Region.wanted, yielded]; go_simp; first | done | exact hC0 | exact ⟨rfl, hC0⟩ | omega | (refine ⟨by simp <;> omega, hC0⟩)
              | 4 => simp at ho; subst ho; simp [gwp, Region.wanted, yielded]; go_simp; first | done | exact hC0 | exact ⟨rfl, hC0⟩ | omega | (refine ⟨by simp <;> omega, hC0⟩)
              | 5 => simp at ho; subst ho; simp [gwp, Region.wanted, yielded]; go_simp; first | done | exact hC0 | exact ⟨rfl, hC0⟩ | omega | (refine ⟨by simp <;> omega, hC0⟩)
              | 6 => simp at ho; subst ho; simp [gwp, Region.wanted, yielded]; go_simp; first | done | exact hC0 | exact ⟨rfl, hC0⟩ | omega | (refine ⟨by simp <;> omega, hC0⟩)
              | 7 => simp at ho; subst ho; simp [gwp, Region.wanted, yielded]; go_simp; first | done | exact hC0 | exact ⟨rfl, hC0⟩ | omega | (refine ⟨by simp <;> omega, hC0⟩)
              | 8 => simp at hns
              | i + 9 => omega
            · intro full hfull us j hj oo ho x fl hC
              simp [putAll, slotOf, Act.put] at hfull
              subst hfull
              match us with
              | [] =>
                simp at hj
                subst hj
                simp at ho
                subst ho
                simp [gwp, Region.wanted, yielded, putP]
                go_simp
                have hC2 := hC.on (b' := fl) ((Below.refl x.heap.size x).alloc (Nat.le_refl _) (.cells #[.string ByteArray.empty, .int .i64 0, .int .i64 0, .slice none 0 0, .slice none 0 0, .slice none 0 0] 68))
                refine ⟨hC2.below, fun y hy => ?_⟩
                cases hy
                exact ⟨x.heap.size, rfl, hC.below.size, blk_alloc_new _ _⟩
              | _ :: _ => simp at hj
            · intro full hfull us x hus hC
              simp [putAll, slotOf, Act.put] at hfull
              subst hfull
              match us, hus with
              | [yv], _ =>
              obtain ⟨g, rfl, hg, hgb⟩ := hC.fresh yv rfl
              obtain ⟨e0, e1, e2, e3, e4, e5, ef⟩ := six hgb
              have f0 := ef 0
              have f1 := ef 1
              have f2 := ef 2
              have f3 := ef 3
              have f4 := ef 4
              have f5 := ef 5
              have hgl := (Array.getElem?_eq_some_iff.1 hgb).1
              have HGB := hide hgb
              have HCB := hide hC.below
              clear hC hgb ef x0 x1 s0 n0 n1 n2 n3 n4 n5
              simp [putP, slotOf, Act.put]
              go_upto_region 7 with fail
              obtain ⟨hW6, hG6⟩ := set6_facts (unhide HGB) (.string P.name) (.int .i64 P.ver) (.int .i64 P.size) (.slice a1 P.deps.length c1) (.slice a2 P.pres.length c2) (.slice a3 P.bans.length c3)
              change Code.wp _ _ _ _ (set6 x g (.string P.name) (.int .i64 P.ver) (.int .i64 P.size) (.slice a1 P.deps.length c1) (.slice a2 P.pres.length c2) (.slice a3 P.bans.length c3))
              generalize set6 x g (.string P.name) (.int .i64 P.ver) (.int .i64 P.size) (.slice a1 P.deps.length c1) (.slice a2 P.pres.length c2) (.slice a3 P.bans.length c3) = W1 at hW6 hG6 ⊢
              have b01 : Below wo.heap.size wo W1 := (unhide HCB).trans ⟨hG6.os, hG6.tape, hG6.output, hG6.size, fun b hb => hG6.block b (by have := (unhide HCB).size; omega) (by simp; omega)⟩
              obtain ⟨g0, _, _, g3, _, g5, _⟩ := six hW6
              obtain ⟨x0, x1, s0⟩ := unhide HX1
              rw [← b01.cell (p := ⟨w.heap.size, _, none⟩) hwwo] at x0 x1
              rw [← b01.cell (p := ⟨sb, _, none⟩) hsw] at s0
              have HBW1 := hide ((unhide HBO).trans (b01.mono (unhide HBO).size))
              have HB01 := hide ((unhide HB).trans (b01.mono (unhide HB).size))
              have hgW : g < W1.heap.size := by have := hG6.size; omega
              have zW1 := b01.size
              have HG3 := hide g3
              clear e0 e1 e2 e3 e4 e5 f0 f1 f2 f3 f4 f5 HGB HCB hW6 hG6
              by_cases hk0 : k = 0
              · have hkz : ¬ (0 : Int) < (k : Int) := by omega
                have hkn : k < 1 := by omega
                have HTW := hide (show twiceB l set k = false by rw [unhide HTW0]; simp [hk0])
                have HF1 := hide (And.intro x0 (And.intro x1 (And.intro s0 (And.intro g0 g5))))
                clear x0 x1 s0 g0 g5 g3 b01
                clear hk0
                refine wp_region_mix (k := 100) 27 [] [.int .i64 (k : Int), .bool false, .bool false, undef, undef, undef, undef, undef, undef, undef, undef, undef, undef, undef, undef, undef, .bool false, .bool false, .agg #[.slice (some ⟨pb, po, none⟩) l.length cap, .int .i64 room], .slice (some ⟨sb, so, none⟩) set.length sc, .pointer (some ⟨g, 5, none⟩), .slice a3 P.bans.length c3, .slice (some ⟨sb, so, none⟩) set.length sc, .int .i64 (k : Int), .pointer (some ⟨sb, so + k, none⟩), .int .i64 (p : Int), .bool (someB l set P.bans (p : Int))] (C0 W1) (by kernel_rfl) (by kernel_rfl) (by kernel_rfl) (by kernel_rfl) (by kernel_rfl) (by kernel_rfl) ⟨(Below.refl _ _).drew⟩ ?_ ?_ ?_
                · intro full hfull i oo hi hns ho x fl us hC hb
                  simp [putAll, slotOf, Act.put] at hfull
                  subst hfull
                  have hq := hC.below
                  have bx : Below w.heap.size w x := (unhide HBW1).trans (hq.mono (unhide HBW1).size)
                  obtain ⟨x0, x1, s0, g0, g5⟩ := unhide HF1
                  rw [← hq.cell (p := ⟨w.heap.size, _, none⟩) (by simp; omega)] at x0 x1
                  rw [← hq.cell (p := ⟨sb, _, none⟩) (by simp; omega)] at s0
                  rw [← hq.cell (p := ⟨g, _, none⟩) (by simp; omega)] at g0 g5
                  have hC0 := hC.on (b' := fl) (Below.refl _ _)
                  match i with
                  | 0 => simp at ho; subst ho; simp [gwp, Region.wanted, yielded]; go_simp; first | done | exact hC0 | exact ⟨rfl, hC0⟩ | omega | (refine ⟨by simp <;> omega, hC0⟩)
                  | 1 => simp at ho; subst ho; simp [gwp, Region.wanted, yielded]; go_simp; first | done | exact hC0 | exact ⟨rfl, hC0⟩ | omega | (refine ⟨by simp <;> omega, hC0⟩)
                  | 2 => simp at ho; subst ho; simp [gwp, Region.wanted, yielded]; go_simp; first | done | exact hC0 | exact ⟨rfl, hC0⟩ | omega | (refine ⟨by simp <;> omega, hC0⟩)
                  | 3 => simp at ho; subst ho; simp [gwp, Region.wanted, yielded]; go_simp; first | done | exact hC0 | exact ⟨rfl, hC0⟩ | omega | (refine ⟨by simp <;> omega, hC0⟩)
                  | 4 => simp at ho; subst ho; simp [gwp, Region.wanted, yielded]; go_simp; first | done | exact hC0 | exact ⟨rfl, hC0⟩ | omega | (refine ⟨by simp <;> omega, hC0⟩)
                  | 5 => simp at ho; subst ho; simp [gwp, Region.wanted, yielded]; go_simp; first | done | exact hC0 | exact ⟨rfl, hC0⟩ | omega | (refine ⟨by simp <;> omega, hC0⟩)
                  | 6 => simp at ho; subst ho; simp [gwp, Region.wanted, yielded]; go_simp; first | done | exact hC0 | exact ⟨rfl, hC0⟩ | omega | (refine ⟨by simp <;> omega, hC0⟩)
                  | 7 => simp at ho; subst ho; simp [gwp, Region.wanted, yielded]; go_simp; first | done | exact hC0 | exact ⟨rfl, hC0⟩ | omega | (refine ⟨by simp <;> omega, hC0⟩)
                  | 8 => simp at ho; subst ho; simp [gwp, Region.wanted, yielded]; go_simp; first | done | exact hC0 | exact ⟨rfl, hC0⟩ | omega | (refine ⟨by simp <;> omega, hC0⟩)
                  | 9 => simp at ho; subst ho; simp [gwp, Region.wanted, yielded]; go_simp; first | done | exact hC0 | exact ⟨rfl, hC0⟩ | omega | (refine ⟨by simp <;> omega, hC0⟩)
                  | 10 => simp at ho; subst ho; simp [gwp, Region.wanted, yielded]; go_simp; first | done | exact hC0 | exact ⟨rfl, hC0⟩ | omega | (refine ⟨by simp <;> omega, hC0⟩)
                  | 11 => simp at ho; subst ho; simp [gwp, Region.wanted, yielded]; go_simp; first | done | exact hC0 | exact ⟨rfl, hC0⟩ | omega | (refine ⟨by simp <;> omega, hC0⟩)
                  | 12 => simp at ho; subst ho; simp [gwp, Region.wanted, yielded]; go_simp; first | done | exact hC0 | exact ⟨rfl, hC0⟩ | omega | (refine ⟨by simp <;> omega, hC0⟩)
                  | 13 => simp at ho; subst ho; simp [gwp, Region.wanted, yielded]; go_simp; first | done | exact hC0 | exact ⟨rfl, hC0⟩ | omega | (refine ⟨by simp <;> omega, hC0⟩)
                  | 14 => simp at ho; subst ho; simp [gwp, Region.wanted, yielded]; go_simp; first | done | exact hC0 | exact ⟨rfl, hC0⟩ | omega | (refine ⟨by simp <;> omega, hC0⟩)
                  | 15 => simp at ho; subst ho; simp [gwp, Region.wanted, yielded]; go_simp; first | done | exact hC0 | exact ⟨rfl, hC0⟩ | omega | (refine ⟨by simp <;> omega, hC0⟩)
                  | 16 => simp at ho; subst ho; simp [gwp, Region.wanted, yielded]; go_simp; first | done | exact hC0 | exact ⟨rfl, hC0⟩ | omega | (refine ⟨by simp <;> omega, hC0⟩)
                  | 17 => simp at ho; subst ho; simp [gwp, Region.wanted, yielded]; go_simp; first | done | exact hC0 | exact ⟨rfl, hC0⟩ | omega | (refine ⟨by simp <;> omega, hC0⟩)
                  | 18 => simp at ho; subst ho; simp [gwp, Region.wanted, yielded]; go_simp; first | done | exact hC0 | exact ⟨rfl, hC0⟩ | omega | (refine ⟨by simp <;> omega, hC0⟩)
                  | 19 => simp at ho; subst ho; simp [gwp, Region.wanted, yielded]; go_simp; first | done | exact hC0 | exact ⟨rfl, hC0⟩ | omega | (refine ⟨by simp <;> omega, hC0⟩)
                  | 20 => simp at ho; subst ho; simp [gwp, Region.wanted, yielded]; go_simp; first | done | exact hC0 | exact ⟨rfl, hC0⟩ | omega | (refine ⟨by simp <;> omega, hC0⟩)
                  | 21 => simp at ho; subst ho; simp [gwp, Region.wanted, yielded]; go_simp; first | done | exact hC0 | exact ⟨rfl, hC0⟩ | omega | (refine ⟨by simp <;> omega, hC0⟩)
                  | 22 => simp at ho; subst ho; simp [gwp, Region.wanted, yielded]; go_simp; first | done | exact hC0 | exact ⟨rfl, hC0⟩ | omega | (refine ⟨by simp <;> omega, hC0⟩)
                  | 23 => simp at ho; subst ho; simp [gwp, Region.wanted, yielded]; go_simp; first | done | exact hC0 | exact ⟨rfl, hC0⟩ | omega | (refine ⟨by simp <;> omega, hC0⟩)
                  | 24 => simp at ho; subst ho; simp [gwp, Region.wanted, yielded]; go_simp; first | done | exact hC0 | exact ⟨rfl, hC0⟩ | omega | (refine ⟨by simp <;> omega, hC0⟩)
                  | 25 => simp at ho; subst ho; simp [gwp, Region.wanted, yielded]; go_simp; first | done | exact hC0 | exact ⟨rfl, hC0⟩ | omega | (refine ⟨by simp <;> omega, hC0⟩)
                  | 26 =>
                    simp at ho; subst ho; simp [gwp, Region.wanted, yielded]; go_simp
                    refine (l2Some_any (some ⟨pb, po, none⟩) l cap room (some ⟨sb, so, none⟩) set sc a3 P.bans c3 (p : Int) (unhide HIN) x ((unhide HP).on bx) ((unhide HS).on bx) ((unhide HVAL).on bx).bans).mono ?_
                    rintro e w' ⟨rfl, hb2⟩
                    go_simp
                    first | done | exact hC.on hb2 | exact ⟨rfl, hC.on hb2⟩
                  | i + 27 => omega
                · intro full hfull us j hj
                  simp at hj
                · intro full hfull us w3 hus hC
                  simp [putAll, slotOf, Act.put] at hfull
                  subst hfull
                  match us, hus with
                  | [], _ =>
                  have HB3 := hide hC.below
                  clear hC
                  simp [putP]
                  have HW3 := hide ((unhide HBW1).trans ((unhide HB3).mono (unhide HBW1).size))
                  cases hsb : someB l set P.bans (p : Int) with
                  | true =>
                    have HE := hide (unhide HNO (by rw [unhide HPL, hsb]; simp))
                    go_wp2_with fail
                    go_ret
                    exact ⟨ret_bool (unhide HE).symm, unhide HW3⟩
                  | false =>
                    obtain ⟨x0, x1, s0, g0, g5⟩ := unhide HF1
                    have g3 := unhide HG3
                    have z3 := (unhide HB3).size
                    rw [← (unhide HB3).cell (p := ⟨w.heap.size, _, none⟩) (by simp; omega)] at x0 x1
                    rw [← (unhide HB3).cell (p := ⟨g, _, none⟩) (by simp; omega)] at g3
                    have HX3 := hide (And.intro x0 (And.intro x1 g3))
                    have HPL2 := hide (show placeOk l set k = P.deps.all (fun row => someB l set row (-1)) by rw [unhide HPL, hsb, unhide HTW]; simp)
                    go_wp2_with fail
                    go_loopw [7] (fun i wr => ∃ j : Nat, j ≤ P.deps.length ∧ i = .int .i64 j ∧ Hid ((P.deps.take j).all (fun row => someB l set row (-1)) = true) ∧ Hid (Below w3.heap.size w3 wr)) (fun i _ => P.deps.length - (intOf i).toNat)
                    case atStart => exact ⟨0, Nat.zero_le _, rfl, rfl, Below.refl _ _⟩
                    case round =>
                      rename World => wx
                      obtain ⟨j, hj, rfl, HJ, HBX⟩ := hrel
                      have zx := (unhide HBX).size
                      obtain ⟨x0, x1, g3⟩ := unhide HX3
                      rw [← (unhide HBX).cell (p := ⟨w.heap.size, _, none⟩) (by simp; omega)] at x0 x1
                      rw [← (unhide HBX).cell (p := ⟨g, _, none⟩) (by simp; omega)] at g3
                      by_cases hjl : j < P.deps.length
                      · have j2 : (j : Int) < (P.deps.length : Int) := by omega
                        have bx0 : Below w.heap.size w wx := (unhide HW3).trans ((unhide HBX).mono (unhide HW3).size)
                        rcases (unhide HVAL).deps.2 with hnil | ⟨db, dof, rfl, hdS, hdk⟩
                        · rw [hnil] at hjl; simp at hjl
                        obtain ⟨ra, rc, d0, hrq⟩ := hdk j hjl
                        have hdw : db < w.heap.size := hdS
                        have htk := all_take_succ (d := ([] : List ReqD)) (f := fun row => someB l set row (-1)) hjl
                        have hno2 : someB l set (P.deps.getD j []) (-1) = false → placeOk l set k = false := fun hf => by
                          rw [unhide HPL2]
                          exact all_not_take (d := ([] : List ReqD)) hjl hf
                        generalize P.deps.getD j [] = ROW at d0 hrq htk hno2
                        rw [← bx0.cell (p := ⟨db, _, none⟩) hdw] at d0
                        have HRQ := hide hrq
                        have HTK := hide htk
                        have HNO2 := hide hno2
                        have HBX0 := hide bx0
                        have HFX := hide (And.intro x0 (And.intro x1 (And.intro g3 d0)))
                        clear hdk hrq htk hno2 bx0
                        go_upto_region 12 with fail
                        refine wp_region_mix (k := 100) 8 [] [.agg #[.slice (some ⟨pb, po, none⟩) l.length cap, .int .i64 room], .slice (some ⟨sb, so, none⟩) set.length sc, .pointer (some ⟨g, 3, none⟩), .slice (some ⟨db, dof, none⟩) P.deps.length c1, .int .i64 (j : Int), .pointer (some ⟨db, dof + j, none⟩), .slice ra ROW.length rc, .bool (someB l set ROW (-1))] (C0 wx) (by kernel_rfl) (by kernel_rfl) (by kernel_rfl) (by kernel_rfl) (by kernel_rfl) (by kernel_rfl) ⟨(Below.refl _ _).drew⟩ ?_ ?_ ?_
                        · intro full hfull i oo hi hns ho x fl us hC hb
                          simp [putAll, slotOf, Act.put] at hfull
                          subst hfull
                          have hq := hC.below
                          have bx : Below w.heap.size w x := (unhide HBX0).trans (hq.mono (unhide HBX0).size)
                          obtain ⟨x0, x1, g3, d0⟩ := unhide HFX
                          rw [← hq.cell (p := ⟨w.heap.size, _, none⟩) (by simp; omega)] at x0 x1
                          rw [← hq.cell (p := ⟨g, _, none⟩) (by simp; omega)] at g3
                          rw [← hq.cell (p := ⟨db, _, none⟩) (by simp; omega)] at d0
                          have hC0 := hC.on (b' := fl) (Below.refl _ _)
                          match i with
                          | 0 => simp at ho; subst ho; simp [gwp, Region.wanted, yielded]; go_simp; first | done | exact hC0 | exact ⟨rfl, hC0⟩ | omega | (refine ⟨by simp <;> omega, hC0⟩)
                          | 1 => simp at ho; subst ho; simp [gwp, Region.wanted, yielded]; go_simp; first | done | exact hC0 | exact ⟨rfl, hC0⟩ | omega | (refine ⟨by simp <;> omega, hC0⟩)
                          | 2 => simp at ho; subst ho; simp [gwp, Region.wanted, yielded]; go_simp; first | done | exact hC0 | exact ⟨rfl, hC0⟩ | omega | (refine ⟨by simp <;> omega, hC0⟩)
                          | 3 => simp at ho; subst ho; simp [gwp, Region.wanted, yielded]; go_simp; first | done | exact hC0 | exact ⟨rfl, hC0⟩ | omega | (refine ⟨by simp <;> omega, hC0⟩)
                          | 4 => simp at ho; subst ho; simp [gwp, Region.wanted, yielded]; go_simp; first | done | exact hC0 | exact ⟨rfl, hC0⟩ | omega | (refine ⟨by simp <;> omega, hC0⟩)
                          | 5 => simp at ho; subst ho; simp [gwp, Region.wanted, yielded]; go_simp; first | done | exact hC0 | exact ⟨rfl, hC0⟩ | omega | (refine ⟨by simp <;> omega, hC0⟩)
                          | 6 => simp at ho; subst ho; simp [gwp, Region.wanted, yielded]; go_simp; first | done | exact hC0 | exact ⟨rfl, hC0⟩ | omega | (refine ⟨by simp <;> omega, hC0⟩)
                          | 7 =>
                            simp at ho; subst ho; simp [gwp, Region.wanted, yielded]; go_simp
                            refine (l2Some_any (some ⟨pb, po, none⟩) l cap room (some ⟨sb, so, none⟩) set sc ra ROW rc (-1) (unhide HIN) x ((unhide HP).on bx) ((unhide HS).on bx) ((unhide HRQ).on bx)).mono ?_
                            rintro e w' ⟨rfl, hb2⟩
                            go_simp
                            first | done | exact hC.on hb2 | exact ⟨rfl, hC.on hb2⟩
                          | i + 8 => omega
                        · intro full hfull us j hj
                          simp at hj
                        · intro full hfull us w5 hus hC
                          simp [putAll, slotOf, Act.put] at hfull
                          subst hfull
                          match us, hus with
                          | [], _ =>
                          have HB5 := hide ((unhide HBX).trans (hC.below.mono (unhide HBX).size))
                          have HW5 := hide ((unhide HBX0).trans (hC.below.mono (unhide HBX0).size))
                          clear hC x0 x1 g3 d0
                          simp [putP]
                          cases hrw : someB l set ROW (-1) with
                          | false =>
                            have HE := hide (unhide HNO (unhide HNO2 hrw))
                            go_wp2_with fail
                            go_ret
                            exact ⟨ret_bool (unhide HE).symm, unhide HW5⟩
                          | true =>
                            go_wp2_with fail
                            go_roundw
                            case rel => exact ⟨j + 1, by omega, by go_num, by show _ = true; rw [unhide HTK, unhide HJ, hrw]; rfl, unhide HB5⟩
                            case measure => simp [intOf]; omega
                      · have j2 : ¬ (j : Int) < (P.deps.length : Int) := by omega
                        have hje : j = P.deps.length := by omega
                        subst hje
                        have h1 := unhide HJ
                        rw [List.take_length] at h1
                        have HN' := hide ((unhide HALL).trans (by rw [unhide HN, unhide HPL2, h1, Bool.and_self]))
                        clear h1
                        go_wp2_with fail
                        go_roundw
                        case rel => exact ⟨k + 1, by omega, by go_num, unhide HN', (unhide HB01).trans (((unhide HB3).trans ((unhide HBX).mono (unhide HB3).size)).mono (unhide HB01).size)⟩
                        case measure => simp [intOf]; omega

              · have hkz : (0 : Int) < (k : Int) := by omega
                have hkn : 0 < k := by omega
                obtain ⟨hy1, hy2, hy3⟩ := unhide HPR (by omega)
                have hyk : packOf l set (k - 1) = l.getD (set.getD (k - 1) 0).toNat dPack := rfl
                generalize (set.getD (k - 1) 0).toNat = y at hy1 hy2 hyk
                rw [hy1] at hy3
                obtain ⟨d1, d2, d3, d4, d5, d6, hyc, _⟩ := unhide HPK y hy2
                rw [← hyk] at hyc
                have HTW1 := hide (show twiceB l set k = ((packOf l set (k - 1)).name.toList == P.name.toList) by rw [unhide HTW0]; simp; omega)
                generalize packOf l set (k - 1) = Y at hyc HTW1
                have bW1 := unhide HBW1
                have s1 := (bW1.cell (p := ⟨sb, so + (k - 1), none⟩) hsbl).trans hy3
                have n1 := (bW1.cell (p := ⟨pb, po + y * 6, none⟩) hpw).trans hyc.name
                have hw1 : IntKind.i64.wrap ((k : Int) - 1) = ((k - 1 : Nat) : Int) := by rw [IntKind.wrap_i64]; omega
                have hki : ((k - 1 : Nat) : Int) < (set.length : Int) := by omega
                have hyi : (y : Int) < (l.length : Int) := by omega
                have HF1 := hide (And.intro x0 (And.intro x1 (And.intro s0 (And.intro g0 (And.intro g5 (And.intro s1 n1))))))
                clear x0 x1 s0 g0 g5 g3 b01 s1 n1 bW1 hy3 hyc hyk hy1
                cases heq : (Y.name.toList == P.name.toList) with
                | true =>
                  have HE := hide (unhide HNO (by rw [unhide HPL, unhide HTW1, heq]; rfl))
                  refine wp_region_mix (k := 100) 27 [] [.int .i64 (k : Int), .bool true, .bool true, .pointer (some ⟨w.heap.size, 0, none⟩), .slice (some ⟨pb, po, none⟩) l.length cap, .slice (some ⟨sb, so, none⟩) set.length sc, .int .i64 (k : Int), .int .i64 ((k - 1 : Nat) : Int), .pointer (some ⟨sb, so + (k - 1), none⟩), .int .i64 (y : Int), .pointer (some ⟨pb, po + y * 6, none⟩), .pointer (some ⟨pb, po + y * 6, none⟩), .string Y.name, .pointer (some ⟨g, 0, none⟩), .string P.name, .bool true, .bool true, .bool true, undef, undef, undef, undef, undef, undef, undef, undef, undef] (C0 W1) (by kernel_rfl) (by kernel_rfl) (by kernel_rfl) (by kernel_rfl) (by kernel_rfl) (by kernel_rfl) ⟨(Below.refl _ _).drew⟩ ?_ ?_ ?_
                  · intro full hfull i oo hi hns ho x fl us hC hb
                    simp [putAll, slotOf, Act.put] at hfull
                    subst hfull
                    have hq := hC.below
                    have bx : Below w.heap.size w x := (unhide HBW1).trans (hq.mono (unhide HBW1).size)
                    obtain ⟨x0, x1, s0, g0, g5, s1, n1⟩ := unhide HF1
                    rw [← hq.cell (p := ⟨w.heap.size, _, none⟩) (by simp; omega)] at x0 x1
                    rw [← hq.cell (p := ⟨sb, _, none⟩) (by simp; omega)] at s0
                    rw [← hq.cell (p := ⟨g, _, none⟩) (by simp; omega)] at g0 g5
                    rw [← hq.cell (p := ⟨sb, _, none⟩) (by simp; omega)] at s1
                    rw [← hq.cell (p := ⟨pb, _, none⟩) (by simp; omega)] at n1
                    have hC0 := hC.on (b' := fl) (Below.refl _ _)
                    match i with
                    | 0 => simp at ho; subst ho; simp [gwp, Region.wanted, yielded]; go_simp; first | done | exact hC0 | exact ⟨rfl, hC0⟩ | omega | (refine ⟨by simp <;> omega, hC0⟩)
                    | 1 => simp at ho; subst ho; simp [gwp, Region.wanted, yielded]; go_simp; first | done | exact hC0 | exact ⟨rfl, hC0⟩ | omega | (refine ⟨by simp <;> omega, hC0⟩)
                    | 2 => simp at ho; subst ho; simp [gwp, Region.wanted, yielded]; go_simp; first | done | exact hC0 | exact ⟨rfl, hC0⟩ | omega | (refine ⟨by simp <;> omega, hC0⟩)
                    | 3 => simp at ho; subst ho; simp [gwp, Region.wanted, yielded]; go_simp; first | done | exact hC0 | exact ⟨rfl, hC0⟩ | omega | (refine ⟨by simp <;> omega, hC0⟩)
                    | 4 => simp at ho; subst ho; simp [gwp, Region.wanted, yielded]; go_simp; first | done | exact hC0 | exact ⟨rfl, hC0⟩ | omega | (refine ⟨by simp <;> omega, hC0⟩)
                    | 5 => simp at ho; subst ho; simp [gwp, Region.wanted, yielded]; go_simp; first | done | exact hC0 | exact ⟨rfl, hC0⟩ | omega | (refine ⟨by simp <;> omega, hC0⟩)
                    | 6 => simp at ho; subst ho; simp [gwp, Region.wanted, yielded]; go_simp; first | done | exact hC0 | exact ⟨rfl, hC0⟩ | omega | (refine ⟨by simp <;> omega, hC0⟩)
                    | 7 => simp at ho; subst ho; simp [gwp, Region.wanted, yielded]; go_simp; first | done | exact hC0 | exact ⟨rfl, hC0⟩ | omega | (refine ⟨by simp <;> omega, hC0⟩)
                    | 8 => simp at ho; subst ho; simp [gwp, Region.wanted, yielded]; go_simp; first | done | exact hC0 | exact ⟨rfl, hC0⟩ | omega | (refine ⟨by simp <;> omega, hC0⟩)
                    | 9 => simp at ho; subst ho; simp [gwp, Region.wanted, yielded]; go_simp; first | done | exact hC0 | exact ⟨rfl, hC0⟩ | omega | (refine ⟨by simp <;> omega, hC0⟩)
                    | 10 => simp at ho; subst ho; simp [gwp, Region.wanted, yielded]; go_simp; first | done | exact hC0 | exact ⟨rfl, hC0⟩ | omega | (refine ⟨by simp <;> omega, hC0⟩)
                    | 11 => simp at ho; subst ho; simp [gwp, Region.wanted, yielded]; go_simp; first | done | exact hC0 | exact ⟨rfl, hC0⟩ | omega | (refine ⟨by simp <;> omega, hC0⟩)
                    | 12 => simp at ho; subst ho; simp [gwp, Region.wanted, yielded]; go_simp; first | done | exact hC0 | exact ⟨rfl, hC0⟩ | omega | (refine ⟨by simp <;> omega, hC0⟩)
                    | 13 => simp at ho; subst ho; simp [gwp, Region.wanted, yielded]; go_simp; first | done | exact hC0 | exact ⟨rfl, hC0⟩ | omega | (refine ⟨by simp <;> omega, hC0⟩)
                    | 14 => simp at ho; subst ho; simp [gwp, Region.wanted, yielded]; go_simp; first | done | exact hC0 | exact ⟨rfl, hC0⟩ | omega | (refine ⟨by simp <;> omega, hC0⟩)
                    | 15 => simp at ho; subst ho; simp [gwp, Region.wanted, yielded]; go_simp; first | done | exact hC0 | exact ⟨rfl, hC0⟩ | omega | (refine ⟨by simp <;> omega, hC0⟩)
                    | 16 => simp at ho; subst ho; simp [gwp, Region.wanted, yielded]; go_simp; first | done | exact hC0 | exact ⟨rfl, hC0⟩ | omega | (refine ⟨by simp <;> omega, hC0⟩)
                    | 17 => simp at ho; subst ho; simp [gwp, Region.wanted, yielded]; go_simp; first | done | exact hC0 | exact ⟨rfl, hC0⟩ | omega | (refine ⟨by simp <;> omega, hC0⟩)
                    | 18 => simp at ho; subst ho; simp [gwp, Region.wanted, yielded]; go_simp; first | done | exact hC0 | exact ⟨rfl, hC0⟩ | omega | (refine ⟨by simp <;> omega, hC0⟩)
                    | 19 => simp at ho; subst ho; simp [gwp, Region.wanted, yielded]; go_simp; first | done | exact hC0 | exact ⟨rfl, hC0⟩ | omega | (refine ⟨by simp <;> omega, hC0⟩)
                    | 20 => simp at ho; subst ho; simp [gwp, Region.wanted, yielded]; go_simp; first | done | exact hC0 | exact ⟨rfl, hC0⟩ | omega | (refine ⟨by simp <;> omega, hC0⟩)
                    | 21 => simp at ho; subst ho; simp [gwp, Region.wanted, yielded]; go_simp; first | done | exact hC0 | exact ⟨rfl, hC0⟩ | omega | (refine ⟨by simp <;> omega, hC0⟩)
                    | 22 => simp at ho; subst ho; simp [gwp, Region.wanted, yielded]; go_simp; first | done | exact hC0 | exact ⟨rfl, hC0⟩ | omega | (refine ⟨by simp <;> omega, hC0⟩)
                    | 23 => simp at ho; subst ho; simp [gwp, Region.wanted, yielded]; go_simp; first | done | exact hC0 | exact ⟨rfl, hC0⟩ | omega | (refine ⟨by simp <;> omega, hC0⟩)
                    | 24 => simp at ho; subst ho; simp [gwp, Region.wanted, yielded]; go_simp; first | done | exact hC0 | exact ⟨rfl, hC0⟩ | omega | (refine ⟨by simp <;> omega, hC0⟩)
                    | 25 => simp at ho; subst ho; simp [gwp, Region.wanted, yielded]; go_simp; first | done | exact hC0 | exact ⟨rfl, hC0⟩ | omega | (refine ⟨by simp <;> omega, hC0⟩)
                    | 26 => simp at ho; subst ho; simp [gwp, Region.wanted, yielded]; go_simp; first | done | exact hC0 | exact ⟨rfl, hC0⟩ | omega | (refine ⟨by simp <;> omega, hC0⟩)
                    | i + 27 => omega
                  · intro full hfull us j hj
                    simp at hj
                  · intro full hfull us w3 hus hC
                    simp [putAll, slotOf, Act.put] at hfull
                    subst hfull
                    match us, hus with
                    | [], _ =>
                    have HB3 := hide hC.below
                    clear hC
                    simp [putP]
                    go_wp2_with fail
                    go_ret
                    exact ⟨ret_bool (unhide HE).symm, (unhide HBW1).trans ((unhide HB3).mono (unhide HBW1).size)⟩
                | false =>
                  have HTW := hide ((unhide HTW1).trans heq)
                  refine wp_region_mix (k := 100) 27 [] [.int .i64 (k : Int), .bool true, .bool true, .pointer (some ⟨w.heap.size, 0, none⟩), .slice (some ⟨pb, po, none⟩) l.length cap, .slice (some ⟨sb, so, none⟩) set.length sc, .int .i64 (k : Int), .int .i64 ((k - 1 : Nat) : Int), .pointer (some ⟨sb, so + (k - 1), none⟩), .int .i64 (y : Int), .pointer (some ⟨pb, po + y * 6, none⟩), .pointer (some ⟨pb, po + y * 6, none⟩), .string Y.name, .pointer (some ⟨g, 0, none⟩), .string P.name, .bool false, .bool false, .bool false, .agg #[.slice (some ⟨pb, po, none⟩) l.length cap, .int .i64 room], .slice (some ⟨sb, so, none⟩) set.length sc, .pointer (some ⟨g, 5, none⟩), .slice a3 P.bans.length c3, .slice (some ⟨sb, so, none⟩) set.length sc, .int .i64 (k : Int), .pointer (some ⟨sb, so + k, none⟩), .int .i64 (p : Int), .bool (someB l set P.bans (p : Int))] (C0 W1) (by kernel_rfl) (by kernel_rfl) (by kernel_rfl) (by kernel_rfl) (by kernel_rfl) (by kernel_rfl) ⟨(Below.refl _ _).drew⟩ ?_ ?_ ?_
                  · intro full hfull i oo hi hns ho x fl us hC hb
                    simp [putAll, slotOf, Act.put] at hfull
                    subst hfull
                    have hq := hC.below
                    have bx : Below w.heap.size w x := (unhide HBW1).trans (hq.mono (unhide HBW1).size)
                    obtain ⟨x0, x1, s0, g0, g5, s1, n1⟩ := unhide HF1
                    rw [← hq.cell (p := ⟨w.heap.size, _, none⟩) (by simp; omega)] at x0 x1
                    rw [← hq.cell (p := ⟨sb, _, none⟩) (by simp; omega)] at s0
                    rw [← hq.cell (p := ⟨g, _, none⟩) (by simp; omega)] at g0 g5
                    rw [← hq.cell (p := ⟨sb, _, none⟩) (by simp; omega)] at s1
                    rw [← hq.cell (p := ⟨pb, _, none⟩) (by simp; omega)] at n1
                    have hC0 := hC.on (b' := fl) (Below.refl _ _)
                    match i with
                    | 0 => simp at ho; subst ho; simp [gwp, Region.wanted, yielded]; go_simp; first | done | exact hC0 | exact ⟨rfl, hC0⟩ | omega | (refine ⟨by simp <;> omega, hC0⟩)
                    | 1 => simp at ho; subst ho; simp [gwp, Region.wanted, yielded]; go_simp; first | done | exact hC0 | exact ⟨rfl, hC0⟩ | omega | (refine ⟨by simp <;> omega, hC0⟩)
                    | 2 => simp at ho; subst ho; simp [gwp, Region.wanted, yielded]; go_simp; first | done | exact hC0 | exact ⟨rfl, hC0⟩ | omega | (refine ⟨by simp <;> omega, hC0⟩)
                    | 3 => simp at ho; subst ho; simp [gwp, Region.wanted, yielded]; go_simp; first | done | exact hC0 | exact ⟨rfl, hC0⟩ | omega | (refine ⟨by simp <;> omega, hC0⟩)
                    | 4 => simp at ho; subst ho; simp [gwp, Region.wanted, yielded]; go_simp; first | done | exact hC0 | exact ⟨rfl, hC0⟩ | omega | (refine ⟨by simp <;> omega, hC0⟩)
                    | 5 => simp at ho; subst ho; simp [gwp, Region.wanted, yielded]; go_simp; first | done | exact hC0 | exact ⟨rfl, hC0⟩ | omega | (refine ⟨by simp <;> omega, hC0⟩)
                    | 6 => simp at ho; subst ho; simp [gwp, Region.wanted, yielded]; go_simp; first | done | exact hC0 | exact ⟨rfl, hC0⟩ | omega | (refine ⟨by simp <;> omega, hC0⟩)
                    | 7 => simp at ho; subst ho; simp [gwp, Region.wanted, yielded]; go_simp; first | done | exact hC0 | exact ⟨rfl, hC0⟩ | omega | (refine ⟨by simp <;> omega, hC0⟩)
                    | 8 => simp at ho; subst ho; simp [gwp, Region.wanted, yielded]; go_simp; first | done | exact hC0 | exact ⟨rfl, hC0⟩ | omega | (refine ⟨by simp <;> omega, hC0⟩)
                    | 9 => simp at ho; subst ho; simp [gwp, Region.wanted, yielded]; go_simp; first | done | exact hC0 | exact ⟨rfl, hC0⟩ | omega | (refine ⟨by simp <;> omega, hC0⟩)
                    | 10 => simp at ho; subst ho; simp [gwp, Region.wanted, yielded]; go_simp; first | done | exact hC0 | exact ⟨rfl, hC0⟩ | omega | (refine ⟨by simp <;> omega, hC0⟩)
                    | 11 => simp at ho; subst ho; simp [gwp, Region.wanted, yielded]; go_simp; first | done | exact hC0 | exact ⟨rfl, hC0⟩ | omega | (refine ⟨by simp <;> omega, hC0⟩)
                    | 12 => simp at ho; subst ho; simp [gwp, Region.wanted, yielded]; go_simp; first | done | exact hC0 | exact ⟨rfl, hC0⟩ | omega | (refine ⟨by simp <;> omega, hC0⟩)
                    | 13 => simp at ho; subst ho; simp [gwp, Region.wanted, yielded]; go_simp; first | done | exact hC0 | exact ⟨rfl, hC0⟩ | omega | (refine ⟨by simp <;> omega, hC0⟩)
                    | 14 => simp at ho; subst ho; simp [gwp, Region.wanted, yielded]; go_simp; first | done | exact hC0 | exact ⟨rfl, hC0⟩ | omega | (refine ⟨by simp <;> omega, hC0⟩)
                    | 15 => simp at ho; subst ho; simp [gwp, Region.wanted, yielded]; go_simp; first | done | exact hC0 | exact ⟨rfl, hC0⟩ | omega | (refine ⟨by simp <;> omega, hC0⟩)
                    | 16 => simp at ho; subst ho; simp [gwp, Region.wanted, yielded]; go_simp; first | done | exact hC0 | exact ⟨rfl, hC0⟩ | omega | (refine ⟨by simp <;> omega, hC0⟩)
                    | 17 => simp at ho; subst ho; simp [gwp, Region.wanted, yielded]; go_simp; first | done | exact hC0 | exact ⟨rfl, hC0⟩ | omega | (refine ⟨by simp <;> omega, hC0⟩)
                    | 18 => simp at ho; subst ho; simp [gwp, Region.wanted, yielded]; go_simp; first | done | exact hC0 | exact ⟨rfl, hC0⟩ | omega | (refine ⟨by simp <;> omega, hC0⟩)
                    | 19 => simp at ho; subst ho; simp [gwp, Region.wanted, yielded]; go_simp; first | done | exact hC0 | exact ⟨rfl, hC0⟩ | omega | (refine ⟨by simp <;> omega, hC0⟩)
                    | 20 => simp at ho; subst ho; simp [gwp, Region.wanted, yielded]; go_simp; first | done | exact hC0 | exact ⟨rfl, hC0⟩ | omega | (refine ⟨by simp <;> omega, hC0⟩)
                    | 21 => simp at ho; subst ho; simp [gwp, Region.wanted, yielded]; go_simp; first | done | exact hC0 | exact ⟨rfl, hC0⟩ | omega | (refine ⟨by simp <;> omega, hC0⟩)
                    | 22 => simp at ho; subst ho; simp [gwp, Region.wanted, yielded]; go_simp; first | done | exact hC0 | exact ⟨rfl, hC0⟩ | omega | (refine ⟨by simp <;> omega, hC0⟩)
                    | 23 => simp at ho; subst ho; simp [gwp, Region.wanted, yielded]; go_simp; first | done | exact hC0 | exact ⟨rfl, hC0⟩ | omega | (refine ⟨by simp <;> omega, hC0⟩)
                    | 24 => simp at ho; subst ho; simp [gwp, Region.wanted, yielded]; go_simp; first | done | exact hC0 | exact ⟨rfl, hC0⟩ | omega | (refine ⟨by simp <;> omega, hC0⟩)
                    | 25 => simp at ho; subst ho; simp [gwp, Region.wanted, yielded]; go_simp; first | done | exact hC0 | exact ⟨rfl, hC0⟩ | omega | (refine ⟨by simp <;> omega, hC0⟩)
                    | 26 =>
                      simp at ho; subst ho; simp [gwp, Region.wanted, yielded]; go_simp
                      refine (l2Some_any (some ⟨pb, po, none⟩) l cap room (some ⟨sb, so, none⟩) set sc a3 P.bans c3 (p : Int) (unhide HIN) x ((unhide HP).on bx) ((unhide HS).on bx) ((unhide HVAL).on bx).bans).mono ?_
                      rintro e w' ⟨rfl, hb2⟩
                      go_simp
                      first | done | exact hC.on hb2 | exact ⟨rfl, hC.on hb2⟩
                    | i + 27 => omega
                  · intro full hfull us j hj
                    simp at hj
                  · intro full hfull us w3 hus hC
                    simp [putAll, slotOf, Act.put] at hfull
                    subst hfull
                    match us, hus with
                    | [], _ =>
                    have HB3 := hide hC.below
                    clear hC
                    simp [putP]
                    have HW3 := hide ((unhide HBW1).trans ((unhide HB3).mono (unhide HBW1).size))
                    cases hsb : someB l set P.bans (p : Int) with
                    | true =>
                      have HE := hide (unhide HNO (by rw [unhide HPL, hsb]; simp))
                      go_wp2_with fail
                      go_ret
                      exact ⟨ret_bool (unhide HE).symm, unhide HW3⟩
                    | false =>
                      obtain ⟨x0, x1, s0, g0, g5, _, _⟩ := unhide HF1
                      have g3 := unhide HG3
                      have z3 := (unhide HB3).size
                      rw [← (unhide HB3).cell (p := ⟨w.heap.size, _, none⟩) (by simp; omega)] at x0 x1
                      rw [← (unhide HB3).cell (p := ⟨g, _, none⟩) (by simp; omega)] at g3
                      have HX3 := hide (And.intro x0 (And.intro x1 g3))
                      have HPL2 := hide (show placeOk l set k = P.deps.all (fun row => someB l set row (-1)) by rw [unhide HPL, hsb, unhide HTW]; simp)
                      go_wp2_with fail
                      go_loopw [7] (fun i wr => ∃ j : Nat, j ≤ P.deps.length ∧ i = .int .i64 j ∧ Hid ((P.deps.take j).all (fun row => someB l set row (-1)) = true) ∧ Hid (Below w3.heap.size w3 wr)) (fun i _ => P.deps.length - (intOf i).toNat)
                      case atStart => exact ⟨0, Nat.zero_le _, rfl, rfl, Below.refl _ _⟩
                      case round =>
                        rename World => wx
                        obtain ⟨j, hj, rfl, HJ, HBX⟩ := hrel
                        have zx := (unhide HBX).size
                        obtain ⟨x0, x1, g3⟩ := unhide HX3
                        rw [← (unhide HBX).cell (p := ⟨w.heap.size, _, none⟩) (by simp; omega)] at x0 x1
                        rw [← (unhide HBX).cell (p := ⟨g, _, none⟩) (by simp; omega)] at g3
                        by_cases hjl : j < P.deps.length
                        · have j2 : (j : Int) < (P.deps.length : Int) := by omega
                          have bx0 : Below w.heap.size w wx := (unhide HW3).trans ((unhide HBX).mono (unhide HW3).size)
                          rcases (unhide HVAL).deps.2 with hnil | ⟨db, dof, rfl, hdS, hdk⟩
                          · rw [hnil] at hjl; simp at hjl
                          obtain ⟨ra, rc, d0, hrq⟩ := hdk j hjl
                          have hdw : db < w.heap.size := hdS
                          have htk := all_take_succ (d := ([] : List ReqD)) (f := fun row => someB l set row (-1)) hjl
                          have hno2 : someB l set (P.deps.getD j []) (-1) = false → placeOk l set k = false := fun hf => by
                            rw [unhide HPL2]
                            exact all_not_take (d := ([] : List ReqD)) hjl hf
                          generalize P.deps.getD j [] = ROW at d0 hrq htk hno2
                          rw [← bx0.cell (p := ⟨db, _, none⟩) hdw] at d0
                          have HRQ := hide hrq
                          have HTK := hide htk
                          have HNO2 := hide hno2
                          have HBX0 := hide bx0
                          have HFX := hide (And.intro x0 (And.intro x1 (And.intro g3 d0)))
                          clear hdk hrq htk hno2 bx0
                          go_upto_region 12 with fail
                          refine wp_region_mix (k := 100) 8 [] [.agg #[.slice (some ⟨pb, po, none⟩) l.length cap, .int .i64 room], .slice (some ⟨sb, so, none⟩) set.length sc, .pointer (some ⟨g, 3, none⟩), .slice (some ⟨db, dof, none⟩) P.deps.length c1, .int .i64 (j : Int), .pointer (some ⟨db, dof + j, none⟩), .slice ra ROW.length rc, .bool (someB l set ROW (-1))] (C0 wx) (by kernel_rfl) (by kernel_rfl) (by kernel_rfl) (by kernel_rfl) (by kernel_rfl) (by kernel_rfl) ⟨(Below.refl _ _).drew⟩ ?_ ?_ ?_
                          · intro full hfull i oo hi hns ho x fl us hC hb
                            simp [putAll, slotOf, Act.put] at hfull
                            subst hfull
                            have hq := hC.below
                            have bx : Below w.heap.size w x := (unhide HBX0).trans (hq.mono (unhide HBX0).size)
                            obtain ⟨x0, x1, g3, d0⟩ := unhide HFX
                            rw [← hq.cell (p := ⟨w.heap.size, _, none⟩) (by simp; omega)] at x0 x1
                            rw [← hq.cell (p := ⟨g, _, none⟩) (by simp; omega)] at g3
                            rw [← hq.cell (p := ⟨db, _, none⟩) (by simp; omega)] at d0
                            have hC0 := hC.on (b' := fl) (Below.refl _ _)
                            match i with
                            | 0 => simp at ho; subst ho; simp [gwp, Region.wanted, yielded]; go_simp; first | done | exact hC0 | exact ⟨rfl, hC0⟩ | omega | (refine ⟨by simp <;> omega, hC0⟩)
                            | 1 => simp at ho; subst ho; simp [gwp, Region.wanted, yielded]; go_simp; first | done | exact hC0 | exact ⟨rfl, hC0⟩ | omega | (refine ⟨by simp <;> omega, hC0⟩)
                            | 2 => simp at ho; subst ho; simp [gwp, Region.wanted, yielded]; go_simp; first | done | exact hC0 | exact ⟨rfl, hC0⟩ | omega | (refine ⟨by simp <;> omega, hC0⟩)
                            | 3 => simp at ho; subst ho; simp [gwp, Region.wanted, yielded]; go_simp; first | done | exact hC0 | exact ⟨rfl, hC0⟩ | omega | (refine ⟨by simp <;> omega, hC0⟩)
                            | 4 => simp at ho; subst ho; simp [gwp, Region.wanted, yielded]; go_simp; first | done | exact hC0 | exact ⟨rfl, hC0⟩ | omega | (refine ⟨by simp <;> omega, hC0⟩)
                            | 5 => simp at ho; subst ho; simp [gwp, Region.wanted, yielded]; go_simp; first | done | exact hC0 | exact ⟨rfl, hC0⟩ | omega | (refine ⟨by simp <;> omega, hC0⟩)
                            | 6 => simp at ho; subst ho; simp [gwp, Region.wanted, yielded]; go_simp; first | done | exact hC0 | exact ⟨rfl, hC0⟩ | omega | (refine ⟨by simp <;> omega, hC0⟩)
                            | 7 =>
                              simp at ho; subst ho; simp [gwp, Region.wanted, yielded]; go_simp
                              refine (l2Some_any (some ⟨pb, po, none⟩) l cap room (some ⟨sb, so, none⟩) set sc ra ROW rc (-1) (unhide HIN) x ((unhide HP).on bx) ((unhide HS).on bx) ((unhide HRQ).on bx)).mono ?_
                              rintro e w' ⟨rfl, hb2⟩
                              go_simp
                              first | done | exact hC.on hb2 | exact ⟨rfl, hC.on hb2⟩
                            | i + 8 => omega
                          · intro full hfull us j hj
                            simp at hj
                          · intro full hfull us w5 hus hC
                            simp [putAll, slotOf, Act.put] at hfull
                            subst hfull
                            match us, hus with
                            | [], _ =>
                            have HB5 := hide ((unhide HBX).trans (hC.below.mono (unhide HBX).size))
                            have HW5 := hide ((unhide HBX0).trans (hC.below.mono (unhide HBX0).size))
                            clear hC x0 x1 g3 d0
                            simp [putP]
                            cases hrw : someB l set ROW (-1) with
                            | false =>
                              have HE := hide (unhide HNO (unhide HNO2 hrw))
                              go_wp2_with fail
                              go_ret
                              exact ⟨ret_bool (unhide HE).symm, unhide HW5⟩
                            | true =>
                              go_wp2_with fail
                              go_roundw
                              case rel => exact ⟨j + 1, by omega, by go_num, by show _ = true; rw [unhide HTK, unhide HJ, hrw]; rfl, unhide HB5⟩
                              case measure => simp [intOf]; omega
                        · have j2 : ¬ (j : Int) < (P.deps.length : Int) := by omega
                          have hje : j = P.deps.length := by omega
                          subst hje
                          have h1 := unhide HJ
                          rw [List.take_length] at h1
                          have HN' := hide ((unhide HALL).trans (by rw [unhide HN, unhide HPL2, h1, Bool.and_self]))
                          clear h1
                          go_wp2_with fail
                          go_roundw
                          case rel => exact ⟨k + 1, by omega, by go_num, unhide HN', (unhide HB01).trans (((unhide HB3).trans ((unhide HBX).mono (unhide HB3).size)).mono (unhide HB01).size)⟩
                          case measure => simp [intOf]; omega
          · have j1 : ¬ (k : Int) < (set.length : Int) := by omega
            have hke : k = set.length := by omega
            subst hke
            go_wp2_with fail
            go_ret
            exact ⟨ret_bool (by rw [unhide HOK3]; exact (unhide HN).symm), (unhide HB2).trans ((unhide HB).mono (unhide HB2).size)⟩
      · have hnl : room < zz := by omega
        have HE := hide (show specOk l room set = false by rw [unhide HOK2]; simp [hle])
        go_wp2_with fail
        go_ret
        exact ⟨ret_bool (unhide HE).symm, unhide HB2⟩
end Go.Proofs.YthkhaemlcmkkjaxGreat
