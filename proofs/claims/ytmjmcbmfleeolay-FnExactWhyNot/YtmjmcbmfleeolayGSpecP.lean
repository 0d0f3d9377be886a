/- The specification's StateOk. The specification's StateOk, all of it. -/
import Derived.Test.YtmjmcbmfleeolayGStA
import Derived.Test.YtmjmcbmfleeolayGForm
namespace Go.Proofs.Ytmjmcbmfleeolay
set_option linter.unusedVariables false
set_option linter.unusedSimpArgs false
open Go.RowKit Go.Deep

theorem any_take_succ {α : Type} {l : List α} {d : α} {f : α → Bool} {k : Nat} (h : k < l.length) : (l.take (k + 1)).any f = ((l.take k).any f || f (l.getD k d)) := by
  rw [List.take_succ_eq_append_getElem h, List.any_append]
  simp [List.getD, h]
theorem any_of_take {α : Type} {l : List α} {d : α} {f : α → Bool} {k : Nat} (h : k < l.length) (hf : f (l.getD k d) = true) : l.any f = true := by
  rw [List.any_eq_true]
  exact ⟨_, getD_mem h, hf⟩
/-- All along a statement that only reads, and lays memory of its own. -/
structure C0 (W : World) (b : Bool) (us : List Value) (x : World) : Prop where
  below : Below W.heap.size W x
theorem C0.on {W : World} {b b' : Bool} {us : List Value} {x y : World} (h : C0 W b us x) (hb : Below x.heap.size x y) : C0 W b' us y := ⟨h.below.trans (hb.mono h.below.size)⟩
/-- Place i of a state is not left out, and its pack fits one of some requests. -/
def oneB (l : List PackD) (set : List Int) (reqs : List ReqD) (no : Int) (i : Nat) : Bool := decide (set.getD i 0 ≠ no) && anyB reqs (l.getD (set.getD i 0).toNat dPack)
def someB (l : List PackD) (set : List Int) (reqs : List ReqD) (no : Int) : Bool := (List.range set.length).any (oneB l set reqs no)

set_option maxRecDepth 100000 in
set_option maxHeartbeats 4000000 in
theorem l2Some_any (a : Option Addr) (l : List PackD) (cap : Nat) (room : Int) (sa : Option Addr) (set : List Int) (sc : Nat) (ra : Option Addr) (reqs : List ReqD) (rc : Nat) (no : Int) (hin : ∀ i, i < set.length → 0 ≤ set.getD i 0 ∧ set.getD i 0 < l.length) (w : World) (h : PacksAt (Old w) w a l) (hs : SetAt w sa set) (hr : ReqsAt (Old w) w ra reqs) :
    Calls Try.prog 29 #[.agg #[.slice a l.length cap, .int .i64 room], .slice sa set.length sc, .slice ra reqs.length rc, .int .i64 no] w fun e w' => e = .returned (.bool (someB l set reqs no)) ∧ Below w.heap.size w w' := by
  have hsl := hs.1
  have hm := h.1
  have hrm := hr.1
  unfold maxLen at hm hrm
  have bA := (Below.refl w.heap.size w).alloc (Nat.le_refl _) (.cells #[.slice a l.length cap, .int .i64 room] 31)
  have HP := hide h
  have HS := hide hs
  have HR := hide hr
  have HIN := hide hin
  clear h hs hr hin
  go_enter Try.func29, Try.ntmps29
  go_wp2_with fail
  obtain ⟨w0, hw0⟩ : ∃ w0, w0 = w.alloc (.cells #[.slice a l.length cap, .int .i64 room] 31) := ⟨_, rfl⟩
  have x0 : w0.cell? ⟨w.heap.size, 0, none⟩ = some (.slice a l.length cap) := by rw [hw0]; simp
  have z0 : w0.heap.size = w.heap.size + 1 := by rw [hw0]; simp
  rw [← hw0] at bA ⊢
  have HA := hide bA
  clear hw0 bA
  go_loopw [9] (fun i wr => ∃ k : Nat, k ≤ set.length ∧ i = .int .i64 k ∧ Hid ((List.range k).any (oneB l set reqs no) = false) ∧ Hid (Below w0.heap.size w0 wr)) (fun i _ => set.length - (intOf i).toNat)
  case atStart => exact ⟨0, Nat.zero_le _, rfl, rfl, Below.refl _ _⟩
  case round =>
    rename World => wo
    obtain ⟨k, hk, rfl, HN, HB⟩ := hrel
    by_cases hlt : k < set.length
    · have j1 : (k : Int) < (set.length : Int) := by omega
      have hkin := unhide HIN k hlt
      have hone : oneB l set reqs no k = (decide (set.getD k 0 ≠ no) && anyB reqs (l.getD (set.getD k 0).toNat dPack)) := rfl
      rcases (unhide HS).2 with hnil | ⟨b, o, rfl, hbl, hsc⟩
      · rw [hnil] at hlt; simp at hlt
      have c0 := hsc k hlt
      generalize hZ : set.getD k 0 = z at c0 hkin hone
      obtain ⟨p, rfl⟩ : ∃ p : Nat, z = (p : Int) := ⟨z.toNat, by omega⟩
      have hpl : p < l.length := by omega
      rcases (unhide HP).2 with hnil | ⟨pb, po, rfl, hpS, hpk⟩
      · rw [hnil] at hpl; simp at hpl
      obtain ⟨a1, c1, a2, c2, a3, c3, hcells, _⟩ := hpk p hpl
      have hone' : oneB l set reqs no k = (decide ((p : Int) ≠ no) && anyB reqs (l.getD p dPack)) := by rw [hone]; simp
      generalize hPP : l.getD p dPack = P at hcells hone'
      have HCE := hide hcells
      have HONE := hide hone'
      have hpw : pb < w.heap.size := hpS
      clear hsc hpk hcells hone hone' hPP
      have HC0 := hide c0
      clear c0
      go_wp2_with fail
      go_loopw [10] (fun i wr => ∃ j : Nat, j ≤ reqs.length ∧ i = .int .i64 j ∧ Hid ((reqs.take j).any (fun q => decide ((p : Int) ≠ no) && fitsB q P) = false) ∧ Hid (Below w0.heap.size w0 wr)) (fun i _ => reqs.length - (intOf i).toNat)
      case atStart => exact ⟨0, Nat.zero_le _, rfl, rfl, HB⟩
      case round =>
        rename World => wx
        obtain ⟨j, hj, rfl, HJ, HBX⟩ := hrel
        by_cases hjl : j < reqs.length
        · have j2 : (j : Int) < (reqs.length : Int) := by omega
          rcases (unhide HR).2 with hnil | ⟨rb, ro, rfl, hrS, hrk⟩
          · rw [hnil] at hjl; simp at hjl
          obtain ⟨q0, q1, q2, _⟩ := hrk j hjl
          have htk := any_take_succ (d := dReq) (f := fun q => decide ((p : Int) ≠ no) && fitsB q P) hjl
          have hres : fitsB (reqs.getD j dReq) P = true → (p : Int) ≠ no → someB l set reqs no = true := fun h1 h2 => by
            unfold someB
            rw [List.any_eq_true]
            refine ⟨k, List.mem_range.2 hlt, ?_⟩
            rw [unhide HONE]
            unfold anyB
            rw [any_of_take hjl h1]
            simp [h2]
          generalize reqs.getD j dReq = Q at q0 q1 q2 htk hres
          have HTK := hide htk
          have HRES := hide hres
          have hrw : rb < w.heap.size := hrS
          have bx : Below w.heap.size w wx := (unhide HA).trans ((unhide HBX).mono (by omega))
          have y0 : wx.cell? ⟨w.heap.size, 0, none⟩ = some (.slice (some ⟨pb, po, none⟩) l.length cap) := ((unhide HBX).cell (p := ⟨w.heap.size, 0, none⟩) (by simp; omega)).trans x0
          have c0 := (bx.cell (p := ⟨b, o + k, none⟩) hbl).trans (unhide HC0)
          obtain ⟨p0, p1, p2, p3, p4, p5⟩ := (unhide HCE).stay (bx.block pb hpw)
          rw [← bx.cell (p := ⟨rb, _, none⟩) hrw] at q0 q1 q2
          have HCL := hide (And.intro y0 (And.intro c0 (And.intro p0 (And.intro p1 (And.intro p2 (And.intro p3 (And.intro p4 (And.intro p5 (And.intro q0 (And.intro q1 q2))))))))))
          have hltb : b < wx.heap.size := by have := bx.size; omega
          have hltp : pb < wx.heap.size := by have := bx.size; omega
          have hltr : rb < wx.heap.size := by have := bx.size; omega
          have hltw : w.heap.size < wx.heap.size := by have := (unhide HBX).size; omega
          have hpi : (p : Int) < (l.length : Int) := by omega
          have hp0 : (0 : Int) ≤ (p : Int) := by omega
          clear htk hres bx hrk c0 p0 p1 p2 p3 p4 p5 q0 q1 q2 y0
          by_cases hno : (p : Int) = no
          · have hnb : ((p : Int) != no) = false := by simp [hno]
            have e1 : (reqs.take (j + 1)).any (fun q => decide ((p : Int) ≠ no) && fitsB q P) = false := by rw [unhide HTK, unhide HJ]; simp [hno]
            have HE1 := hide e1
            clear e1 HTK HRES
            go_wp2_with fail
            refine wp_region_mix (k := 100) 20 [] [.slice (some ⟨b, o, none⟩) set.length sc, .int .i64 (k : Int), .pointer (some ⟨b, o + k, none⟩), .int .i64 (p : Int), .int .i64 no, .bool false, .bool false, undef, undef, undef, undef, undef, undef, undef, undef, undef, undef, undef, undef, undef] (C0 wx) (by kernel_rfl) (by kernel_rfl) (by kernel_rfl) (by kernel_rfl) (by kernel_rfl) (by kernel_rfl) ⟨(Below.refl _ _).drew⟩ ?_ ?_ ?_
            · intro full hfull i oo hi hns ho x fl us hC hb
              simp [putAll, slotOf, Act.put] at hfull
              subst hfull
              obtain ⟨y0, c0, p0, p1, p2, p3, p4, p5, q0, q1, q2⟩ := unhide HCL
              have hq := hC.below
              rw [← hq.cell (p := ⟨w.heap.size, _, none⟩) hltw] at y0
              rw [← hq.cell (p := ⟨b, _, none⟩) hltb] at c0
              rw [← hq.cell (p := ⟨pb, _, none⟩) hltp] at p0 p1 p2 p3 p4 p5
              rw [← hq.cell (p := ⟨rb, _, none⟩) hltr] at q0 q1 q2
              have hC0 := hC.on (b' := fl) (Below.refl _ _)
              match i with
              | 0 => simp at ho; subst ho; simp [gwp, Region.wanted, yielded]; go_simp; first | done | exact hC0 | exact ⟨rfl, hC0⟩
              | 1 => simp at ho; subst ho; simp [gwp, Region.wanted, yielded]; go_simp; first | done | exact hC0 | exact ⟨rfl, hC0⟩
              | 2 => simp at ho; subst ho; simp [gwp, Region.wanted, yielded]; go_simp; first | done | exact hC0 | exact ⟨rfl, hC0⟩
              | 3 => simp at ho; subst ho; simp [gwp, Region.wanted, yielded]; go_simp; first | done | exact hC0 | exact ⟨rfl, hC0⟩
              | 4 => simp at ho; subst ho; simp [gwp, Region.wanted, yielded]; go_simp; first | done | exact hC0 | exact ⟨rfl, hC0⟩
              | 5 => simp at ho; subst ho; simp [gwp, Region.wanted, yielded]; go_simp; first | done | exact hC0 | exact ⟨rfl, hC0⟩
              | 6 => simp at ho; subst ho; simp [gwp, Region.wanted, yielded]; go_simp; first | done | exact hC0 | exact ⟨rfl, hC0⟩
              | 7 => simp at ho; subst ho; simp [gwp, Region.wanted, yielded]; go_simp; first | done | exact hC0 | exact ⟨rfl, hC0⟩
              | 8 => simp at ho; subst ho; simp [gwp, Region.wanted, yielded]; go_simp; first | done | exact hC0 | exact ⟨rfl, hC0⟩
              | 9 => simp at ho; subst ho; simp [gwp, Region.wanted, yielded]; go_simp; first | done | exact hC0 | exact ⟨rfl, hC0⟩
              | 10 => simp at ho; subst ho; simp [gwp, Region.wanted, yielded]; go_simp; first | done | exact hC0 | exact ⟨rfl, hC0⟩
              | 11 => simp at ho; subst ho; simp [gwp, Region.wanted, yielded]; go_simp; first | done | exact hC0 | exact ⟨rfl, hC0⟩
              | 12 => simp at ho; subst ho; simp [gwp, Region.wanted, yielded]; go_simp; first | done | exact hC0 | exact ⟨rfl, hC0⟩
              | 13 => simp at ho; subst ho; simp [gwp, Region.wanted, yielded]; go_simp; first | done | exact hC0 | exact ⟨rfl, hC0⟩
              | 14 => simp at ho; subst ho; simp [gwp, Region.wanted, yielded]; go_simp; first | done | exact hC0 | exact ⟨rfl, hC0⟩
              | 15 => simp at ho; subst ho; simp [gwp, Region.wanted, yielded]; go_simp; first | done | exact hC0 | exact ⟨rfl, hC0⟩
              | 16 => simp at ho; subst ho; simp [gwp, Region.wanted, yielded]; go_simp; first | done | exact hC0 | exact ⟨rfl, hC0⟩
              | 17 => simp at ho; subst ho; simp [gwp, Region.wanted, yielded]; go_simp; first | done | exact hC0 | exact ⟨rfl, hC0⟩
              | 18 => simp at ho; subst ho; simp [gwp, Region.wanted, yielded]; go_simp; first | done | exact hC0 | exact ⟨rfl, hC0⟩
              | 19 => simp at ho; subst ho; simp [gwp, Region.wanted, yielded]; go_simp; first | done | exact hC0 | exact ⟨rfl, hC0⟩
              | i + 20 => omega
            · intro full hfull us j hj
              simp at hj
            · intro full hfull us w2 hus hC
              simp [putAll, slotOf, Act.put] at hfull
              subst hfull
              match us, hus with
              | [], _ =>
              have HB2 := hide ((unhide HBX).trans (hC.below.mono (unhide HBX).size))
              clear hC
              simp [putP]
              go_wp2_with fail
              go_roundw
              case rel => exact ⟨j + 1, by omega, by go_num, unhide HE1, unhide HB2⟩
              case measure => simp [intOf]; omega
          · have hnb : ((p : Int) != no) = true := by simp [hno]
            have hst : (reqs.take (j + 1)).any (fun q => decide ((p : Int) ≠ no) && fitsB q P) = fitsB Q P := by rw [unhide HTK, unhide HJ]; simp [hno]
            have HST := hide hst
            have HR2 := hide (fun h => unhide HRES h hno)
            clear hst HTK HRES
            go_wp2_with fail
            refine wp_region_mix (k := 100) 20 [] [.slice (some ⟨b, o, none⟩) set.length sc, .int .i64 (k : Int), .pointer (some ⟨b, o + k, none⟩), .int .i64 (p : Int), .int .i64 no, .bool true, .bool true, .pointer (some ⟨w.heap.size, 0, none⟩), .slice (some ⟨pb, po, none⟩) l.length cap, .slice (some ⟨b, o, none⟩) set.length sc, .int .i64 (k : Int), .pointer (some ⟨b, o + k, none⟩), .int .i64 (p : Int), .pointer (some ⟨pb, po + p * 6, none⟩), .agg #[.string P.name, .int .i64 P.ver, .int .i64 P.size, .slice a1 P.deps.length c1, .slice a2 P.pres.length c2, .slice a3 P.bans.length c3], .slice (some ⟨rb, ro, none⟩) reqs.length rc, .int .i64 (j : Int), .pointer (some ⟨rb, ro + j * 3, none⟩), .agg #[.string Q.name, .int .i64 Q.low, .int .i64 Q.high], .bool (fitsB Q P)] (C0 wx) (by kernel_rfl) (by kernel_rfl) (by kernel_rfl) (by kernel_rfl) (by kernel_rfl) (by kernel_rfl) ⟨(Below.refl _ _).drew⟩ ?_ ?_ ?_
            · intro full hfull i oo hi hns ho x fl us hC hb
              simp [putAll, slotOf, Act.put] at hfull
              subst hfull
              obtain ⟨y0, c0, p0, p1, p2, p3, p4, p5, q0, q1, q2⟩ := unhide HCL
              have hq := hC.below
              rw [← hq.cell (p := ⟨w.heap.size, _, none⟩) hltw] at y0
              rw [← hq.cell (p := ⟨b, _, none⟩) hltb] at c0
              rw [← hq.cell (p := ⟨pb, _, none⟩) hltp] at p0 p1 p2 p3 p4 p5
              rw [← hq.cell (p := ⟨rb, _, none⟩) hltr] at q0 q1 q2
              have hC0 := hC.on (b' := fl) (Below.refl _ _)
              match i with
              | 0 => simp at ho; subst ho; simp [gwp, Region.wanted, yielded]; go_simp; first | done | exact hC0 | exact ⟨rfl, hC0⟩
              | 1 => simp at ho; subst ho; simp [gwp, Region.wanted, yielded]; go_simp; first | done | exact hC0 | exact ⟨rfl, hC0⟩
              | 2 => simp at ho; subst ho; simp [gwp, Region.wanted, yielded]; go_simp; first | done | exact hC0 | exact ⟨rfl, hC0⟩
              | 3 => simp at ho; subst ho; simp [gwp, Region.wanted, yielded]; go_simp; first | done | exact hC0 | exact ⟨rfl, hC0⟩
              | 4 => simp at ho; subst ho; simp [gwp, Region.wanted, yielded]; go_simp; first | done | exact hC0 | exact ⟨rfl, hC0⟩
              | 5 => simp at ho; subst ho; simp [gwp, Region.wanted, yielded]; go_simp; first | done | exact hC0 | exact ⟨rfl, hC0⟩
              | 6 => simp at ho; subst ho; simp [gwp, Region.wanted, yielded]; go_simp; first | done | exact hC0 | exact ⟨rfl, hC0⟩
              | 7 => simp at ho; subst ho; simp [gwp, Region.wanted, yielded]; go_simp; first | done | exact hC0 | exact ⟨rfl, hC0⟩
              | 8 => simp at ho; subst ho; simp [gwp, Region.wanted, yielded]; go_simp; first | done | exact hC0 | exact ⟨rfl, hC0⟩
              | 9 => simp at ho; subst ho; simp [gwp, Region.wanted, yielded]; go_simp; first | done | exact hC0 | exact ⟨rfl, hC0⟩
              | 10 => simp at ho; subst ho; simp [gwp, Region.wanted, yielded]; go_simp; first | done | exact hC0 | exact ⟨rfl, hC0⟩
              | 11 => simp at ho; subst ho; simp [gwp, Region.wanted, yielded]; go_simp; first | done | exact hC0 | exact ⟨rfl, hC0⟩
              | 12 => simp at ho; subst ho; simp [gwp, Region.wanted, yielded]; go_simp; first | done | exact hC0 | exact ⟨rfl, hC0⟩
              | 13 => simp at ho; subst ho; simp [gwp, Region.wanted, yielded]; go_simp; first | done | exact hC0 | exact ⟨rfl, hC0⟩
              | 14 => simp at ho; subst ho; simp [gwp, Region.wanted, yielded]; go_simp; first | done | exact hC0 | exact ⟨rfl, hC0⟩
              | 15 => simp at ho; subst ho; simp [gwp, Region.wanted, yielded]; go_simp; first | done | exact hC0 | exact ⟨rfl, hC0⟩
              | 16 => simp at ho; subst ho; simp [gwp, Region.wanted, yielded]; go_simp; first | done | exact hC0 | exact ⟨rfl, hC0⟩
              | 17 => simp at ho; subst ho; simp [gwp, Region.wanted, yielded]; go_simp; first | done | exact hC0 | exact ⟨rfl, hC0⟩
              | 18 => simp at ho; subst ho; simp [gwp, Region.wanted, yielded]; go_simp; first | done | exact hC0 | exact ⟨rfl, hC0⟩
              | 19 =>
                simp at ho; subst ho; simp [gwp, Region.wanted, yielded]; go_simp
                refine (l1Fits_any P Q a1 c1 a2 c2 a3 c3 x).mono ?_
                rintro e w' ⟨rfl, hb2⟩
                go_simp
                first | done | exact hC.on hb2 | exact ⟨rfl, hC.on hb2⟩
              | i + 20 => omega
            · intro full hfull us j hj
              simp at hj
            · intro full hfull us w2 hus hC
              simp [putAll, slotOf, Act.put] at hfull
              subst hfull
              match us, hus with
              | [], _ =>
              have HB2 := hide ((unhide HBX).trans (hC.below.mono (unhide HBX).size))
              clear hC
              simp [putP]
              cases hfit : fitsB Q P with
              | true =>
                go_wp2_with fail
                go_ret
                exact ⟨ret_bool (unhide HR2 hfit).symm, (unhide HA).trans ((unhide HB2).mono (by omega))⟩
              | false =>
                go_wp2_with fail
                go_roundw
                case rel => exact ⟨j + 1, by omega, by go_num, (unhide HST).trans hfit, unhide HB2⟩
                case measure => simp [intOf]; omega
        · have j2 : ¬ (j : Int) < (reqs.length : Int) := by omega
          have hje : j = reqs.length := by omega
          subst hje
          have e1 : (List.range (k + 1)).any (oneB l set reqs no) = false := by
            rw [List.range_succ, List.any_append, unhide HN]
            simp only [List.any_cons, List.any_nil, Bool.or_false, Bool.false_or]
            rw [unhide HONE]
            have h1 := unhide HJ
            rw [List.take_length] at h1
            unfold anyB
            rw [Bool.and_eq_false_iff]
            by_cases hno : (p : Int) = no
            · left; simp [hno]
            · right
              rw [List.any_eq_false] at h1 ⊢
              intro q hq
              have := h1 q hq
              simpa [hno] using this
          have HE1 := hide e1
          clear e1
          go_wp2_with fail
          go_roundw
          case rel => exact ⟨k + 1, by omega, by go_num, unhide HE1, unhide HBX⟩
          case measure => simp [intOf]; omega
    · have j1 : ¬ (k : Int) < (set.length : Int) := by omega
      have hke : k = set.length := by omega
      subst hke
      go_wp2_with fail
      go_ret
      exact ⟨ret_bool (unhide HN).symm, (unhide HA).trans ((unhide HB).mono (by omega))⟩
end Go.Proofs.Ytmjmcbmfleeolay

namespace Go.Proofs.Ytmjmcbmfleeolay
set_option linter.unusedVariables false
set_option linter.unusedSimpArgs false
open Go.RowKit Go.Deep

def packOf (l : List PackD) (set : List Int) (i : Nat) : PackD := l.getD (set.getD i 0).toNat dPack
/-- Place i of a state is as it should be. -/
def twiceB (l : List PackD) (set : List Int) (i : Nat) : Bool := decide (0 < i) && ((packOf l set (i - 1)).name.toList == (packOf l set i).name.toList)
def placeOk (l : List PackD) (set : List Int) (i : Nat) : Bool := !twiceB l set i && !someB l set (packOf l set i).bans (set.getD i 0) && (packOf l set i).deps.all (fun row => someB l set row (-1))
def specOk (l : List PackD) (room : Int) (set : List Int) : Bool := formB l room set && decide (sumTo l set set.length ≤ room) && (List.range set.length).all (placeOk l set)

/-- All along a statement that lays one variable. -/
structure C8 (W : World) (b : Bool) (us : List Value) (x : World) : Prop where
  below : Below W.heap.size W x
  fresh : ∀ y, us = [y] → ∃ g, y = .pointer (some ⟨g, 0, none⟩) ∧ W.heap.size ≤ g ∧ x.heap[g]? = some (.cells #[.string ByteArray.empty, .int .i64 0, .int .i64 0, .slice none 0 0, .slice none 0 0, .slice none 0 0] 62 (0, 0))
theorem C8.on {W : World} {b b' : Bool} {us : List Value} {x y : World} (h : C8 W b us x) (hb : Below x.heap.size x y) : C8 W b' us y := by
  refine ⟨h.below.trans (hb.mono h.below.size), fun z hz => ?_⟩
  obtain ⟨g, h1, h2, h3⟩ := h.fresh z hz
  exact ⟨g, h1, h2, (hb.block g (Array.getElem?_eq_some_iff.1 h3).1).trans h3⟩

/-- Six cells written. -/
def set6 (w : World) (g : Nat) (v0 v1 v2 v3 v4 v5 : Value) : World := (((((w.setCell ⟨g, 0, none⟩ v0).setCell ⟨g, 1, none⟩ v1).setCell ⟨g, 2, none⟩ v2).setCell ⟨g, 3, none⟩ v3).setCell ⟨g, 4, none⟩ v4).setCell ⟨g, 5, none⟩ v5
theorem set6_facts {w : World} {g : Nat} {T : TypeId} {r0 r1 r2 r3 r4 r5 : Value} (h : w.heap[g]? = some (.cells #[r0, r1, r2, r3, r4, r5] T (0, 0))) (v0 v1 v2 v3 v4 v5 : Value) :
    (set6 w g v0 v1 v2 v3 v4 v5).heap[g]? = some (.cells #[v0, v1, v2, v3, v4, v5] T (0, 0)) ∧ w.grownBy (set6 w g v0 v1 v2 v3 v4 v5) (some g) := by
  have one : ∀ (x : World) (o : Nat) (v : Value), x.grownBy (x.setCell ⟨g, o, none⟩ v) (some g) := fun x o v => ⟨rfl, rfl, rfl, by rw [nblk_setCell]; exact Nat.le_refl _, fun b hb hne => blk_setCell_other _ _ _ _ (fun e => hne (by rw [show b = g from e]))⟩
  refine ⟨?_, ?_⟩
  · unfold set6
    rw [blk_set (blk_set (blk_set (blk_set (blk_set (blk_set h 0 _) 1 _) 2 _) 3 _) 4 _) 5 _]
    rfl
  · exact (((((one w 0 v0).trans (one _ 1 v1)).trans (one _ 2 v2)).trans (one _ 3 v3)).trans (one _ 4 v4)).trans (one _ 5 v5)

end Go.Proofs.Ytmjmcbmfleeolay
