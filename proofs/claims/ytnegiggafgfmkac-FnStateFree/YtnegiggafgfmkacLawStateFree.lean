/- The walk of the law FnStateFree: of every code it answers true, and writes nothing that was there. -/
import Derived.Test.YtnegiggafgfmkacGDrawT
import Derived.Test.YtnegiggafgfmkacGLd
import Derived.Test.YtnegiggafgfmkacLdFree
namespace Go.Proofs.Ytnegiggafgfmkac
set_option linter.unusedVariables false
set_option linter.unusedSimpArgs false
open Go.RowKit Go.Deep

theorem free_pack {p : PackD} (h : packB p = true) : packB (freeP p) = true := by
  simp only [packB, freeP, Bool.and_eq_true] at h ⊢
  simp [h, reqsB]
theorem free_repo {l : List PackD} {room : Int} (h : repoB ⟨l, room⟩ = true) : repoB ⟨l.map freeP, room⟩ = true := by
  simp only [repoB, Bool.and_eq_true, decide_eq_true_eq] at h ⊢
  obtain ⟨⟨⟨h1, h2⟩, h3⟩, h4⟩ := h
  refine ⟨⟨⟨by simpa using h1, h2⟩, ?_⟩, ?_⟩
  · rw [List.all_eq_true] at h3 ⊢
    intro p hp
    obtain ⟨q, hq, rfl⟩ := List.mem_map.1 hp
    exact free_pack (h3 q hq)
  · unfold ascB at h4 ⊢
    rw [List.all_eq_true] at h4 ⊢
    intro i hi
    have hi' := List.mem_range.1 hi
    simp at hi'
    have := h4 i (List.mem_range.2 (by omega))
    have e : ∀ j, j < l.length → (l.map freeP).getD j dPack = freeP (l.getD j dPack) := fun j hj => by simp [List.getD, hj]
    rw [e i (by omega), e (i + 1) (by omega)]
    exact this
theorem free_at {l : List PackD} (j : Nat) : (l.map freeP).getD j dPack = freeP (l.getD j dPack) := by
  simp only [List.getD, List.getElem?_map]
  cases l[j]? <;> rfl
theorem free_form {l : List PackD} {room : Int} {set : List Int} (h : repoB ⟨l, room⟩ = true) : formB (l.map freeP) room set = formB l room set := by
  unfold formB
  rw [free_repo h, h, List.length_map]
theorem free_sum (l : List PackD) (set : List Int) : ∀ k, sumTo (l.map freeP) set k = sumTo l set k
  | 0 => rfl
  | k + 1 => by simp only [sumTo, free_sum l set k, free_at, freeP]
theorem free_twice (l : List PackD) (set : List Int) (i : Nat) : twiceB (l.map freeP) set i = twiceB l set i := by
  unfold twiceB packOf
  rw [free_at, free_at]
  rfl
theorem free_place (l : List PackD) (set : List Int) {i : Nat} (hi : i < set.length) : placeOk (l.map freeP) set i = !twiceB (l.map freeP) set i := by
  unfold placeOk packOf
  rw [free_at]
  have : ∀ no, someB (l.map freeP) set [] no = false := fun no => by
    unfold someB oneB anyB
    simp
  simp [freeP, this]
def goodZ (l : List PackD) (room : Int) (set : List Int) (k : Nat) : Bool := decide (0 ≤ sizeZ l room set) && decide (sizeZ l room set ≤ room) && (List.range k).all (fun i => !twiceB l set i)
theorem good_succ (l : List PackD) (room : Int) (set : List Int) (k : Nat) : goodZ l room set (k + 1) = (goodZ l room set k && !twiceB l set k) := by
  unfold goodZ
  rw [List.range_succ, List.all_append]
  simp [Bool.and_assoc]
theorem good_one (l : List PackD) (room : Int) (set : List Int) : goodZ l room set 1 = (decide (0 ≤ sizeZ l room set) && decide (sizeZ l room set ≤ room)) := by
  unfold goodZ
  simp [twiceB]
theorem good_false {l : List PackD} {room : Int} {set : List Int} {k m : Nat} (h : goodZ l room set k = false) (hk : k ≤ m) : goodZ l room set m = false := by
  induction m with
  | zero => rw [show k = 0 by omega] at h; exact h
  | succ m ih =>
    rcases Nat.lt_or_ge m k with h1 | h1
    · rw [show m + 1 = k by omega]; exact h
    · rw [good_succ, ih h1]; rfl
theorem free_good {l : List PackD} {room : Int} {set : List Int} (h : repoB ⟨l, room⟩ = true) : okZ (l.map freeP) room set = goodZ (l.map freeP) room set set.length := by
  rw [← spec_okZ]
  unfold specOk goodZ sizeZ
  cases hf : formB (l.map freeP) room set with
  | false => simp
  | true =>
    have hs := (sum_bound hf set.length (Nat.le_refl _)).1
    simp only [Bool.true_and, if_true, hs, decide_true]
    congr 1
    rw [Bool.eq_iff_iff, List.all_eq_true, List.all_eq_true]
    constructor
    · intro ha i hi
      rw [← free_place l set (List.mem_range.1 hi)]
      exact ha i hi
    · intro ha i hi
      rw [free_place l set (List.mem_range.1 hi)]
      exact ha i hi
theorem good_full {l : List PackD} {room : Int} {set : List Int} {k : Nat} (h1 : 1 ≤ k) (hk : k ≤ set.length ∨ k = 1) (hd : ¬ k < set.length) : goodZ l room set k = goodZ l room set set.length := by
  rcases hk with hk | hk
  · rw [show k = set.length by omega]
  · subst hk
    rcases Nat.lt_or_ge 0 set.length with h2 | h2
    · rw [show set.length = 1 by omega]
    · rw [show set.length = 0 by omega, show (1 : Nat) = 0 + 1 from rfl, good_succ]
      simp [twiceB]
theorem free_of_ok {l : List PackD} {room : Int} {set : List Int} (h : okZ l room set = true) : okZ (l.map freeP) room set = true := by
  have hf := ok_form h
  have hr : repoB ⟨l, room⟩ = true := by
    unfold formB at hf
    rw [Bool.and_eq_true] at hf
    exact hf.2
  rw [← spec_okZ] at h ⊢
  unfold specOk at h ⊢
  rw [free_form hr, free_sum]
  simp only [Bool.and_eq_true] at h ⊢
  refine ⟨h.1, ?_⟩
  have h2 := h.2
  rw [List.all_eq_true] at h2 ⊢
  intro i hi
  have := h2 i hi
  rw [free_place l set (List.mem_range.1 hi), free_twice]
  unfold placeOk at this
  simp only [Bool.and_eq_true] at this
  exact this.1.1

set_option maxRecDepth 100000 in
set_option maxHeartbeats 8000000 in
theorem free_any (a : Option Addr) (n c : Nat) (w : World) (h : CodeAt w.heap.size w a n) (hc : n ≤ c) (hc2 : c ≤ maxLen) :
    Calls Try.prog 3 #[.slice a n c] w fun e w' => e = .returned (.bool true) ∧ Below w.heap.size w w' := by
  have hmx := hc2
  unfold maxLen at hmx
  by_cases hbig : 1048576 < n
  · have hb' : (1048576 : Int) < (n : Int) := by omega
    go_enter Try.func3, Try.ntmps3
    go_wp2_with fail
    go_ret
    exact ⟨rfl, Below.refl _ _⟩
  have hb' : ¬ (1048576 : Int) < (n : Int) := by omega
  go_enter Try.func3, Try.ntmps3
  go_wp2_with fail
  refine (DrawStateOk_V a n c w h (by omega) hc hc2).mono ?_
  rintro e w1 ⟨⟨v, room, u, rfl, hV, set, hrow, hsl⟩, b1⟩
  obtain ⟨va, vn, vc, rfl, _⟩ := SlBy.slice hV
  obtain ⟨l, rfl, hP⟩ := V2.packs hV
  obtain ⟨sa, sc, hu, hset⟩ := RowI.set hrow (by omega)
  subst hu
  have HP1 := hide hP
  have HS1 := hide hset
  have HB1 := hide b1
  clear hV hrow hP hset b1 h
  go_upto_region 4 with fail
  obtain ⟨w2, hw2⟩ : ∃ w2, w2 = w1.alloc (.cells #[.slice va l.length vc, .int .i64 room] 25) := ⟨_, rfl⟩
  rw [← hw2]
  have b2 : Below w1.heap.size w1 w2 := by rw [hw2]; exact (Below.refl _ _).alloc (Nat.le_refl _) _
  have x0 : w2.cell? ⟨w1.heap.size, 0, none⟩ = some (.slice va l.length vc) := by rw [hw2]; simp
  have x1 : w2.cell? ⟨w1.heap.size, 1, none⟩ = some (.int .i64 room) := by rw [hw2]; simp
  have hlt2 : w1.heap.size < w2.heap.size := by rw [hw2]; simp
  have HP2 := hide ((unhide HP1).on b2)
  have HS2 := hide ((unhide HS1).on b2)
  have HB2 := hide ((unhide HB1).trans (b2.mono (unhide HB1).size))
  clear hw2 b2 HP1 HS1 HB1
  have CI := hide (fun x (hx : Below w2.heap.size w2 x) => implStateOk_any va l vc room sa set sc x ((unhide HP2).on hx) ((unhide HS2).on hx))
  have CS := hide (fun x (hx : Below w2.heap.size w2 x) => specStateOk_any va l vc room sa set sc x ((unhide HP2).on hx) ((unhide HS2).on hx))
  have CR := hide (fun x (hx : Below w2.heap.size w2 x) => specRepoOk_any va l vc room x ((unhide HP2).on hx))
  cases hrb : repoB ⟨l, room⟩ with
  | false =>
    rw [hrb] at CR
    generalize okZ l room set = ok at CI CS
    clear hrb
    refine wp_region_mix (k := 100) 11 [] [.agg #[.slice va l.length vc, .int .i64 room], .slice sa set.length sc, .bool ok, .agg #[.slice va l.length vc, .int .i64 room], .slice sa set.length sc, .bool ok, .bool false, .bool false, .agg #[.slice va l.length vc, .int .i64 room], .bool false, .bool true] (C0 w2) (by kernel_rfl) (by kernel_rfl) (by kernel_rfl) (by kernel_rfl) (by kernel_rfl) (by kernel_rfl) ⟨(Below.refl _ _).drew⟩ ?_ ?_ ?_
    · intro full hfull i oo hi hns ho x fl us hC hb
      simp [putAll, slotOf, Act.put] at hfull
      subst hfull
      have bx := hC.below
      rw [← bx.cell (p := ⟨w1.heap.size, _, none⟩) hlt2] at x0 x1
      have hC0 := hC.on (b' := fl) (Below.refl _ _)
      match i with
      | 0 => simp at ho; subst ho; simp [gwp, Region.wanted, yielded]; go_simp; first | done | exact hC0 | exact ⟨rfl, hC0⟩ | (simp; exact hC0) | rfl | (intro h; omega) | (simp; omega)
      | 1 => simp at ho; subst ho; simp [gwp, Region.wanted, yielded]; go_simp; first | done | exact hC0 | exact ⟨rfl, hC0⟩ | (simp; exact hC0) | rfl | (intro h; omega) | (simp; omega)
      | 2 =>
        simp at ho; subst ho; simp [gwp, Region.wanted, yielded]; go_simp
        refine (unhide CI x bx).mono ?_
        rintro e w' ⟨rfl, hb2⟩
        go_simp
        first | done | exact hC.on hb2 | exact ⟨rfl, hC.on hb2⟩ | (simp; exact hC.on hb2)
      | 3 => simp at ho; subst ho; simp [gwp, Region.wanted, yielded]; go_simp; first | done | exact hC0 | exact ⟨rfl, hC0⟩ | (simp; exact hC0) | rfl | (intro h; omega) | (simp; omega)
      | 4 => simp at ho; subst ho; simp [gwp, Region.wanted, yielded]; go_simp; first | done | exact hC0 | exact ⟨rfl, hC0⟩ | (simp; exact hC0) | rfl | (intro h; omega) | (simp; omega)
      | 5 =>
        simp at ho; subst ho; simp [gwp, Region.wanted, yielded]; go_simp
        refine (unhide CS x bx).mono ?_
        rintro e w' ⟨rfl, hb2⟩
        go_simp
        first | done | exact hC.on hb2 | exact ⟨rfl, hC.on hb2⟩ | (simp; exact hC.on hb2)
      | 6 => simp at ho; subst ho; simp [gwp, Region.wanted, yielded]; go_simp; first | done | exact hC0 | exact ⟨rfl, hC0⟩ | (simp; exact hC0) | rfl | (intro h; omega) | (simp; omega)
      | 7 => simp at ho; subst ho; simp [gwp, Region.wanted, yielded]; go_simp; first | done | exact hC0 | exact ⟨rfl, hC0⟩ | (simp; exact hC0) | rfl | (intro h; omega) | (simp; omega)
      | 8 => simp at ho; subst ho; simp [gwp, Region.wanted, yielded]; go_simp; first | done | exact hC0 | exact ⟨rfl, hC0⟩ | (simp; exact hC0) | rfl | (intro h; omega) | (simp; omega)
      | 9 =>
        simp at ho; subst ho; simp [gwp, Region.wanted, yielded]; go_simp
        refine (unhide CR x bx).mono ?_
        rintro e w' ⟨rfl, hb2⟩
        go_simp
        first | done | exact hC.on hb2 | exact ⟨rfl, hC.on hb2⟩ | (simp; exact hC.on hb2)
      | 10 => simp at ho; subst ho; simp [gwp, Region.wanted, yielded]; go_simp; first | done | exact hC0 | exact ⟨rfl, hC0⟩ | (simp; exact hC0) | rfl | (intro h; omega) | (simp; omega)
      | i + 11 => omega
    · intro full hfull us j hj
      simp at hj
    · intro full hfull us wz hus hC
      simp [putAll, slotOf, Act.put] at hfull
      subst hfull
      match us, hus with
      | [], _ =>
      have bz := hC.below
      clear hC
      simp [putP]
      have HB3 := hide ((unhide HB2).trans (bz.mono (unhide HB2).size))
      rw [← bz.cell (p := ⟨w1.heap.size, _, none⟩) hlt2] at x0 x1
      have hlt3 : w1.heap.size < wz.heap.size := Nat.lt_of_lt_of_le hlt2 bz.size
      have HBZ := hide bz
      clear bz HB2
      go_upto_region 5 with fail
      refine wp_region_mix (k := 100) 7 [] [.agg #[.slice va l.length vc, .int .i64 room], .slice sa set.length sc, .bool ok, .agg #[.slice va l.length vc, .int .i64 room], .slice sa set.length sc, .bool ok, .bool true] (C0 wz) (by kernel_rfl) (by kernel_rfl) (by kernel_rfl) (by kernel_rfl) (by kernel_rfl) (by kernel_rfl) ⟨(Below.refl _ _).drew⟩ ?_ ?_ ?_
      · intro full hfull i oo hi hns ho x fl us hC hb
        simp [putAll, slotOf, Act.put] at hfull
        subst hfull
        have bx := hC.below
        rw [← bx.cell (p := ⟨w1.heap.size, _, none⟩) hlt3] at x0 x1
        have bx2 := (unhide HBZ).trans (bx.mono (unhide HBZ).size)
        have hC0 := hC.on (b' := fl) (Below.refl _ _)
        match i with
        | 0 => simp at ho; subst ho; simp [gwp, Region.wanted, yielded]; go_simp; first | done | exact hC0 | exact ⟨rfl, hC0⟩ | (simp; exact hC0) | rfl | (intro h; omega) | (simp; omega)
        | 1 => simp at ho; subst ho; simp [gwp, Region.wanted, yielded]; go_simp; first | done | exact hC0 | exact ⟨rfl, hC0⟩ | (simp; exact hC0) | rfl | (intro h; omega) | (simp; omega)
        | 2 =>
          simp at ho; subst ho; simp [gwp, Region.wanted, yielded]; go_simp
          refine (unhide CI x bx2).mono ?_
          rintro e w' ⟨rfl, hb2⟩
          go_simp
          first | done | exact hC.on hb2 | exact ⟨rfl, hC.on hb2⟩ | (simp; exact hC.on hb2)
        | 3 => simp at ho; subst ho; simp [gwp, Region.wanted, yielded]; go_simp; first | done | exact hC0 | exact ⟨rfl, hC0⟩ | (simp; exact hC0) | rfl | (intro h; omega) | (simp; omega)
        | 4 => simp at ho; subst ho; simp [gwp, Region.wanted, yielded]; go_simp; first | done | exact hC0 | exact ⟨rfl, hC0⟩ | (simp; exact hC0) | rfl | (intro h; omega) | (simp; omega)
        | 5 =>
          simp at ho; subst ho; simp [gwp, Region.wanted, yielded]; go_simp
          refine (unhide CS x bx2).mono ?_
          rintro e w' ⟨rfl, hb2⟩
          go_simp
          first | done | exact hC.on hb2 | exact ⟨rfl, hC.on hb2⟩ | (simp; exact hC.on hb2)
        | 6 => simp at ho; subst ho; simp [gwp, Region.wanted, yielded]; go_simp; first | done | exact hC0 | exact ⟨rfl, hC0⟩ | (simp; exact hC0) | rfl | (intro h; omega) | (simp; omega)
        | i + 7 => omega
      · intro full hfull us j hj
        simp at hj
      · intro full hfull us wy hus hC
        simp [putAll, slotOf, Act.put] at hfull
        subst hfull
        match us, hus with
        | [], _ =>
        have bz := hC.below
        clear hC
        simp [putP]
        have HB4 := hide ((unhide HB3).trans (bz.mono (unhide HB3).size))
        clear bz HB3
        go_wp2_with fail
        go_ret
        exact ⟨rfl, unhide HB4⟩
  | true =>
    rw [hrb] at CR
    have HOK : Hid (okZ l room set = true → okZ (l.map freeP) room set = true) := fun h => free_of_ok h
    have hl8 : l.length ≤ 1000 := by
      simp only [repoB, Bool.and_eq_true, decide_eq_true_eq] at hrb
      have := hrb.1.1.1
      omega
    have HGD := hide (free_good (set := set) hrb)
    have HRB := hide hrb
    generalize okZ l room set = ok at CI CS HOK
    clear hrb
    refine wp_region_mix (k := 100) 11 [] [.agg #[.slice va l.length vc, .int .i64 room], .slice sa set.length sc, .bool ok, .agg #[.slice va l.length vc, .int .i64 room], .slice sa set.length sc, .bool ok, .bool false, .bool false, .agg #[.slice va l.length vc, .int .i64 room], .bool true, .bool false] (C0 w2) (by kernel_rfl) (by kernel_rfl) (by kernel_rfl) (by kernel_rfl) (by kernel_rfl) (by kernel_rfl) ⟨(Below.refl _ _).drew⟩ ?_ ?_ ?_
    · intro full hfull i oo hi hns ho x fl us hC hb
      simp [putAll, slotOf, Act.put] at hfull
      subst hfull
      have bx := hC.below
      rw [← bx.cell (p := ⟨w1.heap.size, _, none⟩) hlt2] at x0 x1
      have hC0 := hC.on (b' := fl) (Below.refl _ _)
      match i with
      | 0 => simp at ho; subst ho; simp [gwp, Region.wanted, yielded]; go_simp; first | done | exact hC0 | exact ⟨rfl, hC0⟩ | (simp; exact hC0) | rfl | (intro h; omega) | (simp; omega)
      | 1 => simp at ho; subst ho; simp [gwp, Region.wanted, yielded]; go_simp; first | done | exact hC0 | exact ⟨rfl, hC0⟩ | (simp; exact hC0) | rfl | (intro h; omega) | (simp; omega)
      | 2 =>
        simp at ho; subst ho; simp [gwp, Region.wanted, yielded]; go_simp
        refine (unhide CI x bx).mono ?_
        rintro e w' ⟨rfl, hb2⟩
        go_simp
        first | done | exact hC.on hb2 | exact ⟨rfl, hC.on hb2⟩ | (simp; exact hC.on hb2)
      | 3 => simp at ho; subst ho; simp [gwp, Region.wanted, yielded]; go_simp; first | done | exact hC0 | exact ⟨rfl, hC0⟩ | (simp; exact hC0) | rfl | (intro h; omega) | (simp; omega)
      | 4 => simp at ho; subst ho; simp [gwp, Region.wanted, yielded]; go_simp; first | done | exact hC0 | exact ⟨rfl, hC0⟩ | (simp; exact hC0) | rfl | (intro h; omega) | (simp; omega)
      | 5 =>
        simp at ho; subst ho; simp [gwp, Region.wanted, yielded]; go_simp
        refine (unhide CS x bx).mono ?_
        rintro e w' ⟨rfl, hb2⟩
        go_simp
        first | done | exact hC.on hb2 | exact ⟨rfl, hC.on hb2⟩ | (simp; exact hC.on hb2)
      | 6 => simp at ho; subst ho; simp [gwp, Region.wanted, yielded]; go_simp; first | done | exact hC0 | exact ⟨rfl, hC0⟩ | (simp; exact hC0) | rfl | (intro h; omega) | (simp; omega)
      | 7 => simp at ho; subst ho; simp [gwp, Region.wanted, yielded]; go_simp; first | done | exact hC0 | exact ⟨rfl, hC0⟩ | (simp; exact hC0) | rfl | (intro h; omega) | (simp; omega)
      | 8 => simp at ho; subst ho; simp [gwp, Region.wanted, yielded]; go_simp; first | done | exact hC0 | exact ⟨rfl, hC0⟩ | (simp; exact hC0) | rfl | (intro h; omega) | (simp; omega)
      | 9 =>
        simp at ho; subst ho; simp [gwp, Region.wanted, yielded]; go_simp
        refine (unhide CR x bx).mono ?_
        rintro e w' ⟨rfl, hb2⟩
        go_simp
        first | done | exact hC.on hb2 | exact ⟨rfl, hC.on hb2⟩ | (simp; exact hC.on hb2)
      | 10 => simp at ho; subst ho; simp [gwp, Region.wanted, yielded]; go_simp; first | done | exact hC0 | exact ⟨rfl, hC0⟩ | (simp; exact hC0) | rfl | (intro h; omega) | (simp; omega)
      | i + 11 => omega
    · intro full hfull us j hj
      simp at hj
    · intro full hfull us wz hus hC
      simp [putAll, slotOf, Act.put] at hfull
      subst hfull
      match us, hus with
      | [], _ =>
      have bz := hC.below
      clear hC
      simp [putP]
      have HB3 := hide ((unhide HB2).trans (bz.mono (unhide HB2).size))
      rw [← bz.cell (p := ⟨w1.heap.size, _, none⟩) hlt2] at x0 x1
      have hlt3 : w1.heap.size < wz.heap.size := Nat.lt_of_lt_of_le hlt2 bz.size
      have HP3 := hide ((unhide HP2).on bz)
      have HS3 := hide ((unhide HS2).on bz)
      have HCI3 := hide (fun x (hx : Below wz.heap.size wz x) => unhide CI x (bz.trans (hx.mono bz.size)))
      clear bz HB2 HP2 HS2 CI CS CR
      go_wp2_with fail
      refine (ldFree_any va l vc room wz (unhide HP3) hl8).mono ?_
      rintro e w4 ⟨⟨fa, fc, rfl, hPF⟩, b4⟩
      have HB4 := hide ((unhide HB3).trans (b4.mono (unhide HB3).size))
      rw [← b4.cell (p := ⟨w1.heap.size, _, none⟩) hlt3] at x0 x1
      have hlt4 : w1.heap.size < w4.heap.size := Nat.lt_of_lt_of_le hlt3 b4.size
      have HS4 := hide ((unhide HS3).on b4)
      have HCI4 := hide (fun x (hx : Below w4.heap.size w4 x) => unhide HCI3 x (b4.trans (hx.mono b4.size)))
      have HPF4 := hide hPF
      obtain ⟨l', hl', hlen⟩ : ∃ l', l' = l.map freeP ∧ l'.length = l.length := ⟨_, rfl, by simp⟩
      rw [← hl'] at HPF4 HOK HGD
      clear b4 HB3 HP3 HS3 HCI3 hPF hl'
      go_upto_region 7 with fail
      obtain ⟨w5, hw5⟩ : ∃ w5, w5 = w4.alloc (.cells #[.slice fa l.length fc, .int .i64 room] 25) := ⟨_, rfl⟩
      rw [← hw5]
      have b5 : Below w4.heap.size w4 w5 := by rw [hw5]; exact (Below.refl _ _).alloc (Nat.le_refl _) _
      have y0 : w5.cell? ⟨w4.heap.size, 0, none⟩ = some (.slice fa l.length fc) := by rw [hw5]; simp
      have y1 : w5.cell? ⟨w4.heap.size, 1, none⟩ = some (.int .i64 room) := by rw [hw5]; simp
      have hltx : w4.heap.size < w5.heap.size := by rw [hw5]; simp
      have hlt5 : w1.heap.size < w5.heap.size := Nat.lt_of_lt_of_le hlt4 b5.size
      rw [← b5.cell (p := ⟨w1.heap.size, _, none⟩) hlt4] at x0 x1
      have HB5 := hide ((unhide HB4).trans (b5.mono (unhide HB4).size))
      have HP5 := hide ((unhide HPF4).on b5)
      have HS5 := hide ((unhide HS4).on b5)
      have HCI5 := hide (fun x (hx : Below w5.heap.size w5 x) => unhide HCI4 x (b5.trans (hx.mono b5.size)))
      have HCX := hide (fun x (hx : Below w5.heap.size w5 x) => implStateOk_any fa l' fc room sa set sc x ((unhide HP5).on hx) ((unhide HS5).on hx))
      have HCZ := hide (fun x (hx : Below w5.heap.size w5 x) => implStateSize_any fa l' fc room sa set sc x ((unhide HP5).on hx) ((unhide HS5).on hx))
      rw [hlen] at HCX HCZ
      have HL := hide hlen
      clear hw5 b5 HB4 HPF4 HS4 HCI4 hlen
      have hg1 := good_one l' room set
      have HFM : Hid (decide (0 ≤ sizeZ l' room set) = true → formB l' room set = true) := fun h => by
        unfold sizeZ at h
        cases hf : formB l' room set with
        | true => rfl
        | false => rw [hf] at h; simp at h
      generalize sizeZ l' room set = sz at HCZ hg1 HFM
      have HG1 := hide hg1
      clear hg1
      by_cases h0 : 0 ≤ sz
      · have d0 : decide (0 ≤ sz) = true := by simpa using h0
        have HFM2 := hide (unhide HFM d0)
        have HG2 : Hid (goodZ l' room set 1 = decide (sz ≤ room)) := by
          show _ = _
          rw [unhide HG1, d0, Bool.true_and]
        clear HFM HG1
        refine wp_region_mix (k := 100) 12 [] [.agg #[.slice fa l.length fc, .int .i64 room], .slice sa set.length sc, .int .i64 sz, .bool true, .bool true, .agg #[.slice fa l.length fc, .int .i64 room], .slice sa set.length sc, .int .i64 sz, .pointer (some ⟨w4.heap.size, 1, none⟩), .int .i64 room, .bool (decide (sz ≤ room)), .bool (decide (sz ≤ room))] (C0 w5) (by kernel_rfl) (by kernel_rfl) (by kernel_rfl) (by kernel_rfl) (by kernel_rfl) (by kernel_rfl) ⟨(Below.refl _ _).drew⟩ ?_ ?_ ?_
        · intro full hfull i oo hi hns ho x fl us hC hb
          simp [putAll, slotOf, Act.put] at hfull
          subst hfull
          have bx := hC.below
          rw [← bx.cell (p := ⟨w1.heap.size, _, none⟩) hlt5] at x0 x1
          rw [← bx.cell (p := ⟨w4.heap.size, _, none⟩) hltx] at y0 y1
          have hC0 := hC.on (b' := fl) (Below.refl _ _)
          match i with
          | 0 => simp at ho; subst ho; simp [gwp, Region.wanted, yielded]; go_simp; first | done | exact hC0 | exact ⟨rfl, hC0⟩ | (simp; exact hC0) | rfl | (intro h; omega) | (simp; omega)
          | 1 => simp at ho; subst ho; simp [gwp, Region.wanted, yielded]; go_simp; first | done | exact hC0 | exact ⟨rfl, hC0⟩ | (simp; exact hC0) | rfl | (intro h; omega) | (simp; omega)
          | 2 =>
            simp at ho; subst ho; simp [gwp, Region.wanted, yielded]; go_simp
            refine (unhide HCZ x bx).mono ?_
            rintro e w' ⟨rfl, hb2⟩
            go_simp
            first | done | exact hC.on hb2 | exact ⟨rfl, hC.on hb2⟩ | (simp; exact hC.on hb2)
          | 3 => simp at ho; subst ho; simp [gwp, Region.wanted, yielded]; go_simp; first | done | exact hC0 | exact ⟨rfl, hC0⟩ | (simp; exact hC0) | rfl | (intro h; omega) | (simp; omega)
          | 4 => simp at ho; subst ho; simp [gwp, Region.wanted, yielded]; go_simp; first | done | exact hC0 | exact ⟨rfl, hC0⟩ | (simp; exact hC0) | rfl | (intro h; omega) | (simp; omega)
          | 5 => simp at ho; subst ho; simp [gwp, Region.wanted, yielded]; go_simp; first | done | exact hC0 | exact ⟨rfl, hC0⟩ | (simp; exact hC0) | rfl | (intro h; omega) | (simp; omega)
          | 6 => simp at ho; subst ho; simp [gwp, Region.wanted, yielded]; go_simp; first | done | exact hC0 | exact ⟨rfl, hC0⟩ | (simp; exact hC0) | rfl | (intro h; omega) | (simp; omega)
          | 7 =>
            simp at ho; subst ho; simp [gwp, Region.wanted, yielded]; go_simp
            refine (unhide HCZ x bx).mono ?_
            rintro e w' ⟨rfl, hb2⟩
            go_simp
            first | done | exact hC.on hb2 | exact ⟨rfl, hC.on hb2⟩ | (simp; exact hC.on hb2)
          | 8 => simp at ho; subst ho; simp [gwp, Region.wanted, yielded]; go_simp; first | done | exact hC0 | exact ⟨rfl, hC0⟩ | (simp; exact hC0) | rfl | (intro h; omega) | (simp; omega)
          | 9 => simp at ho; subst ho; simp [gwp, Region.wanted, yielded]; go_simp; first | done | exact hC0 | exact ⟨rfl, hC0⟩ | (simp; exact hC0) | rfl | (intro h; omega) | (simp; omega)
          | 10 => simp at ho; subst ho; simp [gwp, Region.wanted, yielded]; go_simp; first | done | exact hC0 | exact ⟨rfl, hC0⟩ | (simp; exact hC0) | rfl | (intro h; omega) | (simp; omega)
          | 11 => simp at ho; subst ho; simp [gwp, Region.wanted, yielded]; go_simp; first | done | exact hC0 | exact ⟨rfl, hC0⟩ | (simp; exact hC0) | rfl | (intro h; omega) | (simp; omega)
          | i + 12 => omega
        · intro full hfull us j hj
          simp at hj
        · intro full hfull us wz hus hC
          simp [putAll, slotOf, Act.put] at hfull
          subst hfull
          match us, hus with
          | [], _ =>
          have bz := hC.below
          clear hC
          simp [putP]
          have HB6 := hide ((unhide HB5).trans (bz.mono (unhide HB5).size))
          rw [← bz.cell (p := ⟨w1.heap.size, _, none⟩) hlt5] at x0 x1
          rw [← bz.cell (p := ⟨w4.heap.size, _, none⟩) hltx] at y0 y1
          have hlt6 : w1.heap.size < wz.heap.size := Nat.lt_of_lt_of_le hlt5 bz.size
          have hltx6 : w4.heap.size < wz.heap.size := Nat.lt_of_lt_of_le hltx bz.size
          have HP6 := hide ((unhide HP5).on bz)
          have HS6 := hide ((unhide HS5).on bz)
          have HCI6 := hide (fun x (hx : Below wz.heap.size wz x) => unhide HCI5 x (bz.trans (hx.mono bz.size)))
          have HCX6 := hide (fun x (hx : Below wz.heap.size wz x) => unhide HCX x (bz.trans (hx.mono bz.size)))
          clear bz HB5 HP5 HS5 HCI5 HCX HCZ
          go_wp2_with fail
          go_loopw [6, 7] (fun g i wr => ∃ k : Nat, 1 ≤ k ∧ (k ≤ set.length ∨ k = 1) ∧ i = .int .i64 k ∧ g = .bool (goodZ l' room set k) ∧ Drawn wz wr) (fun _ i _ => set.length + 1 - (intOf i).toNat)
          case atStart => exact ⟨1, Nat.le_refl _, Or.inr rfl, rfl, by rw [unhide HG2], Drawn.refl _⟩
          case round =>
            rename World => wo
            obtain ⟨k, hk1, hk, rfl, rfl, hw⟩ := hrel
            by_cases hgo : k < set.length ∧ goodZ l' room set k = true
            · obtain ⟨hlt, hg⟩ := hgo
              have j1 : (k : Int) < (set.length : Int) := by omega
              have hsucc := good_succ l' room set k
              rw [hg, Bool.true_and] at hsucc
              have hp1 := form_place (unhide HFM2) hlt
              have hp2 := form_place (unhide HFM2) (show k - 1 < set.length by omega)
              have hsub : IntKind.i64.wrap ((k : Int) - 1) = ((k - 1 : Nat) : Int) := by rw [IntKind.wrap_i64]; omega
              unfold twiceB packOf at hsucc
              rw [show decide (0 < k) = true by simpa using (show 0 < k by omega), Bool.true_and] at hsucc
              rcases (unhide HS6).2 with hnil | ⟨sb, so, rfl, hbl, hsc⟩
              · rw [hnil] at hlt; simp at hlt
              have c1 := hsc k hlt
              have c2 := hsc (k - 1) (by omega)
              clear hsc
              generalize set.getD k 0 = z1 at c1 hp1 hsucc
              generalize set.getD (k - 1) 0 = z2 at c2 hp2 hsucc
              obtain ⟨p1, rfl⟩ : ∃ p : Nat, z1 = (p : Int) := ⟨z1.toNat, by omega⟩
              obtain ⟨p2, rfl⟩ : ∃ p : Nat, z2 = (p : Int) := ⟨z2.toNat, by omega⟩
              simp only [Int.toNat_natCast] at hsucc
              have hLL := unhide HL
              have i10 : (0 : Int) ≤ (p1 : Int) := by omega
              have i11 : (p1 : Int) < (l.length : Int) := by omega
              have i20 : (0 : Int) ≤ (p2 : Int) := by omega
              have i21 : (p2 : Int) < (l.length : Int) := by omega
              have jk : ((k - 1 : Nat) : Int) < (set.length : Int) := by omega
              have jk0 : (0 : Int) ≤ ((k - 1 : Nat) : Int) := by omega
              have jk1 : (0 : Int) ≤ (k : Int) := by omega
              rcases (unhide HP6).2 with hnil | ⟨pb, po, rfl, hpS, hpk⟩
              · rw [hnil] at hp1; simp at hp1; omega
              obtain ⟨_, _, _, _, _, _, hce1, _⟩ := hpk p1 (by omega)
              obtain ⟨_, _, _, _, _, _, hce2, _⟩ := hpk p2 (by omega)
              have n1 := hce1.name
              have n2 := hce2.name
              generalize l'.getD p1 dPack = P1 at n1 hsucc
              generalize l'.getD p2 dPack = P2 at n2 hsucc
              have hbe : (P1.name.toList != P2.name.toList) = goodZ l' room set (k + 1) := by
                rw [hsucc]
                cases h : (P2.name.toList == P1.name.toList) with
                | true => simp at h; simp [h]
                | false => simp at h; simp; exact fun e => h e.symm
              have HBE := hide hbe
              have Y0 := y0
              have Y1 := y1
              rw [← hw.cell] at c1 c2 n1 n2 Y0 Y1
              clear hpk hce1 hce2 hp1 hp2 hsucc hLL hbe
              cases hq : (P1.name.toList == P2.name.toList) with
              | true =>
                have HQ : Hid (goodZ l' room set (k + 1) = false) := by
                  show _ = _
                  rw [← unhide HBE]
                  simp at hq
                  simp [hq]
                go_wp2_with fail
                go_quiet (fail)
                go_wp2_with fail
                go_roundw
                case rel => exact ⟨k + 1, by omega, by omega, by go_num, by rw [unhide HQ], hw.more _⟩
                case measure => simp [intOf]; omega
              | false =>
                have HQ : Hid (goodZ l' room set (k + 1) = true) := by
                  show _ = _
                  rw [← unhide HBE]
                  simp at hq
                  simp [hq]
                go_wp2_with fail
                go_quiet (fail)
                go_wp2_with fail
                go_roundw
                case rel => exact ⟨k + 1, by omega, by omega, by go_num, by rw [unhide HQ], hw.more _⟩
                case measure => simp [intOf]; omega
            · have HFG : Hid (goodZ l' room set k = okZ l' room set) := by
                show _ = _
                rw [unhide HGD]
                by_cases hlt : k < set.length
                · have hgf : goodZ l' room set k = false := by
                    cases hg : goodZ l' room set k with
                    | false => rfl
                    | true => exact absurd ⟨hlt, hg⟩ hgo
                  rw [hgf, good_false hgf (by omega)]
                · exact good_full hk1 hk hlt
              have bo : Below wz.heap.size wz wo := hw.below _
              have Y0 := y0
              have Y1 := y1
              rw [← hw.cell] at x0 x1 Y0 Y1
              have HB7 := hide ((unhide HB6).trans (bo.mono (unhide HB6).size))
              have HCX7 := hide (unhide HCX6 wo bo)
              have HBO := hide bo
              have hlt7 : w1.heap.size < wo.heap.size := Nat.lt_of_lt_of_le hlt6 bo.size
              have hO := unhide HOK
              have HCI7 := hide (fun x (hx : Below wo.heap.size wo x) => unhide HCI6 x ((unhide HBO).trans (hx.mono (unhide HBO).size)))
              rw [← unhide HFG] at HCX7 hO
              generalize goodZ l' room set k = g at HCX7 hO hgo
              clear HFG HGD HOK bo hw HG2
              by_cases hlt : k < set.length
              · have j1 : (k : Int) < (set.length : Int) := by omega
                obtain rfl : g = false := by
                  cases g with
                  | false => rfl
                  | true => exact absurd ⟨hlt, rfl⟩ hgo
                obtain rfl : ok = false := by
                  cases ok with
                  | false => rfl
                  | true => exact absurd (hO rfl) (by simp)
                clear hgo hO
                go_wp2_with fail
                refine (unhide HCX7).mono ?_
                rintro e wa ⟨rfl, ba⟩
                have HBA := hide ((unhide HB7).trans (ba.mono (unhide HB7).size))
                have HCA := hide (unhide HCI7 wa ba)
                rw [← ba.cell (p := ⟨w1.heap.size, _, none⟩) hlt7] at x0 x1
                clear ba HCX7 HB7 HCI7 Y0 Y1 y0 y1
                go_wp2_with fail
                refine (unhide HCA).mono ?_
                rintro e wb ⟨rfl, bb⟩
                have HBB := hide ((unhide HBA).trans (bb.mono (unhide HBA).size))
                clear bb HBA HCA x0 x1
                go_wp2_with fail
                go_ret
                exact ⟨rfl, unhide HBB⟩
              · have j1 : ¬ (k : Int) < (set.length : Int) := by omega
                clear hgo
                cases g with
                | false =>
                  obtain rfl : ok = false := by
                    cases ok with
                    | false => rfl
                    | true => exact absurd (hO rfl) (by simp)
                  clear hO
                  go_wp2_with fail
                  refine (unhide HCX7).mono ?_
                  rintro e wa ⟨rfl, ba⟩
                  have HBA := hide ((unhide HB7).trans (ba.mono (unhide HB7).size))
                  have HCA := hide (unhide HCI7 wa ba)
                  rw [← ba.cell (p := ⟨w1.heap.size, _, none⟩) hlt7] at x0 x1
                  clear ba HCX7 HB7 HCI7 Y0 Y1 y0 y1
                  go_wp2_with fail
                  refine (unhide HCA).mono ?_
                  rintro e wb ⟨rfl, bb⟩
                  have HBB := hide ((unhide HBA).trans (bb.mono (unhide HBA).size))
                  clear bb HBA HCA x0 x1
                  go_wp2_with fail
                  go_ret
                  exact ⟨rfl, unhide HBB⟩
                | true =>
                  clear hO
                  cases ok with
                  | true =>
                    go_wp2_with fail
                    refine (unhide HCX7).mono ?_
                    rintro e wa ⟨rfl, ba⟩
                    have HBA := hide ((unhide HB7).trans (ba.mono (unhide HB7).size))
                    have HCA := hide (unhide HCI7 wa ba)
                    rw [← ba.cell (p := ⟨w1.heap.size, _, none⟩) hlt7] at x0 x1
                    clear ba HCX7 HB7 HCI7 Y0 Y1 y0 y1
                    go_wp2_with fail
                    refine (unhide HCA).mono ?_
                    rintro e wb ⟨rfl, bb⟩
                    have HBB := hide ((unhide HBA).trans (bb.mono (unhide HBA).size))
                    clear bb HBA HCA x0 x1
                    go_wp2_with fail
                    go_ret
                    exact ⟨rfl, unhide HBB⟩
                  | false =>
                    go_wp2_with fail
                    refine (unhide HCX7).mono ?_
                    rintro e wa ⟨rfl, ba⟩
                    have HBA := hide ((unhide HB7).trans (ba.mono (unhide HB7).size))
                    have HCA := hide (unhide HCI7 wa ba)
                    rw [← ba.cell (p := ⟨w1.heap.size, _, none⟩) hlt7] at x0 x1
                    clear ba HCX7 HB7 HCI7 Y0 Y1 y0 y1
                    go_wp2_with fail
                    refine (unhide HCA).mono ?_
                    rintro e wb ⟨rfl, bb⟩
                    have HBB := hide ((unhide HBA).trans (bb.mono (unhide HBA).size))
                    clear bb HBA HCA x0 x1
                    go_wp2_with fail
                    go_ret
                    exact ⟨rfl, unhide HBB⟩
      · have d0 : decide (0 ≤ sz) = false := by simpa using h0
        have hlt0 : sz < 0 := by omega
        have HG2 : Hid (goodZ l' room set 1 = false) := by
          show _ = _
          rw [unhide HG1, d0, Bool.false_and]
        clear HFM HG1
        refine wp_region_mix (k := 100) 12 [] [.agg #[.slice fa l.length fc, .int .i64 room], .slice sa set.length sc, .int .i64 sz, .bool false, .bool false, undef, undef, undef, undef, undef, undef, .bool false] (C0 w5) (by kernel_rfl) (by kernel_rfl) (by kernel_rfl) (by kernel_rfl) (by kernel_rfl) (by kernel_rfl) ⟨(Below.refl _ _).drew⟩ ?_ ?_ ?_
        · intro full hfull i oo hi hns ho x fl us hC hb
          simp [putAll, slotOf, Act.put] at hfull
          subst hfull
          have bx := hC.below
          rw [← bx.cell (p := ⟨w1.heap.size, _, none⟩) hlt5] at x0 x1
          rw [← bx.cell (p := ⟨w4.heap.size, _, none⟩) hltx] at y0 y1
          have hC0 := hC.on (b' := fl) (Below.refl _ _)
          match i with
          | 0 => simp at ho; subst ho; simp [gwp, Region.wanted, yielded]; go_simp; first | done | exact hC0 | exact ⟨rfl, hC0⟩ | (simp; exact hC0) | rfl | (intro h; omega) | (simp; omega)
          | 1 => simp at ho; subst ho; simp [gwp, Region.wanted, yielded]; go_simp; first | done | exact hC0 | exact ⟨rfl, hC0⟩ | (simp; exact hC0) | rfl | (intro h; omega) | (simp; omega)
          | 2 =>
            simp at ho; subst ho; simp [gwp, Region.wanted, yielded]; go_simp
            refine (unhide HCZ x bx).mono ?_
            rintro e w' ⟨rfl, hb2⟩
            go_simp
            first | done | exact hC.on hb2 | exact ⟨rfl, hC.on hb2⟩ | (simp; exact hC.on hb2)
          | 3 => simp at ho; subst ho; simp [gwp, Region.wanted, yielded]; go_simp; first | done | exact hC0 | exact ⟨rfl, hC0⟩ | (simp; exact hC0) | rfl | (intro h; omega) | (simp; omega)
          | 4 => simp at ho; subst ho; simp [gwp, Region.wanted, yielded]; go_simp; first | done | exact hC0 | exact ⟨rfl, hC0⟩ | (simp; exact hC0) | rfl | (intro h; omega) | (simp; omega)
          | 5 => simp at ho; subst ho; simp [gwp, Region.wanted, yielded]; go_simp; first | done | exact hC0 | exact ⟨rfl, hC0⟩ | (simp; exact hC0) | rfl | (intro h; omega) | (simp; omega)
          | 6 => simp at ho; subst ho; simp [gwp, Region.wanted, yielded]; go_simp; first | done | exact hC0 | exact ⟨rfl, hC0⟩ | (simp; exact hC0) | rfl | (intro h; omega) | (simp; omega)
          | 7 => simp at ho; subst ho; simp [gwp, Region.wanted, yielded]; go_simp; first | done | exact hC0 | exact ⟨rfl, hC0⟩ | (simp; exact hC0) | rfl | (intro h; omega) | (simp; omega)
          | 8 => simp at ho; subst ho; simp [gwp, Region.wanted, yielded]; go_simp; first | done | exact hC0 | exact ⟨rfl, hC0⟩ | (simp; exact hC0) | rfl | (intro h; omega) | (simp; omega)
          | 9 => simp at ho; subst ho; simp [gwp, Region.wanted, yielded]; go_simp; first | done | exact hC0 | exact ⟨rfl, hC0⟩ | (simp; exact hC0) | rfl | (intro h; omega) | (simp; omega)
          | 10 => simp at ho; subst ho; simp [gwp, Region.wanted, yielded]; go_simp; first | done | exact hC0 | exact ⟨rfl, hC0⟩ | (simp; exact hC0) | rfl | (intro h; omega) | (simp; omega)
          | 11 => simp at ho; subst ho; simp [gwp, Region.wanted, yielded]; go_simp; first | done | exact hC0 | exact ⟨rfl, hC0⟩ | (simp; exact hC0) | rfl | (intro h; omega) | (simp; omega)
          | i + 12 => omega
        · intro full hfull us j hj
          simp at hj
        · intro full hfull us wz hus hC
          simp [putAll, slotOf, Act.put] at hfull
          subst hfull
          match us, hus with
          | [], _ =>
          have bz := hC.below
          clear hC
          simp [putP]
          have HB6 := hide ((unhide HB5).trans (bz.mono (unhide HB5).size))
          rw [← bz.cell (p := ⟨w1.heap.size, _, none⟩) hlt5] at x0 x1
          rw [← bz.cell (p := ⟨w4.heap.size, _, none⟩) hltx] at y0 y1
          have hlt6 : w1.heap.size < wz.heap.size := Nat.lt_of_lt_of_le hlt5 bz.size
          have hltx6 : w4.heap.size < wz.heap.size := Nat.lt_of_lt_of_le hltx bz.size
          have HP6 := hide ((unhide HP5).on bz)
          have HS6 := hide ((unhide HS5).on bz)
          have HCI6 := hide (fun x (hx : Below wz.heap.size wz x) => unhide HCI5 x (bz.trans (hx.mono bz.size)))
          have HCX6 := hide (fun x (hx : Below wz.heap.size wz x) => unhide HCX x (bz.trans (hx.mono bz.size)))
          clear bz HB5 HP5 HS5 HCI5 HCX HCZ
          go_wp2_with fail
          go_loopw [6, 7] (fun g i wr => ∃ k : Nat, 1 ≤ k ∧ (k ≤ set.length ∨ k = 1) ∧ i = .int .i64 k ∧ g = .bool (goodZ l' room set k) ∧ Drawn wz wr) (fun _ i _ => set.length + 1 - (intOf i).toNat)
          case atStart => exact ⟨1, Nat.le_refl _, Or.inr rfl, rfl, by rw [unhide HG2], Drawn.refl _⟩
          case round =>
            rename World => wo
            obtain ⟨k, hk1, hk, rfl, rfl, hw⟩ := hrel
            by_cases hgo : k < set.length ∧ goodZ l' room set k = true
            · exact absurd (good_false (unhide HG2) hk1) (by simp [hgo.2])
            · have HFG : Hid (goodZ l' room set k = okZ l' room set) := by
                show _ = _
                rw [unhide HGD]
                by_cases hlt : k < set.length
                · have hgf : goodZ l' room set k = false := by
                    cases hg : goodZ l' room set k with
                    | false => rfl
                    | true => exact absurd ⟨hlt, hg⟩ hgo
                  rw [hgf, good_false hgf (by omega)]
                · exact good_full hk1 hk hlt
              have bo : Below wz.heap.size wz wo := hw.below _
              have Y0 := y0
              have Y1 := y1
              rw [← hw.cell] at x0 x1 Y0 Y1
              have HB7 := hide ((unhide HB6).trans (bo.mono (unhide HB6).size))
              have HCX7 := hide (unhide HCX6 wo bo)
              have HBO := hide bo
              have hlt7 : w1.heap.size < wo.heap.size := Nat.lt_of_lt_of_le hlt6 bo.size
              have hO := unhide HOK
              have HCI7 := hide (fun x (hx : Below wo.heap.size wo x) => unhide HCI6 x ((unhide HBO).trans (hx.mono (unhide HBO).size)))
              rw [← unhide HFG] at HCX7 hO
              generalize goodZ l' room set k = g at HCX7 hO hgo
              clear HFG HGD HOK bo hw HG2
              by_cases hlt : k < set.length
              · have j1 : (k : Int) < (set.length : Int) := by omega
                obtain rfl : g = false := by
                  cases g with
                  | false => rfl
                  | true => exact absurd ⟨hlt, rfl⟩ hgo
                obtain rfl : ok = false := by
                  cases ok with
                  | false => rfl
                  | true => exact absurd (hO rfl) (by simp)
                clear hgo hO
                go_wp2_with fail
                refine (unhide HCX7).mono ?_
                rintro e wa ⟨rfl, ba⟩
                have HBA := hide ((unhide HB7).trans (ba.mono (unhide HB7).size))
                have HCA := hide (unhide HCI7 wa ba)
                rw [← ba.cell (p := ⟨w1.heap.size, _, none⟩) hlt7] at x0 x1
                clear ba HCX7 HB7 HCI7 Y0 Y1 y0 y1
                go_wp2_with fail
                refine (unhide HCA).mono ?_
                rintro e wb ⟨rfl, bb⟩
                have HBB := hide ((unhide HBA).trans (bb.mono (unhide HBA).size))
                clear bb HBA HCA x0 x1
                go_wp2_with fail
                go_ret
                exact ⟨rfl, unhide HBB⟩
              · have j1 : ¬ (k : Int) < (set.length : Int) := by omega
                clear hgo
                cases g with
                | false =>
                  obtain rfl : ok = false := by
                    cases ok with
                    | false => rfl
                    | true => exact absurd (hO rfl) (by simp)
                  clear hO
                  go_wp2_with fail
                  refine (unhide HCX7).mono ?_
                  rintro e wa ⟨rfl, ba⟩
                  have HBA := hide ((unhide HB7).trans (ba.mono (unhide HB7).size))
                  have HCA := hide (unhide HCI7 wa ba)
                  rw [← ba.cell (p := ⟨w1.heap.size, _, none⟩) hlt7] at x0 x1
                  clear ba HCX7 HB7 HCI7 Y0 Y1 y0 y1
                  go_wp2_with fail
                  refine (unhide HCA).mono ?_
                  rintro e wb ⟨rfl, bb⟩
                  have HBB := hide ((unhide HBA).trans (bb.mono (unhide HBA).size))
                  clear bb HBA HCA x0 x1
                  go_wp2_with fail
                  go_ret
                  exact ⟨rfl, unhide HBB⟩
                | true =>
                  clear hO
                  cases ok with
                  | true =>
                    go_wp2_with fail
                    refine (unhide HCX7).mono ?_
                    rintro e wa ⟨rfl, ba⟩
                    have HBA := hide ((unhide HB7).trans (ba.mono (unhide HB7).size))
                    have HCA := hide (unhide HCI7 wa ba)
                    rw [← ba.cell (p := ⟨w1.heap.size, _, none⟩) hlt7] at x0 x1
                    clear ba HCX7 HB7 HCI7 Y0 Y1 y0 y1
                    go_wp2_with fail
                    refine (unhide HCA).mono ?_
                    rintro e wb ⟨rfl, bb⟩
                    have HBB := hide ((unhide HBA).trans (bb.mono (unhide HBA).size))
                    clear bb HBA HCA x0 x1
                    go_wp2_with fail
                    go_ret
                    exact ⟨rfl, unhide HBB⟩
                  | false =>
                    go_wp2_with fail
                    refine (unhide HCX7).mono ?_
                    rintro e wa ⟨rfl, ba⟩
                    have HBA := hide ((unhide HB7).trans (ba.mono (unhide HB7).size))
                    have HCA := hide (unhide HCI7 wa ba)
                    rw [← ba.cell (p := ⟨w1.heap.size, _, none⟩) hlt7] at x0 x1
                    clear ba HCX7 HB7 HCI7 Y0 Y1 y0 y1
                    go_wp2_with fail
                    refine (unhide HCA).mono ?_
                    rintro e wb ⟨rfl, bb⟩
                    have HBB := hide ((unhide HBA).trans (bb.mono (unhide HBA).size))
                    clear bb HBA HCA x0 x1
                    go_wp2_with fail
                    go_ret
                    exact ⟨rfl, unhide HBB⟩
end Go.Proofs.Ytnegiggafgfmkac
