/- The walk of the law FnStateSize: of every code and every place of a cut it answers true, and writes nothing that was there. -/
import Derived.Test.YtnegiggafgfmkaaDrawU
import Derived.Test.YtnegiggafgfmkaaGPure
namespace Go.Proofs.Ytnegiggafgfmkaa
set_option linter.unusedVariables false
set_option linter.unusedSimpArgs false
open Go.RowKit Go.Deep

theorem form_take {l : List PackD} {room : Int} {set : List Int} (h : formB l room set = true) (k : Nat) : formB l room (set.take k) = true := by
  unfold formB placesB at h ⊢
  rw [Bool.and_eq_true] at h ⊢
  refine ⟨?_, h.2⟩
  rw [List.all_eq_true] at h ⊢
  intro i hi
  have hi := List.mem_range.1 hi
  simp at hi
  have := h.1 i (List.mem_range.2 (by omega))
  unfold placeB at this ⊢
  rw [show (set.take k).getD i 0 = set.getD i 0 by simp [List.getD, List.getElem?_take, show i < k by omega], show (set.take k).getD (i - 1) 0 = set.getD (i - 1) 0 by simp [List.getD, List.getElem?_take, show i - 1 < k by omega]]
  exact this
theorem getD_drop (set : List Int) (k i : Nat) : (set.drop k).getD i 0 = set.getD (k + i) 0 := by simp [List.getD, List.getElem?_drop]
theorem form_drop {l : List PackD} {room : Int} {set : List Int} (h : formB l room set = true) (k : Nat) : formB l room (set.drop k) = true := by
  unfold formB placesB at h ⊢
  rw [Bool.and_eq_true] at h ⊢
  refine ⟨?_, h.2⟩
  rw [List.all_eq_true] at h ⊢
  intro i hi
  have hi := List.mem_range.1 hi
  simp at hi
  have := h.1 (k + i) (List.mem_range.2 (by omega))
  unfold placeB at this ⊢
  rw [Bool.and_eq_true, getD_drop] at *
  refine ⟨this.1, ?_⟩
  rw [Bool.or_eq_true] at *
  by_cases h0 : i = 0
  · exact Or.inl (by simp [h0])
  · rcases this.2 with h1 | h1
    · simp at h1; omega
    · right
      rw [getD_drop, show k + (i - 1) = k + i - 1 by omega]
      exact h1
theorem sum_take (l : List PackD) (set : List Int) (c : Nat) : ∀ k, k ≤ c → sumTo l (set.take c) k = sumTo l set k
  | 0, _ => rfl
  | k + 1, h => by
    simp only [sumTo]
    rw [sum_take l set c k (by omega), show (set.take c).getD k 0 = set.getD k 0 by simp [List.getD, List.getElem?_take, show k < c by omega]]
theorem sum_drop (l : List PackD) (set : List Int) (c : Nat) : ∀ k, sumTo l set c + sumTo l (set.drop c) k = sumTo l set (c + k)
  | 0 => by simp [sumTo]
  | k + 1 => by
    rw [show c + (k + 1) = (c + k) + 1 by omega]
    simp only [sumTo]
    rw [getD_drop, ← sum_drop l set c k]
    omega
theorem size_cut {l : List PackD} {room : Int} {set : List Int} (h : formB l room set = true) {c : Nat} (hc : c ≤ set.length) : sizeZ l room (set.take c) + sizeZ l room (set.drop c) = sizeZ l room set := by
  unfold sizeZ
  rw [form_take h, form_drop h, h, if_pos rfl, if_pos rfl, if_pos rfl]
  have e1 : (set.take c).length = c := by simp; omega
  rw [e1, sum_take l set c c (Nat.le_refl _), sum_drop]
  congr 1
  simp
  omega
theorem set_short {l : List PackD} {room : Int} {set : List Int} (h : formB l room set = true) : set.length ≤ 8 := by
  have h1 := set_places h
  have h3 : set.length = (set.map Int.toNat).length := by simp
  rw [h3, ← h1]
  exact places_le _ _
theorem sizeZ_bound {l : List PackD} {room : Int} {set : List Int} (h : formB l room set = true) : 0 ≤ sizeZ l room set ∧ sizeZ l room set ≤ 999999 := by
  have h1 := sum_bound h set.length (Nat.le_refl _)
  have h2 := set_short h
  unfold sizeZ
  rw [h, if_pos rfl]
  omega
theorem SetAt.take {w : World} {a : Option Addr} {set : List Int} (h : SetAt w a set) (k : Nat) : SetAt w a (set.take k) := by
  obtain ⟨h0, h1⟩ := h
  refine ⟨by simp; omega, ?_⟩
  rcases h1 with h1 | ⟨b, o, ha, hb, hc⟩
  · left; rw [h1]; simp
  · refine Or.inr ⟨b, o, ha, hb, fun i hi => ?_⟩
    simp at hi
    rw [hc i (by omega), show (set.take k).getD i 0 = set.getD i 0 by simp [List.getD, List.getElem?_take, show i < k by omega]]
theorem SetAt.drop {w : World} {b o : Nat} {set : List Int} (h : SetAt w (some ⟨b, o, none⟩) set) (k : Nat) : SetAt w (some ⟨b, o + k, none⟩) (set.drop k) := by
  obtain ⟨h0, h1⟩ := h
  refine ⟨by simp; omega, ?_⟩
  rcases h1 with h1 | ⟨b', o', ha, hb, hc⟩
  · left; rw [h1]; simp
  · simp at ha
    obtain ⟨rfl, rfl⟩ := ha
    refine Or.inr ⟨b, o + k, rfl, hb, fun i hi => ?_⟩
    simp at hi
    rw [Nat.add_assoc, hc (k + i) (by omega), getD_drop]

theorem RowI.caps {B : Nat} {w : World} {a : Option Addr} {n c : Nat} {l : List Int} (h : RowI B w (.slice a n c) l) : (a = none ∧ l = [] ∧ c = 0) ∨ ∃ g, a = some ⟨g, 0, none⟩ ∧ l.length ≤ c ∧ c ≤ maxLen := by
  obtain ⟨h1, h2⟩ := h
  rcases h2 with ⟨hv, h0⟩ | ⟨g, cap, cur, hv, hB, hc, hcap, hcm, hsz, hx⟩
  · simp at hv
    obtain ⟨rfl, rfl, rfl⟩ := hv
    exact Or.inl ⟨rfl, List.length_eq_zero_iff.1 (by omega), rfl⟩
  · simp at hv
    obtain ⟨rfl, rfl, rfl⟩ := hv
    exact Or.inr ⟨g, rfl, hcap, hcm⟩

set_option maxRecDepth 100000 in
set_option maxHeartbeats 8000000 in
theorem size_any2 (a : Option Addr) (n c : Nat) (a2 : Option Addr) (n2 c2 : Nat) (w : World) (h : CodeAt w.heap.size w a n) (hc : n ≤ c) (hc2 : c ≤ maxLen) (hd : n2 ≤ c2) (hd2 : c2 ≤ maxLen) :
    Calls Try.prog 6 #[.slice a n c, .slice a2 n2 c2] w fun e w' => e = .returned (.bool true) ∧ Below w.heap.size w w' := by
  have hmx := hc2
  unfold maxLen at hmx
  have hmd := hd2
  unfold maxLen at hmd
  by_cases hbig : 1048576 < n
  · have hb' : (1048576 : Int) < (n : Int) := by omega
    go_enter Try.func6, Try.ntmps6
    go_wp2_with fail
    go_ret
    exact ⟨rfl, Below.refl _ _⟩
  have hb' : ¬ (1048576 : Int) < (n : Int) := by omega
  by_cases hbig2 : 1048576 < n2
  · have hb2' : (1048576 : Int) < (n2 : Int) := by omega
    go_enter Try.func6, Try.ntmps6
    go_wp2_with fail
    go_ret
    exact ⟨rfl, Below.refl _ _⟩
  have hb2' : ¬ (1048576 : Int) < (n2 : Int) := by omega
  go_enter Try.func6, Try.ntmps6
  go_wp2_with fail
  refine (DrawStateSize_V a n c w h (by omega) hc hc2).mono ?_
  rintro e w1 ⟨⟨v, room, u, rfl, hV, set, hrow, hsl⟩, b1⟩
  obtain ⟨va, vn, vc, rfl, _⟩ := SlBy.slice hV
  obtain ⟨l, rfl, hP⟩ := V2.packs hV
  obtain ⟨sa, sc, hu, hset⟩ := RowI.set hrow (by omega)
  subst hu
  have HP1 := hide hP
  have HS1 := hide hset
  have HB1 := hide b1
  have hcaps := RowI.caps hrow
  clear hV hrow hP hset b1 h
  go_upto_region 4 with fail
  obtain ⟨w2, hw2⟩ : ∃ w2, w2 = w1.alloc (.cells #[.slice va l.length vc, .int .i64 room] 25) := ⟨_, rfl⟩
  rw [← hw2]
  have b2 : Below w1.heap.size w1 w2 := by rw [hw2]; exact (Below.refl _ _).alloc (Nat.le_refl _) _
  have x0 : w2.cell? ⟨w1.heap.size, 0, none⟩ = some (.slice va l.length vc) := by rw [hw2]; simp
  have x1 : w2.cell? ⟨w1.heap.size, 1, none⟩ = some (.int .i64 room) := by rw [hw2]; simp
  have hlt2 : w1.heap.size < w2.heap.size := by rw [hw2]; simp
  have HP2 := hide ((unhide HP1).on b2)
  have HS2 := hide ((unhide HS1).on b2)
  have HB2 := hide ((unhide HB1).trans (b2.mono (unhide HB1).size))
  clear hw2 b2 HP1 HS1 HB1
  go_wp2_with fail
  refine (implStateSize_any va l vc room sa set sc w2 (unhide HP2) (unhide HS2)).mono ?_
  rintro e w3 ⟨rfl, b3⟩
  have HP3 := hide ((unhide HP2).on b3)
  have HS3 := hide ((unhide HS2).on b3)
  have HB3 := hide ((unhide HB2).trans (b3.mono (unhide HB2).size))
  have hlt3 : w1.heap.size < w3.heap.size := Nat.lt_of_lt_of_le hlt2 b3.size
  rw [← b3.cell (p := ⟨w1.heap.size, _, none⟩) hlt2] at x0 x1
  clear HP2 HS2 HB2 b3 hlt2
  go_wp2_with fail
  refine (specStateSize_any va l vc room sa set sc w3 (unhide HP3) (unhide HS3)).mono ?_
  rintro e w4 ⟨rfl, b4⟩
  have HP4 := hide ((unhide HP3).on b4)
  have HS4 := hide ((unhide HS3).on b4)
  have HB4 := hide ((unhide HB3).trans (b4.mono (unhide HB3).size))
  have hlt4 : w1.heap.size < w4.heap.size := Nat.lt_of_lt_of_le hlt3 b4.size
  rw [← b4.cell (p := ⟨w1.heap.size, _, none⟩) hlt3] at x0 x1
  clear HP3 HS3 HB3 b4 hlt3
  cases hfm : formB l room set with
  | false =>
    have hz : sizeZ l room set = -1 := by unfold sizeZ; rw [hfm]; rfl
    rw [hz]
    go_wp2_with fail
    refine (specStateSize_any va l vc room sa set sc w4 (unhide HP4) (unhide HS4)).mono ?_
    rintro e w5 ⟨rfl, b5⟩
    have HP5 := hide ((unhide HP4).on b5)
    have HS5 := hide ((unhide HS4).on b5)
    have HB5 := hide ((unhide HB4).trans (b5.mono (unhide HB4).size))
    have hlt5 : w1.heap.size < w5.heap.size := Nat.lt_of_lt_of_le hlt4 b5.size
    rw [← b5.cell (p := ⟨w1.heap.size, _, none⟩) hlt4] at x0 x1
    clear HP4 HS4 HB4 b5 hlt4
    rw [hz]
    clear hz hfm
    go_wp2_with fail
    go_ret
    exact ⟨rfl, unhide HB5⟩
  | true =>
    have hz : sizeZ l room set = sumTo l set set.length := by unfold sizeZ; rw [hfm]; rfl
    obtain ⟨cut, hcut⟩ : ∃ cut, cut = n2 % (set.length + 1) := ⟨_, rfl⟩
    have hcl : cut ≤ set.length := by rw [hcut]; have := Nat.mod_lt n2 (show 0 < set.length + 1 by omega); omega
    have hz0 := size_cut hfm hcl
    have hb0 := sizeZ_bound hfm
    have hb1 := sizeZ_bound (form_take hfm cut)
    have hb2 := sizeZ_bound (form_drop hfm cut)
    have hw1 : IntKind.i64.wrap ((set.length : Int) + 1) = (set.length : Int) + 1 := by rw [IntKind.wrap_i64]; omega
    have hmod : Int.tmod (n2 : Int) ((set.length : Int) + 1) = (cut : Int) := by rw [Int.tmod_eq_emod_of_nonneg (by omega), hcut]; norm_cast
    have hnz : (((set.length : Int) + 1) == 0) = false := by rw [beq_eq_false_iff_ne]; omega
    have HCI := hide (fun x (hx : Below w4.heap.size w4 x) => implStateSize_any va l vc room sa (set.take cut) sc x ((unhide HP4).on hx) (((unhide HS4).on hx).take cut))
    have e1 : (set.take cut).length = cut := by simp; omega
    have e2 : (set.drop cut).length = set.length - cut := by simp
    rw [e1] at HCI
    have j1 : (cut : Int) ≤ (set.length : Int) := by omega
    have j0 : (0 : Int) ≤ (cut : Int) := by omega
    have hzn : ¬ sizeZ l room set < 0 := by omega
    have hmn : ¬ (sizeZ l room set != sizeZ l room set) = true := by simp
    rcases hcaps with ⟨rfl, rfl, rfl⟩ | ⟨g, rfl, hg1, hg2⟩
    · have hc0 : cut = 0 := by simpa using hcl
      subst hc0
      have HCJ := hide (fun x (hx : Below w4.heap.size w4 x) => implStateSize_any va l vc room none [] 0 x ((unhide HP4).on hx) ((unhide HS4).on hx))
      simp only [List.take_nil, List.drop_nil] at *
      generalize sizeZ l room [] = zz at *
      obtain rfl : zz = 0 := by omega
      clear hz hz0 hb0 hb1 hb2 hcut e1 e2
      simp at hmod
      go_upto_region 8 with fail
      refine wp_region_mix (k := 100) 13 [] [.agg #[.slice va l.length vc, .int .i64 room], .slice none 0 0, .int .i64 0, .slice none 0 0, .int .i64 0, .agg #[.slice va l.length vc, .int .i64 room], .slice none 0 0, .int .i64 0, .slice none 0 0, .int .i64 0, .int .i64 0, .int .i64 0, .bool true] (C0 w4) (by kernel_rfl) (by kernel_rfl) (by kernel_rfl) (by kernel_rfl) (by kernel_rfl) (by kernel_rfl) ⟨(Below.refl _ _).drew⟩ ?_ ?_ ?_
      · intro full hfull i oo hi hns ho x fl us hC hb
        simp [putAll, slotOf, Act.put] at hfull
        subst hfull
        have bx := hC.below
        rw [← bx.cell (p := ⟨w1.heap.size, _, none⟩) hlt4] at x0 x1
        have hC0 := hC.on (b' := fl) (Below.refl _ _)
        match i with
        | 0 => simp at ho; subst ho; simp [gwp, Region.wanted, yielded]; go_simp; first | done | exact hC0 | exact ⟨rfl, hC0⟩ | (simp; exact hC0) | rfl | (intro h; omega) | (simp; omega)
        | 1 => simp at ho; subst ho; simp [gwp, Region.wanted, yielded]; go_simp; first | done | exact hC0 | exact ⟨rfl, hC0⟩ | (simp; exact hC0) | rfl | (intro h; omega) | (simp; omega)
        | 2 => simp at ho; subst ho; simp [gwp, Region.wanted, yielded]; go_simp; first | done | exact hC0 | exact ⟨rfl, hC0⟩ | (simp; exact hC0) | rfl | (intro h; omega) | (simp; omega)
        | 3 => simp at ho; subst ho; simp [gwp, Region.wanted, yielded]; go_simp; first | done | exact hC0 | exact ⟨rfl, hC0⟩ | (simp; exact hC0) | rfl | (intro h; omega) | (simp; omega)
        | 4 =>
          simp at ho; subst ho; simp [gwp, Region.wanted, yielded]; go_simp
          refine (unhide HCI x bx).mono ?_
          rintro e w' ⟨rfl, hb2⟩
          go_simp
          first | done | exact hC.on hb2 | exact ⟨rfl, hC.on hb2⟩ | (simp; exact hC.on hb2)
        | 5 => simp at ho; subst ho; simp [gwp, Region.wanted, yielded]; go_simp; first | done | exact hC0 | exact ⟨rfl, hC0⟩ | (simp; exact hC0) | rfl | (intro h; omega) | (simp; omega)
        | 6 => simp at ho; subst ho; simp [gwp, Region.wanted, yielded]; go_simp; first | done | exact hC0 | exact ⟨rfl, hC0⟩ | (simp; exact hC0) | rfl | (intro h; omega) | (simp; omega)
        | 7 => simp at ho; subst ho; simp [gwp, Region.wanted, yielded]; go_simp; first | done | exact hC0 | exact ⟨rfl, hC0⟩ | (simp; exact hC0) | rfl | (intro h; omega) | (simp; omega)
        | 8 => simp at ho; subst ho; simp [gwp, Region.wanted, yielded]; go_simp; first | done | exact hC0 | exact ⟨rfl, hC0⟩ | (simp; exact hC0) | rfl | (intro h; omega) | (simp; omega)
        | 9 =>
          simp at ho; subst ho; simp [gwp, Region.wanted, yielded]; go_simp
          refine (unhide HCJ x bx).mono ?_
          rintro e w' ⟨rfl, hb2⟩
          go_simp
          first | done | exact hC.on hb2 | exact ⟨rfl, hC.on hb2⟩ | (simp; exact hC.on hb2)
        | 10 => simp at ho; subst ho; simp [gwp, Region.wanted, yielded]; go_simp; first | done | exact hC0 | exact ⟨rfl, hC0⟩ | (simp; exact hC0) | rfl | (intro h; omega) | (simp; omega)
        | 11 => simp at ho; subst ho; simp [gwp, Region.wanted, yielded]; go_simp; first | done | exact hC0 | exact ⟨rfl, hC0⟩ | (simp; exact hC0) | rfl | (intro h; omega) | (simp; omega)
        | 12 => simp at ho; subst ho; simp [gwp, Region.wanted, yielded]; go_simp; first | done | exact hC0 | exact ⟨rfl, hC0⟩ | (simp; exact hC0) | rfl | (intro h; omega) | (simp; omega)
        | i + 13 => omega
      · intro full hfull us j hj
        simp at hj
      · intro full hfull us wz hus hC
        simp [putAll, slotOf, Act.put] at hfull
        subst hfull
        match us, hus with
        | [], _ =>
        have bz := hC.below
        clear hC
        simp [putP]
        have HB5 := hide ((unhide HB4).trans (bz.mono (unhide HB4).size))
        clear bz HB4 HP4 HS4
        go_wp2_with fail
        go_ret
        exact ⟨rfl, unhide HB5⟩
    · have j3 : (cut : Int) ≤ (sc : Int) := by omega
      by_cases hsc : sc = cut
      · have hd0 : set.drop cut = [] := List.drop_eq_nil_of_le (by omega)
        have HCJ := hide (fun x (hx : Below w4.heap.size w4 x) => implStateSize_any va l vc room (some ⟨g, 0, none⟩) [] 0 x ((unhide HP4).on hx) ⟨by simp, Or.inl rfl⟩)
        rw [hd0] at hz0 hb2 e2
        generalize sizeZ l room set = zz at *
        generalize sizeZ l room (set.take cut) = z1 at *
        generalize sizeZ l room [] = z2 at *
        obtain rfl : zz = z1 + z2 := hz0.symm
        have hw2 : IntKind.i64.wrap (z1 + z2) = z1 + z2 := by rw [IntKind.wrap_i64]; omega
        have j2 : (set.length : Int) ≤ (sc : Int) := by omega
        clear hz hz0 hb0 hb1 hb2 hcut e1 e2 hd0
        subst hsc
        have hL : set.length = sc := by omega
        rw [hL] at hw1 hmod hnz hsl ⊢
        clear hL j1 j2 j3 hcl hg1
        have j3 : (sc : Int) ≤ (sc : Int) := Int.le_refl _
        go_upto_region 8 with fail
        refine wp_region_mix (k := 100) 13 [] [.agg #[.slice va l.length vc, .int .i64 room], .slice (some ⟨g, 0, none⟩) sc sc, .int .i64 (sc : Int), .slice (some ⟨g, 0, none⟩) sc sc, .int .i64 z1, .agg #[.slice va l.length vc, .int .i64 room], .slice (some ⟨g, 0, none⟩) sc sc, .int .i64 (sc : Int), .slice (some ⟨g, 0, none⟩) 0 0, .int .i64 z2, .int .i64 (z1 + z2), .int .i64 (z1 + z2), .bool true] (C0 w4) (by kernel_rfl) (by kernel_rfl) (by kernel_rfl) (by kernel_rfl) (by kernel_rfl) (by kernel_rfl) ⟨(Below.refl _ _).drew⟩ ?_ ?_ ?_
        · intro full hfull i oo hi hns ho x fl us hC hb
          simp [putAll, slotOf, Act.put] at hfull
          subst hfull
          have bx := hC.below
          rw [← bx.cell (p := ⟨w1.heap.size, _, none⟩) hlt4] at x0 x1
          have hC0 := hC.on (b' := fl) (Below.refl _ _)
          match i with
          | 0 => simp at ho; subst ho; simp [gwp, Region.wanted, yielded]; go_simp; first | done | exact hC0 | exact ⟨rfl, hC0⟩ | (simp; exact hC0) | rfl | (intro h; omega) | (simp; omega)
          | 1 => simp at ho; subst ho; simp [gwp, Region.wanted, yielded]; go_simp; first | done | exact hC0 | exact ⟨rfl, hC0⟩ | (simp; exact hC0) | rfl | (intro h; omega) | (simp; omega)
          | 2 => simp at ho; subst ho; simp [gwp, Region.wanted, yielded]; go_simp; first | done | exact hC0 | exact ⟨rfl, hC0⟩ | (simp; exact hC0) | rfl | (intro h; omega) | (simp; omega)
          | 3 => simp at ho; subst ho; simp [gwp, Region.wanted, yielded]; go_simp; first | done | exact hC0 | exact ⟨rfl, hC0⟩ | (simp; exact hC0) | rfl | (intro h; omega) | (simp; omega)
          | 4 =>
            simp at ho; subst ho; simp [gwp, Region.wanted, yielded]; go_simp
            refine (unhide HCI x bx).mono ?_
            rintro e w' ⟨rfl, hb2⟩
            go_simp
            first | done | exact hC.on hb2 | exact ⟨rfl, hC.on hb2⟩ | (simp; exact hC.on hb2)
          | 5 => simp at ho; subst ho; simp [gwp, Region.wanted, yielded]; go_simp; first | done | exact hC0 | exact ⟨rfl, hC0⟩ | (simp; exact hC0) | rfl | (intro h; omega) | (simp; omega)
          | 6 => simp at ho; subst ho; simp [gwp, Region.wanted, yielded]; go_simp; first | done | exact hC0 | exact ⟨rfl, hC0⟩ | (simp; exact hC0) | rfl | (intro h; omega) | (simp; omega)
          | 7 => simp at ho; subst ho; simp [gwp, Region.wanted, yielded]; go_simp; first | done | exact hC0 | exact ⟨rfl, hC0⟩ | (simp; exact hC0) | rfl | (intro h; omega) | (simp; omega)
          | 8 => simp at ho; subst ho; simp [gwp, Region.wanted, yielded]; go_simp; first | done | exact hC0 | exact ⟨rfl, hC0⟩ | (simp; exact hC0) | rfl | (intro h; omega) | (simp; omega)
          | 9 =>
            simp at ho; subst ho; simp [gwp, Region.wanted, yielded]; go_simp
            refine (unhide HCJ x bx).mono ?_
            rintro e w' ⟨rfl, hb2⟩
            go_simp
            first | done | exact hC.on hb2 | exact ⟨rfl, hC.on hb2⟩ | (simp; exact hC.on hb2)
          | 10 => simp at ho; subst ho; simp [gwp, Region.wanted, yielded]; go_simp; first | done | exact hC0 | exact ⟨rfl, hC0⟩ | (simp; exact hC0) | rfl | (intro h; omega) | (simp; omega)
          | 11 => simp at ho; subst ho; simp [gwp, Region.wanted, yielded]; go_simp; first | done | exact hC0 | exact ⟨rfl, hC0⟩ | (simp; exact hC0) | rfl | (intro h; omega) | (simp; omega)
          | 12 => simp at ho; subst ho; simp [gwp, Region.wanted, yielded]; go_simp; first | done | exact hC0 | exact ⟨rfl, hC0⟩ | (simp; exact hC0) | rfl | (intro h; omega) | (simp; omega)
          | i + 13 => omega
        · intro full hfull us j hj
          simp at hj
        · intro full hfull us wz hus hC
          simp [putAll, slotOf, Act.put] at hfull
          subst hfull
          match us, hus with
          | [], _ =>
          have bz := hC.below
          clear hC
          simp [putP]
          have HB5 := hide ((unhide HB4).trans (bz.mono (unhide HB4).size))
          clear bz HB4 HP4 HS4
          go_wp2_with fail
          go_ret
          exact ⟨rfl, unhide HB5⟩
      · have HCJ := hide (fun x (hx : Below w4.heap.size w4 x) => implStateSize_any va l vc room (some ⟨g, cut, none⟩) (set.drop cut) (sc - cut) x ((unhide HP4).on hx) (by have := ((unhide HS4).on hx).drop cut; rwa [Nat.zero_add] at this))
        rw [e2] at HCJ
        generalize sizeZ l room set = zz at *
        generalize sizeZ l room (set.take cut) = z1 at *
        generalize sizeZ l room (set.drop cut) = z2 at *
        obtain rfl : zz = z1 + z2 := hz0.symm
        have hw2 : IntKind.i64.wrap (z1 + z2) = z1 + z2 := by rw [IntKind.wrap_i64]; omega
        have j2 : (set.length : Int) ≤ (sc : Int) := by omega
        clear hz hz0 hb0 hb1 hb2 hcut e1 e2
        go_upto_region 8 with fail
        refine wp_region_mix (k := 100) 13 [] [.agg #[.slice va l.length vc, .int .i64 room], .slice (some ⟨g, 0, none⟩) set.length sc, .int .i64 (cut : Int), .slice (some ⟨g, 0, none⟩) cut sc, .int .i64 z1, .agg #[.slice va l.length vc, .int .i64 room], .slice (some ⟨g, 0, none⟩) set.length sc, .int .i64 (cut : Int), .slice (some ⟨g, cut, none⟩) (set.length - cut) (sc - cut), .int .i64 z2, .int .i64 (z1 + z2), .int .i64 (z1 + z2), .bool true] (C0 w4) (by kernel_rfl) (by kernel_rfl) (by kernel_rfl) (by kernel_rfl) (by kernel_rfl) (by kernel_rfl) ⟨(Below.refl _ _).drew⟩ ?_ ?_ ?_
        · intro full hfull i oo hi hns ho x fl us hC hb
          simp [putAll, slotOf, Act.put] at hfull
          subst hfull
          have bx := hC.below
          rw [← bx.cell (p := ⟨w1.heap.size, _, none⟩) hlt4] at x0 x1
          have hC0 := hC.on (b' := fl) (Below.refl _ _)
          match i with
          | 0 => simp at ho; subst ho; simp [gwp, Region.wanted, yielded]; go_simp; first | done | exact hC0 | exact ⟨rfl, hC0⟩ | (simp; exact hC0) | rfl | (intro h; omega) | (simp; omega)
          | 1 => simp at ho; subst ho; simp [gwp, Region.wanted, yielded]; go_simp; first | done | exact hC0 | exact ⟨rfl, hC0⟩ | (simp; exact hC0) | rfl | (intro h; omega) | (simp; omega)
          | 2 => simp at ho; subst ho; simp [gwp, Region.wanted, yielded]; go_simp; first | done | exact hC0 | exact ⟨rfl, hC0⟩ | (simp; exact hC0) | rfl | (intro h; omega) | (simp; omega)
          | 3 => simp at ho; subst ho; simp [gwp, Region.wanted, yielded]; go_simp; first | done | exact hC0 | exact ⟨rfl, hC0⟩ | (simp; exact hC0) | rfl | (intro h; omega) | (simp; omega)
          | 4 =>
            simp at ho; subst ho; simp [gwp, Region.wanted, yielded]; go_simp
            refine (unhide HCI x bx).mono ?_
            rintro e w' ⟨rfl, hb2⟩
            go_simp
            first | done | exact hC.on hb2 | exact ⟨rfl, hC.on hb2⟩ | (simp; exact hC.on hb2)
          | 5 => simp at ho; subst ho; simp [gwp, Region.wanted, yielded]; go_simp; first | done | exact hC0 | exact ⟨rfl, hC0⟩ | (simp; exact hC0) | rfl | (intro h; omega) | (simp; omega)
          | 6 => simp at ho; subst ho; simp [gwp, Region.wanted, yielded]; go_simp; first | done | exact hC0 | exact ⟨rfl, hC0⟩ | (simp; exact hC0) | rfl | (intro h; omega) | (simp; omega)
          | 7 => simp at ho; subst ho; simp [gwp, Region.wanted, yielded]; go_simp; first | done | exact hC0 | exact ⟨rfl, hC0⟩ | (simp; exact hC0) | rfl | (intro h; omega) | (simp; omega)
          | 8 => simp at ho; subst ho; simp [gwp, Region.wanted, yielded]; go_simp; first | done | exact hC0 | exact ⟨rfl, hC0⟩ | (simp; exact hC0) | rfl | (intro h; omega) | (simp; omega)
          | 9 =>
            simp at ho; subst ho; simp [gwp, Region.wanted, yielded]; go_simp
            refine (unhide HCJ x bx).mono ?_
            rintro e w' ⟨rfl, hb2⟩
            go_simp
            first | done | exact hC.on hb2 | exact ⟨rfl, hC.on hb2⟩ | (simp; exact hC.on hb2)
          | 10 => simp at ho; subst ho; simp [gwp, Region.wanted, yielded]; go_simp; first | done | exact hC0 | exact ⟨rfl, hC0⟩ | (simp; exact hC0) | rfl | (intro h; omega) | (simp; omega)
          | 11 => simp at ho; subst ho; simp [gwp, Region.wanted, yielded]; go_simp; first | done | exact hC0 | exact ⟨rfl, hC0⟩ | (simp; exact hC0) | rfl | (intro h; omega) | (simp; omega)
          | 12 => simp at ho; subst ho; simp [gwp, Region.wanted, yielded]; go_simp; first | done | exact hC0 | exact ⟨rfl, hC0⟩ | (simp; exact hC0) | rfl | (intro h; omega) | (simp; omega)
          | i + 13 => omega
        · intro full hfull us j hj
          simp at hj
        · intro full hfull us wz hus hC
          simp [putAll, slotOf, Act.put] at hfull
          subst hfull
          match us, hus with
          | [], _ =>
          have bz := hC.below
          clear hC
          simp [putP]
          have HB5 := hide ((unhide HB4).trans (bz.mono (unhide HB4).size))
          clear bz HB4 HP4 HS4
          go_wp2_with fail
          go_ret
          exact ⟨rfl, unhide HB5⟩
end Go.Proofs.Ytnegiggafgfmkaa
