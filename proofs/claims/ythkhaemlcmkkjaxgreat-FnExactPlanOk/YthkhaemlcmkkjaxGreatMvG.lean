/- Whether a move is allowed. -/
import Derived.Test.YthkhaemlcmkkjaxGreatGMw
namespace Go.Proofs.YthkhaemlcmkkjaxGreat
set_option linter.unusedVariables false
set_option linter.unusedSimpArgs false
open Go.RowKit Go.Deep

set_option maxRecDepth 100000 in
set_option maxHeartbeats 16000000 in
theorem allows_any (l : List PackD) (room : Int) (V : Value) (s : Nat) (m : MvD) (hs : s < 65536) (hps : ∀ p ∈ placesTo s 8, p < l.length) (hm : m.within l.length) (hok : OkL l) (w : World) (h : Stock w V l room) :
    Calls Tryz.prog 62 #[V, .int .u64 (s : Int), m.val] w fun e w' => e = .returned (.bool (allowsB l room s m)) ∧ Below w.heap.size w w' := by
  have hf := within_fine hm hok.l8
  obtain ⟨T, X, Fg, Fc, M⟩ := mv_meth m hf
  obtain ⟨hgl, hcl⟩ := fine_bits hf
  have HST := hide h
  obtain ⟨a, cap, bm, v, rfl, hP, ⟨⟨xa, xc, rfl⟩, hA⟩⟩ := h
  have HPP := hide hP
  have hpc := comes_place hm
  have hpb := behind_place hm hps
  have hbs := sumP_bound hps hok.size (placesTo s 8).length (Nat.le_refl _)
  have hbc := sumP_bound hpc hok.size (placesTo m.comes 8).length (Nat.le_refl _)
  have hp1 := places_le s 8
  have hp2 := places_le m.comes 8
  have hwr : IntKind.i64.wrap (sumP l (placesTo s 8) (placesTo s 8).length + sumP l (placesTo m.comes 8) (placesTo m.comes 8).length) = sumP l (placesTo s 8) (placesTo s 8).length + sumP l (placesTo m.comes 8) (placesTo m.comes 8).length := by rw [IntKind.wrap_i64]; omega
  have HAL := hide (show allowsB l room s m = (decide (s &&& m.goes = m.goes) && !meetB s m.comes && preparedB l (outN s m.goes) m.comes && decide (sumP l (placesTo s 8) (placesTo s 8).length + sumP l (placesTo m.comes 8) (placesTo m.comes 8).length ≤ room) && healthB l room (behindN s m)) from rfl)
  have hand := bits_and s m.goes (by omega) (by omega)
  have hnot := bits_not s m.goes (by omega) (by omega)
  rw [show s &&& (18446744073709551615 - m.goes) = outN s m.goes from rfl] at hnot
  have HCG0 := hide M.cg
  have HCC0 := hide M.cc
  have HME0 := hide (fun x => meets_any s m.comes hs hcl x)
  have HPR0 := hide (fun x (hx : Below w.heap.size w x) => prepared_any l room _ (outN s m.goes) m.comes (outN_lt hs) hcl hpc hok x ((unhide HST).on hx))
  have HZ10 := hide (fun x (hx : Below w.heap.size w x) => size_any s hs a l cap room (.map (some bm)) (.slice xa l.length xc) ⟨_, _, _, rfl⟩ rfl x ((unhide HPP).on hx) hps hok.size)
  have HZ20 := hide (fun x (hx : Below w.heap.size w x) => size_any m.comes hcl a l cap room (.map (some bm)) (.slice xa l.length xc) ⟨_, _, _, rfl⟩ rfl x ((unhide HPP).on hx) hpc hok.size)
  have HBE0 := hide (fun x => behind_any s m hs hf x)
  have HHE0 := hide (fun x (hx : Below w.heap.size w x) => healthy_any l room _ (behindN s m) (behindN_lt hs hf) hpb hok x ((unhide HST).on hx))
  rw [M.val] at HBE0 ⊢
  have mg := M.mg
  have mc := M.mc
  have eg := M.eg
  have ec := M.ec
  clear M hA hP hok hps hm hf hpc hpb hbs hbc hp1 hp2 HST HPP hgl hcl
  generalize allowsB l room s m = R at HAL
  generalize healthB l room (behindN s m) = hb at HAL HHE0
  generalize behindN s m = Bh at HBE0 HHE0
  generalize preparedB l (outN s m.goes) m.comes = pr at HAL HPR0
  generalize outN s m.goes = O at hnot HPR0
  generalize sumP l (placesTo s 8) (placesTo s 8).length = z1 at HAL hwr HZ10
  generalize sumP l (placesTo m.comes 8) (placesTo m.comes 8).length = z2 at HAL hwr HZ20
  unfold meetB at HAL
  generalize decide (s &&& m.comes ≠ 0) = mt at HAL HME0
  generalize hsg : s &&& m.goes = sg at HAL hand
  clear hsg
  generalize m.goes = g at HAL hand hnot HCG0
  generalize m.comes = c at HCC0 HME0 HPR0 HZ20
  go_enter Tryz.func62, Tryz.ntmps62
  go_upto_region 1 with fail
  obtain ⟨W, hW⟩ : ∃ W, W = w.alloc (.cells #[.slice a l.length cap, .int .i64 room, .map (some bm), .slice xa l.length xc] 73) := ⟨_, rfl⟩
  rw [← hW]
  have bW : Below w.heap.size w W := by rw [hW]; exact (Below.refl _ _).alloc (Nat.le_refl _) _
  have x0 : W.cell? ⟨w.heap.size, 0, none⟩ = some (.slice a l.length cap) := by rw [hW]; simp
  have x1 : W.cell? ⟨w.heap.size, 1, none⟩ = some (.int .i64 room) := by rw [hW]; simp
  have x2 : W.cell? ⟨w.heap.size, 2, none⟩ = some (.map (some bm)) := by rw [hW]; simp
  have x3 : W.cell? ⟨w.heap.size, 3, none⟩ = some (.slice xa l.length xc) := by rw [hW]; simp
  have hltW : w.heap.size < W.heap.size := by rw [hW]; simp
  have HBW := hide bW
  clear hW bW
  have HCG := hide (fun x (hx : Below W.heap.size W x) => unhide HCG0 x)
  have HCC := hide (fun x (hx : Below W.heap.size W x) => unhide HCC0 x)
  have HME := hide (fun x (hx : Below W.heap.size W x) => (unhide HME0 x).mono (R' := fun e w' => e = .returned (.bool mt) ∧ Below x.heap.size x w') (by rintro e w' ⟨rfl, rfl⟩; exact ⟨rfl, Below.refl _ _⟩))
  have HPR := hide (fun x (hx : Below W.heap.size W x) => unhide HPR0 x ((unhide HBW).trans (hx.mono (unhide HBW).size)))
  have HZ1 := hide (fun x (hx : Below W.heap.size W x) => unhide HZ10 x ((unhide HBW).trans (hx.mono (unhide HBW).size)))
  have HZ2 := hide (fun x (hx : Below W.heap.size W x) => unhide HZ20 x ((unhide HBW).trans (hx.mono (unhide HBW).size)))
  have HBE := hide (fun x (hx : Below W.heap.size W x) => unhide HBE0 x)
  have HHE := hide (fun x (hx : Below W.heap.size W x) => unhide HHE0 x ((unhide HBW).trans (hx.mono (unhide HBW).size)))
  clear HCG0 HCC0 HME0 HPR0 HZ10 HZ20 HBE0 HHE0
  by_cases h1 : sg = g
  · have q1 : ((sg : Int) == (g : Int)) = true := by simp [h1]
    have d1 : decide (sg = g) = true := by simp [h1]
    rw [d1] at HAL
    clear h1 d1
    cases mt with
    | true =>
      have HR := hide (show R = false from (unhide HAL).trans (by simp))
      clear HAL
      refine wp_region_mix (k := 100) 44 [] [.int .u64 ((s : Nat) : Int), .iface T X, .int .u64 ((g : Nat) : Int), .int .u64 ((sg : Nat) : Int), .iface T X, .int .u64 ((g : Nat) : Int), .bool true, .bool true, .int .u64 ((s : Nat) : Int), .iface T X, .int .u64 ((c : Nat) : Int), .bool true, .bool false, .bool false, .bool false, undef, undef, undef, undef, undef, undef, undef, undef, .bool false, .bool false, undef, undef, undef, undef, undef, undef, undef, undef, undef, undef, undef, .bool false, .bool false, undef, undef, undef, undef, undef, .bool false] (CZ W) (by kernel_rfl) (by kernel_rfl) (by kernel_rfl) (by kernel_rfl) (by kernel_rfl) (by kernel_rfl) ⟨(Below.refl _ _).drew⟩ ?_ ?_ ?_
      · intro full hfull i oo hi hns ho x fl us hC hb
        simp [putAll, slotOf, Act.put] at hfull
        subst hfull
        have bx := hC.below
        rw [← bx.cell (p := ⟨w.heap.size, _, none⟩) hltW] at x0 x1 x2 x3
        have hC0 := hC.on (b' := fl) (Below.refl _ _)
        match i with
        | 0 => simp at ho; subst ho; simp [gwp, Region.wanted, yielded]; go_simp; first | done | exact hC0 | exact ⟨rfl, hC0⟩ | (simp; exact hC0)
        | 1 => simp at ho; subst ho; simp [gwp, Region.wanted, yielded]; go_simp; first | done | exact hC0 | exact ⟨rfl, hC0⟩ | (simp; exact hC0)
        | 2 =>
          simp at ho; subst ho; simp [gwp, Region.wanted, yielded]; go_simp
          refine (unhide HCG x bx).mono ?_
          rintro e w' ⟨rfl, hb2⟩
          go_simp
          first | done | exact hC.on hb2 | exact ⟨rfl, hC.on hb2⟩ | (simp; exact hC.on hb2)
        | 3 => simp at ho; subst ho; simp [gwp, Region.wanted, yielded]; go_simp; first | done | exact hC0 | exact ⟨rfl, hC0⟩ | (simp; exact hC0)
        | 4 => simp at ho; subst ho; simp [gwp, Region.wanted, yielded]; go_simp; first | done | exact hC0 | exact ⟨rfl, hC0⟩ | (simp; exact hC0)
        | 5 =>
          simp at ho; subst ho; simp [gwp, Region.wanted, yielded]; go_simp
          refine (unhide HCG x bx).mono ?_
          rintro e w' ⟨rfl, hb2⟩
          go_simp
          first | done | exact hC.on hb2 | exact ⟨rfl, hC.on hb2⟩ | (simp; exact hC.on hb2)
        | 6 => simp at ho; subst ho; simp [gwp, Region.wanted, yielded]; go_simp; first | done | exact hC0 | exact ⟨rfl, hC0⟩ | (simp; exact hC0)
        | 7 => simp at ho; subst ho; simp [gwp, Region.wanted, yielded]; go_simp; first | done | exact hC0 | exact ⟨rfl, hC0⟩ | (simp; exact hC0)
        | 8 => simp at ho; subst ho; simp [gwp, Region.wanted, yielded]; go_simp; first | done | exact hC0 | exact ⟨rfl, hC0⟩ | (simp; exact hC0)
        | 9 => simp at ho; subst ho; simp [gwp, Region.wanted, yielded]; go_simp; first | done | exact hC0 | exact ⟨rfl, hC0⟩ | (simp; exact hC0)
        | 10 =>
          simp at ho; subst ho; simp [gwp, Region.wanted, yielded]; go_simp
          refine (unhide HCC x bx).mono ?_
          rintro e w' ⟨rfl, hb2⟩
          go_simp
          first | done | exact hC.on hb2 | exact ⟨rfl, hC.on hb2⟩ | (simp; exact hC.on hb2)
        | 11 =>
          simp at ho; subst ho; simp [gwp, Region.wanted, yielded]; go_simp
          refine (unhide HME x bx).mono ?_
          rintro e w' ⟨rfl, hb2⟩
          go_simp
          first | done | exact hC.on hb2 | exact ⟨rfl, hC.on hb2⟩ | (simp; exact hC.on hb2)
        | 12 => simp at ho; subst ho; simp [gwp, Region.wanted, yielded]; go_simp; first | done | exact hC0 | exact ⟨rfl, hC0⟩ | (simp; exact hC0)
        | 13 => simp at ho; subst ho; simp [gwp, Region.wanted, yielded]; go_simp; first | done | exact hC0 | exact ⟨rfl, hC0⟩ | (simp; exact hC0)
        | 14 => simp at ho; subst ho; simp [gwp, Region.wanted, yielded]; go_simp; first | done | exact hC0 | exact ⟨rfl, hC0⟩ | (simp; exact hC0)
        | 15 => simp at ho; subst ho; simp [gwp, Region.wanted, yielded]; go_simp; first | done | exact hC0 | exact ⟨rfl, hC0⟩ | (simp; exact hC0)
        | 16 => simp at ho; subst ho; simp [gwp, Region.wanted, yielded]; go_simp; first | done | exact hC0 | exact ⟨rfl, hC0⟩ | (simp; exact hC0)
        | 17 => simp at ho; subst ho; simp [gwp, Region.wanted, yielded]; go_simp; first | done | exact hC0 | exact ⟨rfl, hC0⟩ | (simp; exact hC0)
        | 18 => simp at ho; subst ho; simp [gwp, Region.wanted, yielded]; go_simp; first | done | exact hC0 | exact ⟨rfl, hC0⟩ | (simp; exact hC0)
        | 19 => simp at ho; subst ho; simp [gwp, Region.wanted, yielded]; go_simp; first | done | exact hC0 | exact ⟨rfl, hC0⟩ | (simp; exact hC0)
        | 20 => simp at ho; subst ho; simp [gwp, Region.wanted, yielded]; go_simp; first | done | exact hC0 | exact ⟨rfl, hC0⟩ | (simp; exact hC0)
        | 21 => simp at ho; subst ho; simp [gwp, Region.wanted, yielded]; go_simp; first | done | exact hC0 | exact ⟨rfl, hC0⟩ | (simp; exact hC0)
        | 22 => simp at ho; subst ho; simp [gwp, Region.wanted, yielded]; go_simp; first | done | exact hC0 | exact ⟨rfl, hC0⟩ | (simp; exact hC0)
        | 23 => simp at ho; subst ho; simp [gwp, Region.wanted, yielded]; go_simp; first | done | exact hC0 | exact ⟨rfl, hC0⟩ | (simp; exact hC0)
        | 24 => simp at ho; subst ho; simp [gwp, Region.wanted, yielded]; go_simp; first | done | exact hC0 | exact ⟨rfl, hC0⟩ | (simp; exact hC0)
        | 25 => simp at ho; subst ho; simp [gwp, Region.wanted, yielded]; go_simp; first | done | exact hC0 | exact ⟨rfl, hC0⟩ | (simp; exact hC0)
        | 26 => simp at ho; subst ho; simp [gwp, Region.wanted, yielded]; go_simp; first | done | exact hC0 | exact ⟨rfl, hC0⟩ | (simp; exact hC0)
        | 27 => simp at ho; subst ho; simp [gwp, Region.wanted, yielded]; go_simp; first | done | exact hC0 | exact ⟨rfl, hC0⟩ | (simp; exact hC0)
        | 28 => simp at ho; subst ho; simp [gwp, Region.wanted, yielded]; go_simp; first | done | exact hC0 | exact ⟨rfl, hC0⟩ | (simp; exact hC0)
        | 29 => simp at ho; subst ho; simp [gwp, Region.wanted, yielded]; go_simp; first | done | exact hC0 | exact ⟨rfl, hC0⟩ | (simp; exact hC0)
        | 30 => simp at ho; subst ho; simp [gwp, Region.wanted, yielded]; go_simp; first | done | exact hC0 | exact ⟨rfl, hC0⟩ | (simp; exact hC0)
        | 31 => simp at ho; subst ho; simp [gwp, Region.wanted, yielded]; go_simp; first | done | exact hC0 | exact ⟨rfl, hC0⟩ | (simp; exact hC0)
        | 32 => simp at ho; subst ho; simp [gwp, Region.wanted, yielded]; go_simp; first | done | exact hC0 | exact ⟨rfl, hC0⟩ | (simp; exact hC0)
        | 33 => simp at ho; subst ho; simp [gwp, Region.wanted, yielded]; go_simp; first | done | exact hC0 | exact ⟨rfl, hC0⟩ | (simp; exact hC0)
        | 34 => simp at ho; subst ho; simp [gwp, Region.wanted, yielded]; go_simp; first | done | exact hC0 | exact ⟨rfl, hC0⟩ | (simp; exact hC0)
        | 35 => simp at ho; subst ho; simp [gwp, Region.wanted, yielded]; go_simp; first | done | exact hC0 | exact ⟨rfl, hC0⟩ | (simp; exact hC0)
        | 36 => simp at ho; subst ho; simp [gwp, Region.wanted, yielded]; go_simp; first | done | exact hC0 | exact ⟨rfl, hC0⟩ | (simp; exact hC0)
        | 37 => simp at ho; subst ho; simp [gwp, Region.wanted, yielded]; go_simp; first | done | exact hC0 | exact ⟨rfl, hC0⟩ | (simp; exact hC0)
        | 38 => simp at ho; subst ho; simp [gwp, Region.wanted, yielded]; go_simp; first | done | exact hC0 | exact ⟨rfl, hC0⟩ | (simp; exact hC0)
        | 39 => simp at ho; subst ho; simp [gwp, Region.wanted, yielded]; go_simp; first | done | exact hC0 | exact ⟨rfl, hC0⟩ | (simp; exact hC0)
        | 40 => simp at ho; subst ho; simp [gwp, Region.wanted, yielded]; go_simp; first | done | exact hC0 | exact ⟨rfl, hC0⟩ | (simp; exact hC0)
        | 41 => simp at ho; subst ho; simp [gwp, Region.wanted, yielded]; go_simp; first | done | exact hC0 | exact ⟨rfl, hC0⟩ | (simp; exact hC0)
        | 42 => simp at ho; subst ho; simp [gwp, Region.wanted, yielded]; go_simp; first | done | exact hC0 | exact ⟨rfl, hC0⟩ | (simp; exact hC0)
        | 43 => simp at ho; subst ho; simp [gwp, Region.wanted, yielded]; go_simp; first | done | exact hC0 | exact ⟨rfl, hC0⟩ | (simp; exact hC0)
        | i + 44 => omega
      · intro full hfull us j hj
        simp at hj
      · intro full hfull us wz hus hC
        simp [putAll, slotOf, Act.put] at hfull
        subst hfull
        match us, hus with
        | [], _ =>
        have HBz := hide ((unhide HBW).trans (hC.below.mono (unhide HBW).size))
        clear hC
        simp [putP]
        go_wp2_with fail
        go_ret
        exact ⟨ret_bool (unhide HR).symm, unhide HBz⟩
    | false =>
      cases pr with
      | false =>
        have HR := hide (show R = false from (unhide HAL).trans (by simp))
        clear HAL
        refine wp_region_mix (k := 100) 44 [] [.int .u64 ((s : Nat) : Int), .iface T X, .int .u64 ((g : Nat) : Int), .int .u64 ((sg : Nat) : Int), .iface T X, .int .u64 ((g : Nat) : Int), .bool true, .bool true, .int .u64 ((s : Nat) : Int), .iface T X, .int .u64 ((c : Nat) : Int), .bool false, .bool true, .bool true, .bool true, .agg #[.slice a l.length cap, .int .i64 room, .map (some bm), .slice xa l.length xc], .int .u64 ((s : Nat) : Int), .iface T X, .int .u64 ((g : Nat) : Int), .int .u64 ((O : Nat) : Int), .iface T X, .int .u64 ((c : Nat) : Int), .bool false, .bool false, .bool false, undef, undef, undef, undef, undef, undef, undef, undef, undef, undef, undef, .bool false, .bool false, undef, undef, undef, undef, undef, .bool false] (CZ W) (by kernel_rfl) (by kernel_rfl) (by kernel_rfl) (by kernel_rfl) (by kernel_rfl) (by kernel_rfl) ⟨(Below.refl _ _).drew⟩ ?_ ?_ ?_
        · intro full hfull i oo hi hns ho x fl us hC hb
          simp [putAll, slotOf, Act.put] at hfull
          subst hfull
          have bx := hC.below
          rw [← bx.cell (p := ⟨w.heap.size, _, none⟩) hltW] at x0 x1 x2 x3
          have hC0 := hC.on (b' := fl) (Below.refl _ _)
          match i with
          | 0 => simp at ho; subst ho; simp [gwp, Region.wanted, yielded]; go_simp; first | done | exact hC0 | exact ⟨rfl, hC0⟩ | (simp; exact hC0)
          | 1 => simp at ho; subst ho; simp [gwp, Region.wanted, yielded]; go_simp; first | done | exact hC0 | exact ⟨rfl, hC0⟩ | (simp; exact hC0)
          | 2 =>
            simp at ho; subst ho; simp [gwp, Region.wanted, yielded]; go_simp
            refine (unhide HCG x bx).mono ?_
            rintro e w' ⟨rfl, hb2⟩
            go_simp
            first | done | exact hC.on hb2 | exact ⟨rfl, hC.on hb2⟩ | (simp; exact hC.on hb2)
          | 3 => simp at ho; subst ho; simp [gwp, Region.wanted, yielded]; go_simp; first | done | exact hC0 | exact ⟨rfl, hC0⟩ | (simp; exact hC0)
          | 4 => simp at ho; subst ho; simp [gwp, Region.wanted, yielded]; go_simp; first | done | exact hC0 | exact ⟨rfl, hC0⟩ | (simp; exact hC0)
          | 5 =>
            simp at ho; subst ho; simp [gwp, Region.wanted, yielded]; go_simp
            refine (unhide HCG x bx).mono ?_
            rintro e w' ⟨rfl, hb2⟩
            go_simp
            first | done | exact hC.on hb2 | exact ⟨rfl, hC.on hb2⟩ | (simp; exact hC.on hb2)
          | 6 => simp at ho; subst ho; simp [gwp, Region.wanted, yielded]; go_simp; first | done | exact hC0 | exact ⟨rfl, hC0⟩ | (simp; exact hC0)
          | 7 => simp at ho; subst ho; simp [gwp, Region.wanted, yielded]; go_simp; first | done | exact hC0 | exact ⟨rfl, hC0⟩ | (simp; exact hC0)
          | 8 => simp at ho; subst ho; simp [gwp, Region.wanted, yielded]; go_simp; first | done | exact hC0 | exact ⟨rfl, hC0⟩ | (simp; exact hC0)
          | 9 => simp at ho; subst ho; simp [gwp, Region.wanted, yielded]; go_simp; first | done | exact hC0 | exact ⟨rfl, hC0⟩ | (simp; exact hC0)
          | 10 =>
            simp at ho; subst ho; simp [gwp, Region.wanted, yielded]; go_simp
            refine (unhide HCC x bx).mono ?_
            rintro e w' ⟨rfl, hb2⟩
            go_simp
            first | done | exact hC.on hb2 | exact ⟨rfl, hC.on hb2⟩ | (simp; exact hC.on hb2)
          | 11 =>
            simp at ho; subst ho; simp [gwp, Region.wanted, yielded]; go_simp
            refine (unhide HME x bx).mono ?_
            rintro e w' ⟨rfl, hb2⟩
            go_simp
            first | done | exact hC.on hb2 | exact ⟨rfl, hC.on hb2⟩ | (simp; exact hC.on hb2)
          | 12 => simp at ho; subst ho; simp [gwp, Region.wanted, yielded]; go_simp; first | done | exact hC0 | exact ⟨rfl, hC0⟩ | (simp; exact hC0)
          | 13 => simp at ho; subst ho; simp [gwp, Region.wanted, yielded]; go_simp; first | done | exact hC0 | exact ⟨rfl, hC0⟩ | (simp; exact hC0)
          | 14 => simp at ho; subst ho; simp [gwp, Region.wanted, yielded]; go_simp; first | done | exact hC0 | exact ⟨rfl, hC0⟩ | (simp; exact hC0)
          | 15 => simp at ho; subst ho; simp [gwp, Region.wanted, yielded]; go_simp; first | done | exact hC0 | exact ⟨rfl, hC0⟩ | (simp; exact hC0)
          | 16 => simp at ho; subst ho; simp [gwp, Region.wanted, yielded]; go_simp; first | done | exact hC0 | exact ⟨rfl, hC0⟩ | (simp; exact hC0)
          | 17 => simp at ho; subst ho; simp [gwp, Region.wanted, yielded]; go_simp; first | done | exact hC0 | exact ⟨rfl, hC0⟩ | (simp; exact hC0)
          | 18 =>
            simp at ho; subst ho; simp [gwp, Region.wanted, yielded]; go_simp
            refine (unhide HCG x bx).mono ?_
            rintro e w' ⟨rfl, hb2⟩
            go_simp
            first | done | exact hC.on hb2 | exact ⟨rfl, hC.on hb2⟩ | (simp; exact hC.on hb2)
          | 19 => simp at ho; subst ho; simp [gwp, Region.wanted, yielded]; go_simp; first | done | exact hC0 | exact ⟨rfl, hC0⟩ | (simp; exact hC0)
          | 20 => simp at ho; subst ho; simp [gwp, Region.wanted, yielded]; go_simp; first | done | exact hC0 | exact ⟨rfl, hC0⟩ | (simp; exact hC0)
          | 21 =>
            simp at ho; subst ho; simp [gwp, Region.wanted, yielded]; go_simp
            refine (unhide HCC x bx).mono ?_
            rintro e w' ⟨rfl, hb2⟩
            go_simp
            first | done | exact hC.on hb2 | exact ⟨rfl, hC.on hb2⟩ | (simp; exact hC.on hb2)
          | 22 =>
            simp at ho; subst ho; simp [gwp, Region.wanted, yielded]; go_simp
            refine (unhide HPR x bx).mono ?_
            rintro e w' ⟨rfl, hb2⟩
            go_simp
            first | done | exact hC.on hb2 | exact ⟨rfl, hC.on hb2⟩ | (simp; exact hC.on hb2)
          | 23 => simp at ho; subst ho; simp [gwp, Region.wanted, yielded]; go_simp; first | done | exact hC0 | exact ⟨rfl, hC0⟩ | (simp; exact hC0)
          | 24 => simp at ho; subst ho; simp [gwp, Region.wanted, yielded]; go_simp; first | done | exact hC0 | exact ⟨rfl, hC0⟩ | (simp; exact hC0)
          | 25 => simp at ho; subst ho; simp [gwp, Region.wanted, yielded]; go_simp; first | done | exact hC0 | exact ⟨rfl, hC0⟩ | (simp; exact hC0)
          | 26 => simp at ho; subst ho; simp [gwp, Region.wanted, yielded]; go_simp; first | done | exact hC0 | exact ⟨rfl, hC0⟩ | (simp; exact hC0)
          | 27 => simp at ho; subst ho; simp [gwp, Region.wanted, yielded]; go_simp; first | done | exact hC0 | exact ⟨rfl, hC0⟩ | (simp; exact hC0)
          | 28 => simp at ho; subst ho; simp [gwp, Region.wanted, yielded]; go_simp; first | done | exact hC0 | exact ⟨rfl, hC0⟩ | (simp; exact hC0)
          | 29 => simp at ho; subst ho; simp [gwp, Region.wanted, yielded]; go_simp; first | done | exact hC0 | exact ⟨rfl, hC0⟩ | (simp; exact hC0)
          | 30 => simp at ho; subst ho; simp [gwp, Region.wanted, yielded]; go_simp; first | done | exact hC0 | exact ⟨rfl, hC0⟩ | (simp; exact hC0)
          | 31 => simp at ho; subst ho; simp [gwp, Region.wanted, yielded]; go_simp; first | done | exact hC0 | exact ⟨rfl, hC0⟩ | (simp; exact hC0)
          | 32 => simp at ho; subst ho; simp [gwp, Region.wanted, yielded]; go_simp; first | done | exact hC0 | exact ⟨rfl, hC0⟩ | (simp; exact hC0)
          | 33 => simp at ho; subst ho; simp [gwp, Region.wanted, yielded]; go_simp; first | done | exact hC0 | exact ⟨rfl, hC0⟩ | (simp; exact hC0)
          | 34 => simp at ho; subst ho; simp [gwp, Region.wanted, yielded]; go_simp; first | done | exact hC0 | exact ⟨rfl, hC0⟩ | (simp; exact hC0)
          | 35 => simp at ho; subst ho; simp [gwp, Region.wanted, yielded]; go_simp; first | done | exact hC0 | exact ⟨rfl, hC0⟩ | (simp; exact hC0)
          | 36 => simp at ho; subst ho; simp [gwp, Region.wanted, yielded]; go_simp; first | done | exact hC0 | exact ⟨rfl, hC0⟩ | (simp; exact hC0)
          | 37 => simp at ho; subst ho; simp [gwp, Region.wanted, yielded]; go_simp; first | done | exact hC0 | exact ⟨rfl, hC0⟩ | (simp; exact hC0)
          | 38 => simp at ho; subst ho; simp [gwp, Region.wanted, yielded]; go_simp; first | done | exact hC0 | exact ⟨rfl, hC0⟩ | (simp; exact hC0)
          | 39 => simp at ho; subst ho; simp [gwp, Region.wanted, yielded]; go_simp; first | done | exact hC0 | exact ⟨rfl, hC0⟩ | (simp; exact hC0)
          | 40 => simp at ho; subst ho; simp [gwp, Region.wanted, yielded]; go_simp; first | done | exact hC0 | exact ⟨rfl, hC0⟩ | (simp; exact hC0)
          | 41 => simp at ho; subst ho; simp [gwp, Region.wanted, yielded]; go_simp; first | done | exact hC0 | exact ⟨rfl, hC0⟩ | (simp; exact hC0)
          | 42 => simp at ho; subst ho; simp [gwp, Region.wanted, yielded]; go_simp; first | done | exact hC0 | exact ⟨rfl, hC0⟩ | (simp; exact hC0)
          | 43 => simp at ho; subst ho; simp [gwp, Region.wanted, yielded]; go_simp; first | done | exact hC0 | exact ⟨rfl, hC0⟩ | (simp; exact hC0)
          | i + 44 => omega
        · intro full hfull us j hj
          simp at hj
        · intro full hfull us wz hus hC
          simp [putAll, slotOf, Act.put] at hfull
          subst hfull
          match us, hus with
          | [], _ =>
          have HBz := hide ((unhide HBW).trans (hC.below.mono (unhide HBW).size))
          clear hC
          simp [putP]
          go_wp2_with fail
          go_ret
          exact ⟨ret_bool (unhide HR).symm, unhide HBz⟩
      | true =>
        by_cases hle : z1 + z2 ≤ room
        · have d4 : decide (z1 + z2 ≤ room) = true := by simpa using hle
          have HR := hide (show R = hb from (unhide HAL).trans (by simp [hle]))
          clear HAL
          refine wp_region_mix (k := 100) 44 [] [.int .u64 ((s : Nat) : Int), .iface T X, .int .u64 ((g : Nat) : Int), .int .u64 ((sg : Nat) : Int), .iface T X, .int .u64 ((g : Nat) : Int), .bool true, .bool true, .int .u64 ((s : Nat) : Int), .iface T X, .int .u64 ((c : Nat) : Int), .bool false, .bool true, .bool true, .bool true, .agg #[.slice a l.length cap, .int .i64 room, .map (some bm), .slice xa l.length xc], .int .u64 ((s : Nat) : Int), .iface T X, .int .u64 ((g : Nat) : Int), .int .u64 ((O : Nat) : Int), .iface T X, .int .u64 ((c : Nat) : Int), .bool true, .bool true, .bool true, .agg #[.slice a l.length cap, .int .i64 room, .map (some bm), .slice xa l.length xc], .int .u64 ((s : Nat) : Int), .int .i64 z1, .agg #[.slice a l.length cap, .int .i64 room, .map (some bm), .slice xa l.length xc], .iface T X, .int .u64 ((c : Nat) : Int), .int .i64 z2, .int .i64 (z1 + z2), .pointer (some ⟨w.heap.size, 1, none⟩), .int .i64 room, .bool true, .bool true, .bool true, .agg #[.slice a l.length cap, .int .i64 room, .map (some bm), .slice xa l.length xc], .int .u64 ((s : Nat) : Int), .iface T X, .int .u64 ((Bh : Nat) : Int), .bool hb, .bool hb] (CZ W) (by kernel_rfl) (by kernel_rfl) (by kernel_rfl) (by kernel_rfl) (by kernel_rfl) (by kernel_rfl) ⟨(Below.refl _ _).drew⟩ ?_ ?_ ?_
          · intro full hfull i oo hi hns ho x fl us hC hb
            simp [putAll, slotOf, Act.put] at hfull
            subst hfull
            have bx := hC.below
            rw [← bx.cell (p := ⟨w.heap.size, _, none⟩) hltW] at x0 x1 x2 x3
            have hC0 := hC.on (b' := fl) (Below.refl _ _)
            match i with
            | 0 => simp at ho; subst ho; simp [gwp, Region.wanted, yielded]; go_simp; first | done | exact hC0 | exact ⟨rfl, hC0⟩ | (simp; exact hC0)
            | 1 => simp at ho; subst ho; simp [gwp, Region.wanted, yielded]; go_simp; first | done | exact hC0 | exact ⟨rfl, hC0⟩ | (simp; exact hC0)
            | 2 =>
              simp at ho; subst ho; simp [gwp, Region.wanted, yielded]; go_simp
              refine (unhide HCG x bx).mono ?_
              rintro e w' ⟨rfl, hb2⟩
              go_simp
              first | done | exact hC.on hb2 | exact ⟨rfl, hC.on hb2⟩ | (simp; exact hC.on hb2)
            | 3 => simp at ho; subst ho; simp [gwp, Region.wanted, yielded]; go_simp; first | done | exact hC0 | exact ⟨rfl, hC0⟩ | (simp; exact hC0)
            | 4 => simp at ho; subst ho; simp [gwp, Region.wanted, yielded]; go_simp; first | done | exact hC0 | exact ⟨rfl, hC0⟩ | (simp; exact hC0)
            | 5 =>
              simp at ho; subst ho; simp [gwp, Region.wanted, yielded]; go_simp
              refine (unhide HCG x bx).mono ?_
              rintro e w' ⟨rfl, hb2⟩
              go_simp
              first | done | exact hC.on hb2 | exact ⟨rfl, hC.on hb2⟩ | (simp; exact hC.on hb2)
            | 6 => simp at ho; subst ho; simp [gwp, Region.wanted, yielded]; go_simp; first | done | exact hC0 | exact ⟨rfl, hC0⟩ | (simp; exact hC0)
            | 7 => simp at ho; subst ho; simp [gwp, Region.wanted, yielded]; go_simp; first | done | exact hC0 | exact ⟨rfl, hC0⟩ | (simp; exact hC0)
            | 8 => simp at ho; subst ho; simp [gwp, Region.wanted, yielded]; go_simp; first | done | exact hC0 | exact ⟨rfl, hC0⟩ | (simp; exact hC0)
            | 9 => simp at ho; subst ho; simp [gwp, Region.wanted, yielded]; go_simp; first | done | exact hC0 | exact ⟨rfl, hC0⟩ | (simp; exact hC0)
            | 10 =>
              simp at ho; subst ho; simp [gwp, Region.wanted, yielded]; go_simp
              refine (unhide HCC x bx).mono ?_
              rintro e w' ⟨rfl, hb2⟩
              go_simp
              first | done | exact hC.on hb2 | exact ⟨rfl, hC.on hb2⟩ | (simp; exact hC.on hb2)
            | 11 =>
              simp at ho; subst ho; simp [gwp, Region.wanted, yielded]; go_simp
              refine (unhide HME x bx).mono ?_
              rintro e w' ⟨rfl, hb2⟩
              go_simp
              first | done | exact hC.on hb2 | exact ⟨rfl, hC.on hb2⟩ | (simp; exact hC.on hb2)
            | 12 => simp at ho; subst ho; simp [gwp, Region.wanted, yielded]; go_simp; first | done | exact hC0 | exact ⟨rfl, hC0⟩ | (simp; exact hC0)
            | 13 => simp at ho; subst ho; simp [gwp, Region.wanted, yielded]; go_simp; first | done | exact hC0 | exact ⟨rfl, hC0⟩ | (simp; exact hC0)
            | 14 => simp at ho; subst ho; simp [gwp, Region.wanted, yielded]; go_simp; first | done | exact hC0 | exact ⟨rfl, hC0⟩ | (simp; exact hC0)
            | 15 => simp at ho; subst ho; simp [gwp, Region.wanted, yielded]; go_simp; first | done | exact hC0 | exact ⟨rfl, hC0⟩ | (simp; exact hC0)
            | 16 => simp at ho; subst ho; simp [gwp, Region.wanted, yielded]; go_simp; first | done | exact hC0 | exact ⟨rfl, hC0⟩ | (simp; exact hC0)
            | 17 => simp at ho; subst ho; simp [gwp, Region.wanted, yielded]; go_simp; first | done | exact hC0 | exact ⟨rfl, hC0⟩ | (simp; exact hC0)
            | 18 =>
              simp at ho; subst ho; simp [gwp, Region.wanted, yielded]; go_simp
              refine (unhide HCG x bx).mono ?_
              rintro e w' ⟨rfl, hb2⟩
              go_simp
              first | done | exact hC.on hb2 | exact ⟨rfl, hC.on hb2⟩ | (simp; exact hC.on hb2)
            | 19 => simp at ho; subst ho; simp [gwp, Region.wanted, yielded]; go_simp; first | done | exact hC0 | exact ⟨rfl, hC0⟩ | (simp; exact hC0)
            | 20 => simp at ho; subst ho; simp [gwp, Region.wanted, yielded]; go_simp; first | done | exact hC0 | exact ⟨rfl, hC0⟩ | (simp; exact hC0)
            | 21 =>
              simp at ho; subst ho; simp [gwp, Region.wanted, yielded]; go_simp
              refine (unhide HCC x bx).mono ?_
              rintro e w' ⟨rfl, hb2⟩
              go_simp
              first | done | exact hC.on hb2 | exact ⟨rfl, hC.on hb2⟩ | (simp; exact hC.on hb2)
            | 22 =>
              simp at ho; subst ho; simp [gwp, Region.wanted, yielded]; go_simp
              refine (unhide HPR x bx).mono ?_
              rintro e w' ⟨rfl, hb2⟩
              go_simp
              first | done | exact hC.on hb2 | exact ⟨rfl, hC.on hb2⟩ | (simp; exact hC.on hb2)
            | 23 => simp at ho; subst ho; simp [gwp, Region.wanted, yielded]; go_simp; first | done | exact hC0 | exact ⟨rfl, hC0⟩ | (simp; exact hC0)
            | 24 => simp at ho; subst ho; simp [gwp, Region.wanted, yielded]; go_simp; first | done | exact hC0 | exact ⟨rfl, hC0⟩ | (simp; exact hC0)
            | 25 => simp at ho; subst ho; simp [gwp, Region.wanted, yielded]; go_simp; first | done | exact hC0 | exact ⟨rfl, hC0⟩ | (simp; exact hC0)
            | 26 => simp at ho; subst ho; simp [gwp, Region.wanted, yielded]; go_simp; first | done | exact hC0 | exact ⟨rfl, hC0⟩ | (simp; exact hC0)
            | 27 =>
              simp at ho; subst ho; simp [gwp, Region.wanted, yielded]; go_simp
              refine (unhide HZ1 x bx).mono ?_
              rintro e w' ⟨rfl, hb2⟩
              go_simp
              first | done | exact hC.on hb2 | exact ⟨rfl, hC.on hb2⟩ | (simp; exact hC.on hb2)
            | 28 => simp at ho; subst ho; simp [gwp, Region.wanted, yielded]; go_simp; first | done | exact hC0 | exact ⟨rfl, hC0⟩ | (simp; exact hC0)
            | 29 => simp at ho; subst ho; simp [gwp, Region.wanted, yielded]; go_simp; first | done | exact hC0 | exact ⟨rfl, hC0⟩ | (simp; exact hC0)
            | 30 =>
              simp at ho; subst ho; simp [gwp, Region.wanted, yielded]; go_simp
              refine (unhide HCC x bx).mono ?_
              rintro e w' ⟨rfl, hb2⟩
              go_simp
              first | done | exact hC.on hb2 | exact ⟨rfl, hC.on hb2⟩ | (simp; exact hC.on hb2)
            | 31 =>
              simp at ho; subst ho; simp [gwp, Region.wanted, yielded]; go_simp
              refine (unhide HZ2 x bx).mono ?_
              rintro e w' ⟨rfl, hb2⟩
              go_simp
              first | done | exact hC.on hb2 | exact ⟨rfl, hC.on hb2⟩ | (simp; exact hC.on hb2)
            | 32 => simp at ho; subst ho; simp [gwp, Region.wanted, yielded]; go_simp; first | done | exact hC0 | exact ⟨rfl, hC0⟩ | (simp; exact hC0)
            | 33 => simp at ho; subst ho; simp [gwp, Region.wanted, yielded]; go_simp; first | done | exact hC0 | exact ⟨rfl, hC0⟩ | (simp; exact hC0)
            | 34 => simp at ho; subst ho; simp [gwp, Region.wanted, yielded]; go_simp; first | done | exact hC0 | exact ⟨rfl, hC0⟩ | (simp; exact hC0)
            | 35 => simp at ho; subst ho; simp [gwp, Region.wanted, yielded]; go_simp; first | done | exact hC0 | exact ⟨rfl, hC0⟩ | (simp; exact hC0)
            | 36 => simp at ho; subst ho; simp [gwp, Region.wanted, yielded]; go_simp; first | done | exact hC0 | exact ⟨rfl, hC0⟩ | (simp; exact hC0)
            | 37 => simp at ho; subst ho; simp [gwp, Region.wanted, yielded]; go_simp; first | done | exact hC0 | exact ⟨rfl, hC0⟩ | (simp; exact hC0)
            | 38 => simp at ho; subst ho; simp [gwp, Region.wanted, yielded]; go_simp; first | done | exact hC0 | exact ⟨rfl, hC0⟩ | (simp; exact hC0)
            | 39 => simp at ho; subst ho; simp [gwp, Region.wanted, yielded]; go_simp; first | done | exact hC0 | exact ⟨rfl, hC0⟩ | (simp; exact hC0)
            | 40 => simp at ho; subst ho; simp [gwp, Region.wanted, yielded]; go_simp; first | done | exact hC0 | exact ⟨rfl, hC0⟩ | (simp; exact hC0)
            | 41 =>
              simp at ho; subst ho; simp [gwp, Region.wanted, yielded]; go_simp
              refine (unhide HBE x bx).mono ?_
              rintro e w' ⟨rfl, hb2⟩
              go_simp
              first | done | exact hC.on hb2 | exact ⟨rfl, hC.on hb2⟩ | (simp; exact hC.on hb2)
            | 42 =>
              simp at ho; subst ho; simp [gwp, Region.wanted, yielded]; go_simp
              refine (unhide HHE x bx).mono ?_
              rintro e w' ⟨rfl, hb2⟩
              go_simp
              first | done | exact hC.on hb2 | exact ⟨rfl, hC.on hb2⟩ | (simp; exact hC.on hb2)
            | 43 => simp at ho; subst ho; simp [gwp, Region.wanted, yielded]; go_simp; first | done | exact hC0 | exact ⟨rfl, hC0⟩ | (simp; exact hC0)
            | i + 44 => omega
          · intro full hfull us j hj
            simp at hj
          · intro full hfull us wz hus hC
            simp [putAll, slotOf, Act.put] at hfull
            subst hfull
            match us, hus with
            | [], _ =>
            have HBz := hide ((unhide HBW).trans (hC.below.mono (unhide HBW).size))
            clear hC
            simp [putP]
            go_wp2_with fail
            go_ret
            exact ⟨ret_bool (unhide HR).symm, unhide HBz⟩
        · have d4 : decide (z1 + z2 ≤ room) = false := by simpa using hle
          have HR := hide (show R = false from (unhide HAL).trans (by simp [hle]))
          clear HAL
          refine wp_region_mix (k := 100) 44 [] [.int .u64 ((s : Nat) : Int), .iface T X, .int .u64 ((g : Nat) : Int), .int .u64 ((sg : Nat) : Int), .iface T X, .int .u64 ((g : Nat) : Int), .bool true, .bool true, .int .u64 ((s : Nat) : Int), .iface T X, .int .u64 ((c : Nat) : Int), .bool false, .bool true, .bool true, .bool true, .agg #[.slice a l.length cap, .int .i64 room, .map (some bm), .slice xa l.length xc], .int .u64 ((s : Nat) : Int), .iface T X, .int .u64 ((g : Nat) : Int), .int .u64 ((O : Nat) : Int), .iface T X, .int .u64 ((c : Nat) : Int), .bool true, .bool true, .bool true, .agg #[.slice a l.length cap, .int .i64 room, .map (some bm), .slice xa l.length xc], .int .u64 ((s : Nat) : Int), .int .i64 z1, .agg #[.slice a l.length cap, .int .i64 room, .map (some bm), .slice xa l.length xc], .iface T X, .int .u64 ((c : Nat) : Int), .int .i64 z2, .int .i64 (z1 + z2), .pointer (some ⟨w.heap.size, 1, none⟩), .int .i64 room, .bool false, .bool false, .bool false, undef, undef, undef, undef, undef, .bool false] (CZ W) (by kernel_rfl) (by kernel_rfl) (by kernel_rfl) (by kernel_rfl) (by kernel_rfl) (by kernel_rfl) ⟨(Below.refl _ _).drew⟩ ?_ ?_ ?_
          · intro full hfull i oo hi hns ho x fl us hC hb
            simp [putAll, slotOf, Act.put] at hfull
            subst hfull
            have bx := hC.below
            rw [← bx.cell (p := ⟨w.heap.size, _, none⟩) hltW] at x0 x1 x2 x3
            have hC0 := hC.on (b' := fl) (Below.refl _ _)
            match i with
            | 0 => simp at ho; subst ho; simp [gwp, Region.wanted, yielded]; go_simp; first | done | exact hC0 | exact ⟨rfl, hC0⟩ | (simp; exact hC0)
            | 1 => simp at ho; subst ho; simp [gwp, Region.wanted, yielded]; go_simp; first | done | exact hC0 | exact ⟨rfl, hC0⟩ | (simp; exact hC0)
            | 2 =>
              simp at ho; subst ho; simp [gwp, Region.wanted, yielded]; go_simp
              refine (unhide HCG x bx).mono ?_
              rintro e w' ⟨rfl, hb2⟩
              go_simp
              first | done | exact hC.on hb2 | exact ⟨rfl, hC.on hb2⟩ | (simp; exact hC.on hb2)
            | 3 => simp at ho; subst ho; simp [gwp, Region.wanted, yielded]; go_simp; first | done | exact hC0 | exact ⟨rfl, hC0⟩ | (simp; exact hC0)
            | 4 => simp at ho; subst ho; simp [gwp, Region.wanted, yielded]; go_simp; first | done | exact hC0 | exact ⟨rfl, hC0⟩ | (simp; exact hC0)
            | 5 =>
              simp at ho; subst ho; simp [gwp, Region.wanted, yielded]; go_simp
              refine (unhide HCG x bx).mono ?_
              rintro e w' ⟨rfl, hb2⟩
              go_simp
              first | done | exact hC.on hb2 | exact ⟨rfl, hC.on hb2⟩ | (simp; exact hC.on hb2)
            | 6 => simp at ho; subst ho; simp [gwp, Region.wanted, yielded]; go_simp; first | done | exact hC0 | exact ⟨rfl, hC0⟩ | (simp; exact hC0)
            | 7 => simp at ho; subst ho; simp [gwp, Region.wanted, yielded]; go_simp; first | done | exact hC0 | exact ⟨rfl, hC0⟩ | (simp; exact hC0)
            | 8 => simp at ho; subst ho; simp [gwp, Region.wanted, yielded]; go_simp; first | done | exact hC0 | exact ⟨rfl, hC0⟩ | (simp; exact hC0)
            | 9 => simp at ho; subst ho; simp [gwp, Region.wanted, yielded]; go_simp; first | done | exact hC0 | exact ⟨rfl, hC0⟩ | (simp; exact hC0)
            | 10 =>
              simp at ho; subst ho; simp [gwp, Region.wanted, yielded]; go_simp
              refine (unhide HCC x bx).mono ?_
              rintro e w' ⟨rfl, hb2⟩
              go_simp
              first | done | exact hC.on hb2 | exact ⟨rfl, hC.on hb2⟩ | (simp; exact hC.on hb2)
            | 11 =>
              simp at ho; subst ho; simp [gwp, Region.wanted, yielded]; go_simp
              refine (unhide HME x bx).mono ?_
              rintro e w' ⟨rfl, hb2⟩
              go_simp
              first | done | exact hC.on hb2 | exact ⟨rfl, hC.on hb2⟩ | (simp; exact hC.on hb2)
            | 12 => simp at ho; subst ho; simp [gwp, Region.wanted, yielded]; go_simp; first | done | exact hC0 | exact ⟨rfl, hC0⟩ | (simp; exact hC0)
            | 13 => simp at ho; subst ho; simp [gwp, Region.wanted, yielded]; go_simp; first | done | exact hC0 | exact ⟨rfl, hC0⟩ | (simp; exact hC0)
            | 14 => simp at ho; subst ho; simp [gwp, Region.wanted, yielded]; go_simp; first | done | exact hC0 | exact ⟨rfl, hC0⟩ | (simp; exact hC0)
            | 15 => simp at ho; subst ho; simp [gwp, Region.wanted, yielded]; go_simp; first | done | exact hC0 | exact ⟨rfl, hC0⟩ | (simp; exact hC0)
            | 16 => simp at ho; subst ho; simp [gwp, Region.wanted, yielded]; go_simp; first | done | exact hC0 | exact ⟨rfl, hC0⟩ | (simp; exact hC0)
            | 17 => simp at ho; subst ho; simp [gwp, Region.wanted, yielded]; go_simp; first | done | exact hC0 | exact ⟨rfl, hC0⟩ | (simp; exact hC0)
            | 18 =>
              simp at ho; subst ho; simp [gwp, Region.wanted, yielded]; go_simp
              refine (unhide HCG x bx).mono ?_
              rintro e w' ⟨rfl, hb2⟩
              go_simp
              first | done | exact hC.on hb2 | exact ⟨rfl, hC.on hb2⟩ | (simp; exact hC.on hb2)
            | 19 => simp at ho; subst ho; simp [gwp, Region.wanted, yielded]; go_simp; first | done | exact hC0 | exact ⟨rfl, hC0⟩ | (simp; exact hC0)
            | 20 => simp at ho; subst ho; simp [gwp, Region.wanted, yielded]; go_simp; first | done | exact hC0 | exact ⟨rfl, hC0⟩ | (simp; exact hC0)
            | 21 =>
              simp at ho; subst ho; simp [gwp, Region.wanted, yielded]; go_simp
              refine (unhide HCC x bx).mono ?_
              rintro e w' ⟨rfl, hb2⟩
              go_simp
              first | done | exact hC.on hb2 | exact ⟨rfl, hC.on hb2⟩ | (simp; exact hC.on hb2)
            | 22 =>
              simp at ho; subst ho; simp [gwp, Region.wanted, yielded]; go_simp
              refine (unhide HPR x bx).mono ?_
              rintro e w' ⟨rfl, hb2⟩
              go_simp
              first | done | exact hC.on hb2 | exact ⟨rfl, hC.on hb2⟩ | (simp; exact hC.on hb2)
            | 23 => simp at ho; subst ho; simp [gwp, Region.wanted, yielded]; go_simp; first | done | exact hC0 | exact ⟨rfl, hC0⟩ | (simp; exact hC0)
            | 24 => simp at ho; subst ho; simp [gwp, Region.wanted, yielded]; go_simp; first | done | exact hC0 | exact ⟨rfl, hC0⟩ | (simp; exact hC0)
            | 25 => simp at ho; subst ho; simp [gwp, Region.wanted, yielded]; go_simp; first | done | exact hC0 | exact ⟨rfl, hC0⟩ | (simp; exact hC0)
            | 26 => simp at ho; subst ho; simp [gwp, Region.wanted, yielded]; go_simp; first | done | exact hC0 | exact ⟨rfl, hC0⟩ | (simp; exact hC0)
            | 27 =>
              simp at ho; subst ho; simp [gwp, Region.wanted, yielded]; go_simp
              refine (unhide HZ1 x bx).mono ?_
              rintro e w' ⟨rfl, hb2⟩
              go_simp
              first | done | exact hC.on hb2 | exact ⟨rfl, hC.on hb2⟩ | (simp; exact hC.on hb2)
            | 28 => simp at ho; subst ho; simp [gwp, Region.wanted, yielded]; go_simp; first | done | exact hC0 | exact ⟨rfl, hC0⟩ | (simp; exact hC0)
            | 29 => simp at ho; subst ho; simp [gwp, Region.wanted, yielded]; go_simp; first | done | exact hC0 | exact ⟨rfl, hC0⟩ | (simp; exact hC0)
            | 30 =>
              simp at ho; subst ho; simp [gwp, Region.wanted, yielded]; go_simp
              refine (unhide HCC x bx).mono ?_
              rintro e w' ⟨rfl, hb2⟩
              go_simp
              first | done | exact hC.on hb2 | exact ⟨rfl, hC.on hb2⟩ | (simp; exact hC.on hb2)
            | 31 =>
              simp at ho; subst ho; simp [gwp, Region.wanted, yielded]; go_simp
              refine (unhide HZ2 x bx).mono ?_
              rintro e w' ⟨rfl, hb2⟩
              go_simp
              first | done | exact hC.on hb2 | exact ⟨rfl, hC.on hb2⟩ | (simp; exact hC.on hb2)
            | 32 => simp at ho; subst ho; simp [gwp, Region.wanted, yielded]; go_simp; first | done | exact hC0 | exact ⟨rfl, hC0⟩ | (simp; exact hC0)
            | 33 => simp at ho; subst ho; simp [gwp, Region.wanted, yielded]; go_simp; first | done | exact hC0 | exact ⟨rfl, hC0⟩ | (simp; exact hC0)
            | 34 => simp at ho; subst ho; simp [gwp, Region.wanted, yielded]; go_simp; first | done | exact hC0 | exact ⟨rfl, hC0⟩ | (simp; exact hC0)
            | 35 => simp at ho; subst ho; simp [gwp, Region.wanted, yielded]; go_simp; first | done | exact hC0 | exact ⟨rfl, hC0⟩ | (simp; exact hC0)
            | 36 => simp at ho; subst ho; simp [gwp, Region.wanted, yielded]; go_simp; first | done | exact hC0 | exact ⟨rfl, hC0⟩ | (simp; exact hC0)
            | 37 => simp at ho; subst ho; simp [gwp, Region.wanted, yielded]; go_simp; first | done | exact hC0 | exact ⟨rfl, hC0⟩ | (simp; exact hC0)
            | 38 => simp at ho; subst ho; simp [gwp, Region.wanted, yielded]; go_simp; first | done | exact hC0 | exact ⟨rfl, hC0⟩ | (simp; exact hC0)
            | 39 => simp at ho; subst ho; simp [gwp, Region.wanted, yielded]; go_simp; first | done | exact hC0 | exact ⟨rfl, hC0⟩ | (simp; exact hC0)
            | 40 => simp at ho; subst ho; simp [gwp, Region.wanted, yielded]; go_simp; first | done | exact hC0 | exact ⟨rfl, hC0⟩ | (simp; exact hC0)
            | 41 => simp at ho; subst ho; simp [gwp, Region.wanted, yielded]; go_simp; first | done | exact hC0 | exact ⟨rfl, hC0⟩ | (simp; exact hC0)
            | 42 => simp at ho; subst ho; simp [gwp, Region.wanted, yielded]; go_simp; first | done | exact hC0 | exact ⟨rfl, hC0⟩ | (simp; exact hC0)
            | 43 => simp at ho; subst ho; simp [gwp, Region.wanted, yielded]; go_simp; first | done | exact hC0 | exact ⟨rfl, hC0⟩ | (simp; exact hC0)
            | i + 44 => omega
          · intro full hfull us j hj
            simp at hj
          · intro full hfull us wz hus hC
            simp [putAll, slotOf, Act.put] at hfull
            subst hfull
            match us, hus with
            | [], _ =>
            have HBz := hide ((unhide HBW).trans (hC.below.mono (unhide HBW).size))
            clear hC
            simp [putP]
            go_wp2_with fail
            go_ret
            exact ⟨ret_bool (unhide HR).symm, unhide HBz⟩
  · have q1 : ((sg : Int) == (g : Int)) = false := by rw [beq_eq_false_iff_ne]; omega
    have HR := hide (show R = false from (unhide HAL).trans (by simp [h1]))
    clear HAL h1
    refine wp_region_mix (k := 100) 44 [] [.int .u64 ((s : Nat) : Int), .iface T X, .int .u64 ((g : Nat) : Int), .int .u64 ((sg : Nat) : Int), .iface T X, .int .u64 ((g : Nat) : Int), .bool false, .bool false, undef, undef, undef, undef, undef, .bool false, .bool false, undef, undef, undef, undef, undef, undef, undef, undef, .bool false, .bool false, undef, undef, undef, undef, undef, undef, undef, undef, undef, undef, undef, .bool false, .bool false, undef, undef, undef, undef, undef, .bool false] (CZ W) (by kernel_rfl) (by kernel_rfl) (by kernel_rfl) (by kernel_rfl) (by kernel_rfl) (by kernel_rfl) ⟨(Below.refl _ _).drew⟩ ?_ ?_ ?_
    · intro full hfull i oo hi hns ho x fl us hC hb
      simp [putAll, slotOf, Act.put] at hfull
      subst hfull
      have bx := hC.below
      rw [← bx.cell (p := ⟨w.heap.size, _, none⟩) hltW] at x0 x1 x2 x3
      have hC0 := hC.on (b' := fl) (Below.refl _ _)
      match i with
      | 0 => simp at ho; subst ho; simp [gwp, Region.wanted, yielded]; go_simp; first | done | exact hC0 | exact ⟨rfl, hC0⟩ | (simp; exact hC0)
      | 1 => simp at ho; subst ho; simp [gwp, Region.wanted, yielded]; go_simp; first | done | exact hC0 | exact ⟨rfl, hC0⟩ | (simp; exact hC0)
      | 2 =>
        simp at ho; subst ho; simp [gwp, Region.wanted, yielded]; go_simp
        refine (unhide HCG x bx).mono ?_
        rintro e w' ⟨rfl, hb2⟩
        go_simp
        first | done | exact hC.on hb2 | exact ⟨rfl, hC.on hb2⟩ | (simp; exact hC.on hb2)
      | 3 => simp at ho; subst ho; simp [gwp, Region.wanted, yielded]; go_simp; first | done | exact hC0 | exact ⟨rfl, hC0⟩ | (simp; exact hC0)
      | 4 => simp at ho; subst ho; simp [gwp, Region.wanted, yielded]; go_simp; first | done | exact hC0 | exact ⟨rfl, hC0⟩ | (simp; exact hC0)
      | 5 =>
        simp at ho; subst ho; simp [gwp, Region.wanted, yielded]; go_simp
        refine (unhide HCG x bx).mono ?_
        rintro e w' ⟨rfl, hb2⟩
        go_simp
        first | done | exact hC.on hb2 | exact ⟨rfl, hC.on hb2⟩ | (simp; exact hC.on hb2)
      | 6 => simp at ho; subst ho; simp [gwp, Region.wanted, yielded]; go_simp; first | done | exact hC0 | exact ⟨rfl, hC0⟩ | (simp; exact hC0)
      | 7 => simp at ho; subst ho; simp [gwp, Region.wanted, yielded]; go_simp; first | done | exact hC0 | exact ⟨rfl, hC0⟩ | (simp; exact hC0)
      | 8 => simp at ho; subst ho; simp [gwp, Region.wanted, yielded]; go_simp; first | done | exact hC0 | exact ⟨rfl, hC0⟩ | (simp; exact hC0)
      | 9 => simp at ho; subst ho; simp [gwp, Region.wanted, yielded]; go_simp; first | done | exact hC0 | exact ⟨rfl, hC0⟩ | (simp; exact hC0)
      | 10 => simp at ho; subst ho; simp [gwp, Region.wanted, yielded]; go_simp; first | done | exact hC0 | exact ⟨rfl, hC0⟩ | (simp; exact hC0)
      | 11 => simp at ho; subst ho; simp [gwp, Region.wanted, yielded]; go_simp; first | done | exact hC0 | exact ⟨rfl, hC0⟩ | (simp; exact hC0)
      | 12 => simp at ho; subst ho; simp [gwp, Region.wanted, yielded]; go_simp; first | done | exact hC0 | exact ⟨rfl, hC0⟩ | (simp; exact hC0)
      | 13 => simp at ho; subst ho; simp [gwp, Region.wanted, yielded]; go_simp; first | done | exact hC0 | exact ⟨rfl, hC0⟩ | (simp; exact hC0)
      | 14 => simp at ho; subst ho; simp [gwp, Region.wanted, yielded]; go_simp; first | done | exact hC0 | exact ⟨rfl, hC0⟩ | (simp; exact hC0)
      | 15 => simp at ho; subst ho; simp [gwp, Region.wanted, yielded]; go_simp; first | done | exact hC0 | exact ⟨rfl, hC0⟩ | (simp; exact hC0)
      | 16 => simp at ho; subst ho; simp [gwp, Region.wanted, yielded]; go_simp; first | done | exact hC0 | exact ⟨rfl, hC0⟩ | (simp; exact hC0)
      | 17 => simp at ho; subst ho; simp [gwp, Region.wanted, yielded]; go_simp; first | done | exact hC0 | exact ⟨rfl, hC0⟩ | (simp; exact hC0)
      | 18 => simp at ho; subst ho; simp [gwp, Region.wanted, yielded]; go_simp; first | done | exact hC0 | exact ⟨rfl, hC0⟩ | (simp; exact hC0)
      | 19 => simp at ho; subst ho; simp [gwp, Region.wanted, yielded]; go_simp; first | done | exact hC0 | exact ⟨rfl, hC0⟩ | (simp; exact hC0)
      | 20 => simp at ho; subst ho; simp [gwp, Region.wanted, yielded]; go_simp; first | done | exact hC0 | exact ⟨rfl, hC0⟩ | (simp; exact hC0)
      | 21 => simp at ho; subst ho; simp [gwp, Region.wanted, yielded]; go_simp; first | done | exact hC0 | exact ⟨rfl, hC0⟩ | (simp; exact hC0)
      | 22 => simp at ho; subst ho; simp [gwp, Region.wanted, yielded]; go_simp; first | done | exact hC0 | exact ⟨rfl, hC0⟩ | (simp; exact hC0)
      | 23 => simp at ho; subst ho; simp [gwp, Region.wanted, yielded]; go_simp; first | done | exact hC0 | exact ⟨rfl, hC0⟩ | (simp; exact hC0)
      | 24 => simp at ho; subst ho; simp [gwp, Region.wanted, yielded]; go_simp; first | done | exact hC0 | exact ⟨rfl, hC0⟩ | (simp; exact hC0)
      | 25 => simp at ho; subst ho; simp [gwp, Region.wanted, yielded]; go_simp; first | done | exact hC0 | exact ⟨rfl, hC0⟩ | (simp; exact hC0)
      | 26 => simp at ho; subst ho; simp [gwp, Region.wanted, yielded]; go_simp; first | done | exact hC0 | exact ⟨rfl, hC0⟩ | (simp; exact hC0)
      | 27 => simp at ho; subst ho; simp [gwp, Region.wanted, yielded]; go_simp; first | done | exact hC0 | exact ⟨rfl, hC0⟩ | (simp; exact hC0)
      | 28 => simp at ho; subst ho; simp [gwp, Region.wanted, yielded]; go_simp; first | done | exact hC0 | exact ⟨rfl, hC0⟩ | (simp; exact hC0)
      | 29 => simp at ho; subst ho; simp [gwp, Region.wanted, yielded]; go_simp; first | done | exact hC0 | exact ⟨rfl, hC0⟩ | (simp; exact hC0)
      | 30 => simp at ho; subst ho; simp [gwp, Region.wanted, yielded]; go_simp; first | done | exact hC0 | exact ⟨rfl, hC0⟩ | (simp; exact hC0)
      | 31 => simp at ho; subst ho; simp [gwp, Region.wanted, yielded]; go_simp; first | done | exact hC0 | exact ⟨rfl, hC0⟩ | (simp; exact hC0)
      | 32 => simp at ho; subst ho; simp [gwp, Region.wanted, yielded]; go_simp; first | done | exact hC0 | exact ⟨rfl, hC0⟩ | (simp; exact hC0)
      | 33 => simp at ho; subst ho; simp [gwp, Region.wanted, yielded]; go_simp; first | done | exact hC0 | exact ⟨rfl, hC0⟩ | (simp; exact hC0)
      | 34 => simp at ho; subst ho; simp [gwp, Region.wanted, yielded]; go_simp; first | done | exact hC0 | exact ⟨rfl, hC0⟩ | (simp; exact hC0)
      | 35 => simp at ho; subst ho; simp [gwp, Region.wanted, yielded]; go_simp; first | done | exact hC0 | exact ⟨rfl, hC0⟩ | (simp; exact hC0)
      | 36 => simp at ho; subst ho; simp [gwp, Region.wanted, yielded]; go_simp; first | done | exact hC0 | exact ⟨rfl, hC0⟩ | (simp; exact hC0)
      | 37 => simp at ho; subst ho; simp [gwp, Region.wanted, yielded]; go_simp; first | done | exact hC0 | exact ⟨rfl, hC0⟩ | (simp; exact hC0)
      | 38 => simp at ho; subst ho; simp [gwp, Region.wanted, yielded]; go_simp; first | done | exact hC0 | exact ⟨rfl, hC0⟩ | (simp; exact hC0)
      | 39 => simp at ho; subst ho; simp [gwp, Region.wanted, yielded]; go_simp; first | done | exact hC0 | exact ⟨rfl, hC0⟩ | (simp; exact hC0)
      | 40 => simp at ho; subst ho; simp [gwp, Region.wanted, yielded]; go_simp; first | done | exact hC0 | exact ⟨rfl, hC0⟩ | (simp; exact hC0)
      | 41 => simp at ho; subst ho; simp [gwp, Region.wanted, yielded]; go_simp; first | done | exact hC0 | exact ⟨rfl, hC0⟩ | (simp; exact hC0)
      | 42 => simp at ho; subst ho; simp [gwp, Region.wanted, yielded]; go_simp; first | done | exact hC0 | exact ⟨rfl, hC0⟩ | (simp; exact hC0)
      | 43 => simp at ho; subst ho; simp [gwp, Region.wanted, yielded]; go_simp; first | done | exact hC0 | exact ⟨rfl, hC0⟩ | (simp; exact hC0)
      | i + 44 => omega
    · intro full hfull us j hj
      simp at hj
    · intro full hfull us wz hus hC
      simp [putAll, slotOf, Act.put] at hfull
      subst hfull
      match us, hus with
      | [], _ =>
      have HBz := hide ((unhide HBW).trans (hC.below.mono (unhide HBW).size))
      clear hC
      simp [putP]
      go_wp2_with fail
      go_ret
      exact ⟨ret_bool (unhide HR).symm, unhide HBz⟩
end Go.Proofs.YthkhaemlcmkkjaxGreat
