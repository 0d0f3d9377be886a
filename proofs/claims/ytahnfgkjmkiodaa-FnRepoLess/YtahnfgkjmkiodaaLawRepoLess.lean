/- The walk of the law FnRepoLess: of every code it answers true, and writes nothing that was there. -/
import Derived.Test.YtahnfgkjmkiodaaDrawL
import Derived.Test.YtahnfgkjmkiodaaLessA
import Derived.Test.YtahnfgkjmkiodaaImplD
import Derived.Test.YtahnfgkjmkiodaaSpecC
namespace Go.Proofs.Ytahnfgkjmkiodaa
set_option linter.unusedVariables false
set_option linter.unusedSimpArgs false
open Go.RowKit Go.Deep

theorem PacksAt.take {S : Nat → Nat → Prop} {w : World} {a : Option Addr} {l : List PackD} (h : PacksAt S w a l) (k : Nat) : PacksAt S w a (l.take k) := by
  obtain ⟨h0, h⟩ := h
  refine ⟨by simp; omega, ?_⟩
  rcases h with h | ⟨b, o, ha, hS, h⟩
  · left; rw [h]; simp
  · right
    refine ⟨b, o, ha, hS, fun i hi => ?_⟩
    simp at hi
    have hi1 : i < k := by omega
    have hi2 : i < l.length := by omega
    have e : (l.take k).getD i dPack = l.getD i dPack := by simp [List.getD, List.getElem?_take, hi1, hi2]
    rw [e]
    exact h i (by omega)
/-- Packs whose cells are those of others, the first one once more behind them. -/
theorem PacksAt.twice {w : World} {g g9 : Nat} {l : List PackD} (h : PacksAt (Old w) w (some ⟨g, 0, none⟩) l) (hl : 0 < l.length) (hm : l.length + 1 ≤ maxLen) (h9 : g9 < w.heap.size) (he : ∀ j, j < l.length * 6 → w.cell? ⟨g9, j, none⟩ = w.cell? ⟨g, j, none⟩) (he2 : ∀ j, j < 6 → w.cell? ⟨g9, l.length * 6 + j, none⟩ = w.cell? ⟨g, j, none⟩) :
    PacksAt (Old w) w (some ⟨g9, 0, none⟩) (l ++ [l.getD 0 dPack]) := by
  obtain ⟨h0, h⟩ := h
  refine ⟨by simpa using hm, Or.inr ⟨g9, 0, rfl, h9, fun i hi => ?_⟩⟩
  rcases h with h | ⟨b, o, ha, hS, h⟩
  · rw [h] at hl; simp at hl
  simp at ha
  obtain ⟨rfl, rfl⟩ := ha
  simp at hi
  by_cases e : i < l.length
  · have e1 : (l ++ [l.getD 0 dPack]).getD i dPack = l.getD i dPack := by simp [List.getD, List.getElem?_append, e]
    rw [e1]
    obtain ⟨a1, c1, a2, c2, a3, c3, hc, hv⟩ := h i e
    exact ⟨a1, c1, a2, c2, a3, c3, ⟨(he _ (by omega)).trans hc.name, (he _ (by omega)).trans hc.ver, (he _ (by omega)).trans hc.size, (he _ (by omega)).trans hc.deps, (he _ (by omega)).trans hc.pres, (he _ (by omega)).trans hc.bans⟩, hv⟩
  · have ei : i = l.length := by omega
    subst ei
    have e1 : (l ++ [l.getD 0 dPack]).getD l.length dPack = l.getD 0 dPack := by simp [List.getD]
    rw [e1]
    obtain ⟨a1, c1, a2, c2, a3, c3, hc, hv⟩ := h 0 hl
    simp only [Nat.zero_mul, Nat.zero_add] at hc
    refine ⟨a1, c1, a2, c2, a3, c3, ⟨?_, ?_, ?_, ?_, ?_, ?_⟩, hv⟩
    · rw [Nat.zero_add]; exact (he2 0 (by omega)).trans hc.name
    · rw [Nat.zero_add]; exact (he2 1 (by omega)).trans (by simpa using hc.ver)
    · rw [Nat.zero_add]; exact (he2 2 (by omega)).trans (by simpa using hc.size)
    · rw [Nat.zero_add]; exact (he2 3 (by omega)).trans (by simpa using hc.deps)
    · rw [Nat.zero_add]; exact (he2 4 (by omega)).trans (by simpa using hc.pres)
    · rw [Nat.zero_add]; exact (he2 5 (by omega)).trans (by simpa using hc.bans)

set_option maxRecDepth 10000 in
set_option maxHeartbeats 8000000 in
theorem less_any (a : Option Addr) (n c : Nat) (w : World) (h : CodeAt w.heap.size w a n) (hc : n ≤ c) (hc2 : c ≤ maxLen) :
    Calls Try.prog 4 #[.slice a n c] w fun e w' => e = .returned (.bool true) ∧ Below w.heap.size w w' := by
  have hmx := hc2
  unfold maxLen at hmx
  by_cases hbig : 1048576 < n
  · have hb' : (1048576 : Int) < (n : Int) := by omega
    go_enter Try.func4, Try.ntmps4
    go_wp2_with fail
    go_ret
    exact ⟨rfl, Below.refl _ _⟩
  have hb' : ¬ (1048576 : Int) < (n : Int) := by omega
  go_enter Try.func4, Try.ntmps4
  go_wp2_with fail
  refine (DrawRepoOk_V a n c w h (by omega) hc hc2).mono ?_
  rintro e w1 ⟨⟨v, room, rfl, hV⟩, b1⟩
  obtain ⟨va, vn, vc, rfl, hvc, hvN, hvm⟩ := SlBy.slice hV
  obtain ⟨l, rfl, hP⟩ := V2.packs hV
  have hz1 := b1.size
  have bA := (Below.refl w1.heap.size w1).alloc (Nat.le_refl _) (.cells #[.slice va l.length vc, .int .i64 room] 25)
  have HP := hide (hP.on bA)
  have HV := hide (V2.ev hV (Ev.of_below (B := 0) bA))
  have HB := hide (b1.trans (bA.mono hz1))
  clear hV hP b1 bA h
  go_wp2_with fail
  refine (implRepoOk_any va l vc room _ (unhide HP)).mono ?_
  rintro e w2 ⟨rfl, b2⟩
  have hz2 := b2.size
  simp at hz2
  have HP2 := hide ((unhide HP).on b2)
  have HV2 := hide (V2.ev (unhide HV) (Ev.of_below (B := 0) b2))
  have HB2 := hide ((unhide HB).trans (b2.mono (unhide HB).size))
  have x0 := b2.cell (p := ⟨w1.heap.size, 0, none⟩) (by simp)
  have x1 := b2.cell (p := ⟨w1.heap.size, 1, none⟩) (by simp)
  simp at x0 x1
  clear HP HB b2 HV
  go_wp2_with fail
  refine (specRepoOk_any va l vc room _ (unhide HP2)).mono ?_
  rintro e w3 ⟨rfl, b3⟩
  have hz3 := b3.size
  have HP3 := hide ((unhide HP2).on b3)
  have HV3 := hide (V2.ev (unhide HV2) (Ev.of_below (B := 0) b3))
  have HB3 := hide ((unhide HB2).trans (b3.mono (unhide HB2).size))
  rw [← b3.cell (p := ⟨w1.heap.size, _, none⟩) (by simp; omega)] at x0 x1
  clear HP2 HB2 b3 HV2
  have hvm' := hvm
  unfold maxLen at hvm'
  cases hok : repoB ⟨l, room⟩ with
  | false =>
    go_wp2_with fail
    refine (specRepoOk_any va l vc room _ (unhide HP3)).mono ?_
    rintro e w4 ⟨rfl, b4⟩
    have HB4 := hide ((unhide HB3).trans (b4.mono (unhide HB3).size))
    rw [hok]
    clear b4 HP3 HB3 HV3 hok hvc hvN hvm hvm'
    go_wp2_with fail
    go_ret
    exact ⟨rfl, unhide HB4⟩
  | true =>
    by_cases hl0 : l.length = 0
    · have hlb : ((l.length : Int) == 0) = true := by simp [hl0]
      clear hl0
      go_wp2_with fail
      refine (specRepoOk_any va l vc room _ (unhide HP3)).mono ?_
      rintro e w4 ⟨rfl, b4⟩
      have HB4 := hide ((unhide HB3).trans (b4.mono (unhide HB3).size))
      rw [hok]
      clear b4 HP3 HB3 HV3 hok hvc hvN hvm hvm'
      go_wp2_with fail
      go_ret
      exact ⟨rfl, unhide HB4⟩
    · have hlb : ((l.length : Int) == 0) = false := by
        rw [beq_eq_false_iff_ne]
        omega
      have hl8 : l.length ≤ 8 := by
        simp only [repoB, Bool.and_eq_true, decide_eq_true_eq] at hok
        exact hok.1.1.1
      have hlt1 : w1.heap.size < w3.heap.size := by omega
      have HOK := hide hok
      clear hok
      have hsub : IntKind.i64.wrap ((l.length : Int) - 1) = ((l.length - 1 : Nat) : Int) := by rw [wr64 _ (by omega)]; omega
      have hs0 : (0 : Int) ≤ ((l.length - 1 : Nat) : Int) := by omega
      have hs1 : ((l.length - 1 : Nat) : Int) ≤ (vc : Int) := by omega
      go_upto_region 10 with fail
      obtain ⟨g, C0, rfl, hsg, hC0, hCs0, _, _, _⟩ := SlBy.addr (unhide HV3) (by omega)
      obtain ⟨px, py, pz, u1, u2, u3, k0, k1, k2, k3, k4, k5, hPV⟩ := V2.pack (i := 0) (unhide HV3) (by omega)
      obtain ⟨s1, m1, d1, rfl, _⟩ := SlBy.slice hPV.deps
      obtain ⟨s2, m2, d2, rfl, _⟩ := SlBy.slice hPV.pres
      obtain ⟨s3, m3, d3, rfl, _⟩ := SlBy.slice hPV.bans
      simp only [Nat.zero_mul, Nat.zero_add] at k0 k1 k2 k3 k4 k5
      obtain ⟨xs, hxs⟩ : ∃ xs, xs = C0.toList.take (l.length * 6) := ⟨_, rfl⟩
      have hxl : xs.length = l.length * 6 := by rw [hxs]; simp; omega
      have hgw : g < w3.heap.size := (Array.getElem?_eq_some_iff.1 hC0).1
      have hxc : ∀ j u, xs[j]? = some u → w3.cell? ⟨g, j, none⟩ = some u := fun j u hu => by
        rw [cell_of_row w3 g j C0 _ _ hC0]
        rw [hxs, List.getElem?_take] at hu
        split at hu
        · simpa using hu
        · cases hu
      have box0 : (((w3.alloc (.cells #[.slice (some ⟨g, 0, none⟩) (l.length - 1) vc, .int .i64 room] 25)).alloc (.cells #[.slice (some ⟨g, 0, none⟩) l.length vc, .int .i64 room] 25))).heap[w3.heap.size + 1]? = some (repoCells (.slice (some ⟨g, 0, none⟩) l.length vc) room) := by
        have := blk_alloc_new (w3.alloc (.cells #[.slice (some ⟨g, 0, none⟩) (l.length - 1) vc, .int .i64 room] 25)) (.cells #[.slice (some ⟨g, 0, none⟩) l.length vc, .int .i64 room] 25)
        simpa [repoCells] using this
      have bW := ((Below.refl w3.heap.size w3).alloc (Nat.le_refl _) (.cells #[.slice (some ⟨g, 0, none⟩) (l.length - 1) vc, .int .i64 room] 25)).alloc (by simp) (.cells #[.slice (some ⟨g, 0, none⟩) l.length vc, .int .i64 room] 25)
      have HBW := hide bW
      have HC0 := hide hC0
      have HK := hide (And.intro k0 (And.intro k1 (And.intro k2 (And.intro k3 (And.intro k4 k5)))))
      have HX0 := hide x0
      have HBX := hide box0
      clear bW hC0 k0 k1 k2 k3 k4 k5 hPV box0 x0 x1 hxs
      obtain ⟨i0, hi0, hz0, hz1i, hz2i⟩ := info_parts Try.infoPack
      go_cut [] from 7 to 52 (fun wx => EL (w3.heap.size + 1 + 1) w1.heap.size (w3.heap.size + 1) g l.length vc room xs [.string px, .int .i64 py, .int .i64 pz, .slice s1 m1 d1, .slice s2 m2 d2, .slice s3 m3 d3] ((w3.alloc (.cells #[.slice (some ⟨g, 0, none⟩) (l.length - 1) vc, .int .i64 room] 25)).alloc (.cells #[.slice (some ⟨g, 0, none⟩) l.length vc, .int .i64 room] 25)).drew wx ∧ TL (w3.heap.size + 1 + 1) w1.heap.size (w3.heap.size + 1) g l.length vc room xs [.string px, .int .i64 py, .int .i64 pz, .slice s1 m1 d1, .slice s2 m2 d2, .slice s3 m3 d3] 11 undef wx)
      case first =>
        refine wp_region_typed (by kernel_rfl) (by kernel_rfl) (by kernel_rfl) (TL (w3.heap.size + 1 + 1) w1.heap.size (w3.heap.size + 1) g l.length vc room xs [.string px, .int .i64 py, .int .i64 pz, .slice s1 m1 d1, .slice s2 m2 d2, .slice s3 m3 d3]) (fun _ x => ∃ u, x.heap[w3.heap.size + 1]? = some (repoCells u room)) (EL (w3.heap.size + 1 + 1) w1.heap.size (w3.heap.size + 1) g l.length vc room xs [.string px, .int .i64 py, .int .i64 pz, .slice s1 m1 d1, .slice s2 m2 d2, .slice s3 m3 d3]) (fun _ _ _ h k => h.trans k) (EL.refl _) (fun i v x y h k => k.keep i v h) ⟨_, unhide HBX⟩ ?_ ?_
        · intro i o hi a x nn hnn ha hc he hd
          obtain ⟨uy, hby⟩ := hc
          have hzx : w3.heap.size + 1 + 1 ≤ x.heap.size := by have := he.size; simpa using this
          have same : ∀ b, b < w3.heap.size → x.heap[b]? = w3.heap[b]? := fun b hb => (he.old b (by omega) (by simp; omega) (by omega)).trans ((unhide HBW).block b hb)
          have HBY := hide hby
          have HE := hide he
          have HSM := hide same
          clear hby he same
          match i with
          | 0 =>
            simp at hi
            subst hi
            go_simp
            exact ⟨_, rfl, ⟨_, rfl, hzx, blk_alloc_new _ _⟩, ⟨uy, (blk_alloc_lt _ _ _ (by omega)).trans (unhide HBY)⟩, EL.alloc _ _⟩
          | 1 =>
            simp at hi
            subst hi
            have h3 : a.tmps[3]? = some (.pointer (some ⟨w1.heap.size, 0, none⟩)) := (ha.slot 3 (slots_not (by kernel_rfl))).trans rfl
            go_simp
            exact ⟨_, rfl, rfl, ⟨uy, unhide HBY⟩, EL.refl _⟩
          | 2 =>
            simp at hi
            subst hi
            have h1' : a.tmps[43]?.getD undef = .pointer (some ⟨w1.heap.size, 0, none⟩) := by
              have h := hd ⟨1, .data⟩ (by simp) rfl
              rw [valOf_at (d := 43) rfl] at h
              exact h
            have x0 : x.cell? ⟨w1.heap.size, 0, none⟩ = some (.slice (some ⟨g, 0, none⟩) l.length vc) := (World.cell?_of_block (w := w3) (a := ⟨w1.heap.size, 0, none⟩) (unhide HSM _ hlt1)).trans (unhide HX0)
            go_simp
            exact ⟨_, rfl, rfl, ⟨uy, unhide HBY⟩, EL.refl _⟩
          | 3 =>
            simp at hi
            subst hi
            have h2 : a.tmps[44]?.getD undef = .slice (some ⟨g, 0, none⟩) l.length vc := by
              have h := hd ⟨2, .data⟩ (by simp) rfl
              rw [valOf_at (d := 44) rfl] at h
              exact h
            obtain ⟨g0, hg0, hbg, hC⟩ := hd ⟨0, .data⟩ (by simp) rfl
            rw [valOf_at (d := 42) rfl] at hg0
            have hr := run_append_grow (P := Try.prog) x 23 23 37 i0 _ Try.underlying23 hi0 hz0 ⟨g0, 0, none⟩ 0 0 [] (by simp) (by simp) ⟨g, 0, none⟩ l.length vc xs (by rw [hz1i]; exact hxl) (fun j u hu => by rw [show (⟨g, 0, none⟩ : Addr).add j = ⟨g, j, none⟩ by unfold Addr.add; split <;> simp_all, World.cell?_of_block (w := w3) (a := ⟨g, j, none⟩) (unhide HSM _ hgw)]; exact hxc j u hu) (by omega) (by omega) (growslice_fits (by omega) (by rw [hz2i]; omega))
            have hge := grownCap_ge x (0 + l.length) 0 37
            have hcap := grownCap_le_maxLen x (0 + l.length) 0 37 (by unfold maxLen; omega)
            have hbel : Below x.heap.size x _ := (Below.refl x.heap.size x).drew.alloc (Nat.le_refl _) (.cells (([] : List Value).toArray ++ xs.toArray ++ Builtin.zeroCells (Value.agg #[.string ⟨#[]⟩, .int .i64 0, .int .i64 0, .slice none 0 0, .slice none 0 0, .slice none 0 0]).cells (grownCap x (0 + l.length) 0 37 - (0 + l.length))) 37)
            refine wp_append_run _ _ _ rfl _ _ _ _ ((eval_at _ _).trans hg0) ((eval_at _ _).trans h2) hr ⟨_, rfl, ⟨x.heap.size, grownCap x (0 + l.length) 0 37, _, by simp, hzx, heap_alloc_new x.drew _, by omega, hcap, ?_, ?_⟩, ⟨uy, (hbel.block _ (by omega)).trans (unhide HBY)⟩, EL.of_below hbel⟩
            · simp only [Array.size_append, List.size_toArray, size_zeroCells, hxl]
              show ([] : List Value).length + l.length * 6 + (grownCap x (0 + l.length) 0 37 - (0 + l.length)) * 6 = _
              simp only [List.length_nil]
              omega
            · simp [hxl]
          | 4 =>
            simp at hi
            subst hi
            have h3 : a.tmps[3]? = some (.pointer (some ⟨w1.heap.size, 0, none⟩)) := (ha.slot 3 (slots_not (by kernel_rfl))).trans rfl
            go_simp
            exact ⟨_, rfl, rfl, ⟨uy, unhide HBY⟩, EL.refl _⟩
          | 5 =>
            simp at hi
            subst hi
            have h1' : a.tmps[46]?.getD undef = .pointer (some ⟨w1.heap.size, 0, none⟩) := by
              have h := hd ⟨4, .data⟩ (by simp) rfl
              rw [valOf_at (d := 46) rfl] at h
              exact h
            have x0 : x.cell? ⟨w1.heap.size, 0, none⟩ = some (.slice (some ⟨g, 0, none⟩) l.length vc) := (World.cell?_of_block (w := w3) (a := ⟨w1.heap.size, 0, none⟩) (unhide HSM _ hlt1)).trans (unhide HX0)
            go_simp
            exact ⟨_, rfl, rfl, ⟨uy, unhide HBY⟩, EL.refl _⟩
          | 6 =>
            simp at hi
            subst hi
            have h2 : a.tmps[47]?.getD undef = .slice (some ⟨g, 0, none⟩) l.length vc := by
              have h := hd ⟨5, .data⟩ (by simp) rfl
              rw [valOf_at (d := 47) rfl] at h
              exact h
            have hpos : (0 : Int) < (l.length : Int) := by omega
            have hpn : 0 < l.length := by omega
            go_simp
            exact ⟨_, rfl, rfl, ⟨uy, unhide HBY⟩, EL.refl _⟩
          | 7 =>
            simp at hi
            subst hi
            have h6 : a.tmps[48]?.getD undef = .pointer (some ⟨g, 0, none⟩) := by
              have h := hd ⟨6, .data⟩ (by simp) rfl
              rw [valOf_at (d := 48) rfl] at h
              exact h
            obtain ⟨k0, k1, k2, k3, k4, k5⟩ := unhide HK
            rw [← World.cell?_of_block (w := w3) (a := ⟨g, _, none⟩) (unhide HSM _ hgw)] at k0 k1 k2 k3 k4 k5
            go_simp
            exact ⟨_, rfl, rfl, ⟨uy, unhide HBY⟩, EL.refl _⟩
          | 8 =>
            simp at hi
            subst hi
            have h7 : a.tmps[49]?.getD undef = .agg #[.string px, .int .i64 py, .int .i64 pz, .slice s1 m1 d1, .slice s2 m2 d2, .slice s3 m3 d3] := by
              have h := hd ⟨7, .data⟩ (by simp) rfl
              rw [valOf_at (d := 49) rfl] at h
              exact h
            go_simp
            exact ⟨_, rfl, ⟨_, rfl, hzx, blk_alloc_new _ _⟩, ⟨uy, (blk_alloc_lt _ _ _ (by omega)).trans (unhide HBY)⟩, EL.alloc _ _⟩
          | 9 =>
            simp at hi
            subst hi
            obtain ⟨gv, cap, C, hv, hbv, hC, hnc, hcm, hCs, htk⟩ := hd ⟨3, .data⟩ (by simp) rfl
            obtain ⟨g1, hg1, hb1, hC1⟩ := hd ⟨8, .data⟩ (by simp) rfl
            rw [valOf_at (d := 45) rfl] at hv
            rw [valOf_at (d := 50) rfl] at hg1
            obtain ⟨k0, k1, k2, k3, k4, k5, _⟩ := six hC1
            have hnews : ∀ (j : Nat) (u : Value), [Value.string px, .int .i64 py, .int .i64 pz, .slice s1 m1 d1, .slice s2 m2 d2, .slice s3 m3 d3][j]? = some u → x.cell? ((⟨g1, 0, none⟩ : Addr).add j) = some u := fun j u hu => by
              match j, hu with
              | 0, hu => simp at hu; subst hu; simpa [Addr.add] using k0
              | 1, hu => simp at hu; subst hu; simpa [Addr.add] using k1
              | 2, hu => simp at hu; subst hu; simpa [Addr.add] using k2
              | 3, hu => simp at hu; subst hu; simpa [Addr.add] using k3
              | 4, hu => simp at hu; subst hu; simpa [Addr.add] using k4
              | 5, hu => simp at hu; subst hu; simpa [Addr.add] using k5
            by_cases hroom : l.length + 1 ≤ cap
            · have hr := run_append_room (P := Try.prog) x 23 23 37 i0 Try.underlying23 hi0 gv l.length cap C hC ⟨g1, 0, none⟩ 1 1 [.string px, .int .i64 py, .int .i64 pz, .slice s1 m1 d1, .slice s2 m2 d2, .slice s3 m3 d3] (by rw [hz1i]; rfl) hnews (by intro u hu; simp at hu; rcases hu with rfl | rfl | rfl | rfl | rfl | rfl <;> rfl) hroom (by rw [hz1i]; simp; omega)
              rw [hz1i] at hr
              have hset := setRow_heap x gv C ((C.toList.take (l.length * 6) ++ [Value.string px, .int .i64 py, .int .i64 pz, .slice s1 m1 d1, .slice s2 m2 d2, .slice s3 m3 d3] ++ C.toList.drop (l.length * 6 + [Value.string px, .int .i64 py, .int .i64 pz, .slice s1 m1 d1, .slice s2 m2 d2, .slice s3 m3 d3].length)).toArray) 37 (0, 0) hC
              have hEL := EL.in_place (base := w3.heap.size + 1 + 1) (rbk := w1.heap.size) (yb := w3.heap.size + 1) (g := g) (vc := vc) (room := room) (six := [.string px, .int .i64 py, .int .i64 pz, .slice s1 m1 d1, .slice s2 m2 d2, .slice s3 m3 d3]) rfl (show 1 ≤ l.length by omega) hbv hC hCs hroom htk hset (by simp) (fun b hb => setRow_other x gv b _ hb) rfl rfl rfl (by simp)
              have hyb : w3.heap.size + 1 ≠ gv := by omega
              refine wp_append_run _ _ _ rfl _ _ _ _ ((eval_at _ _).trans hv) ((eval_at _ _).trans hg1) hr ⟨_, rfl, ⟨_, _, _, rfl, hbv, hset, hroom, hcm, ?_, ?_⟩, ⟨uy, (setRow_other x gv _ _ hyb).trans (unhide HBY)⟩, hEL⟩
              · simp
                omega
              · have hlen : (C.toList.take (l.length * 6)).length = l.length * 6 := by simp; omega
                simp only [List.toList_toArray]
                rw [List.take_append_of_le_length (by simp; omega), List.take_of_length_le (by simp; omega), htk]
            · have hr := run_append_grow (P := Try.prog) x 23 23 37 i0 _ Try.underlying23 hi0 hz0 ⟨gv, 0, none⟩ l.length cap xs (by rw [hz1i]; exact hxl) (fun j u hu => by
                rw [show (⟨gv, 0, none⟩ : Addr).add j = ⟨gv, j, none⟩ by unfold Addr.add; split <;> simp_all, cell_of_row x gv j C _ _ hC]
                rw [← htk, List.getElem?_take] at hu
                split at hu
                · simpa using hu
                · cases hu) ⟨g1, 0, none⟩ 1 1 [.string px, .int .i64 py, .int .i64 pz, .slice s1 m1 d1, .slice s2 m2 d2, .slice s3 m3 d3] (by rw [hz1i]; rfl) hnews (by omega) (by omega) (growslice_fits (by omega) (by rw [hz2i]; omega))
              have hge := grownCap_ge x (l.length + 1) cap 37
              have hcap := grownCap_le_maxLen x (l.length + 1) cap 37 (by unfold maxLen; omega)
              have hbel : Below x.heap.size x _ := (Below.refl x.heap.size x).drew.alloc (Nat.le_refl _) (.cells (xs.toArray ++ [Value.string px, .int .i64 py, .int .i64 pz, .slice s1 m1 d1, .slice s2 m2 d2, .slice s3 m3 d3].toArray ++ Builtin.zeroCells (Value.agg #[.string ⟨#[]⟩, .int .i64 0, .int .i64 0, .slice none 0 0, .slice none 0 0, .slice none 0 0]).cells (grownCap x (l.length + 1) cap 37 - (l.length + 1))) 37)
              refine wp_append_run _ _ _ rfl _ _ _ _ ((eval_at _ _).trans hv) ((eval_at _ _).trans hg1) hr ⟨_, rfl, ⟨x.heap.size, grownCap x (l.length + 1) cap 37, _, rfl, hzx, heap_alloc_new x.drew _, hge, hcap, ?_, ?_⟩, ⟨uy, (hbel.block _ (by omega)).trans (unhide HBY)⟩, EL.of_below hbel⟩
              · simp only [Array.size_append, List.size_toArray, size_zeroCells, hxl]
                show l.length * 6 + 6 + (grownCap x (l.length + 1) cap 37 - (l.length + 1)) * 6 = _
                omega
              · have e6 : (xs ++ [Value.string px, .int .i64 py, .int .i64 pz, .slice s1 m1 d1, .slice s2 m2 d2, .slice s3 m3 d3]).length = (l.length + 1) * 6 := by simp [hxl]; omega
                simp only [Array.toList_append, List.toList_toArray]
                rw [List.take_append_of_le_length (by omega), List.take_of_length_le (by omega)]
          | 10 =>
            simp at hi
            subst hi
            have h6 : a.tmps[6]? = some (.pointer (some ⟨w3.heap.size + 1, 0, none⟩)) := (ha.slot 6 (slots_not (by kernel_rfl))).trans rfl
            go_simp
            exact ⟨_, rfl, rfl, ⟨uy, unhide HBY⟩, EL.refl _⟩
          | 11 =>
            simp at hi
            subst hi
            have h10 : a.tmps[52]?.getD undef = .pointer (some ⟨w3.heap.size + 1, 0, none⟩) := by
              have h := hd ⟨10, .data⟩ (by simp) rfl
              rw [valOf_at (d := 52) rfl] at h
              exact h
            have h9 := hd ⟨9, .data⟩ (by simp) rfl
            rw [valOf_at (d := 51) rfl] at h9
            obtain ⟨E11, T11⟩ := EL.store (rbk := w1.heap.size) (g := g) (vc := vc) (show w3.heap.size + 1 < w3.heap.size + 1 + 1 by omega) (unhide HBY) h9
            obtain ⟨gv, cap, C, hv, _⟩ := h9
            rw [hv] at E11 T11
            obtain ⟨b0, b1, bf⟩ := two (unhide HBY)
            have bf0 := bf 0
            have HN := hide (blk_set (unhide HBY) 0 (.slice (some ⟨gv, 0, none⟩) (l.length + 1) cap))
            have H1 := hide E11
            have H2 := hide T11
            clear E11 T11 bf
            go_simp
            exact ⟨unhide H2, ⟨_, unhide HN⟩, unhide H1⟩
          | i + 12 => simp at hi
        · intro a x ha hc he ht
          have h11 := ht 11 (by simp)
          have hl := ha.list
          simp [slotOf, List.range_succ] at hl
          rw [hl]
          clear hl
          rename_i J K1 hJ hK1
          exact hK1 _ _ (Met.intro (hJ _ _ ⟨_, _, _, _, _, _, _, _, _, _, _, _, _, _, _, _, _, _, _, _, _, _, _, _, _, _, _, _, _, _, _, _, _, _, _, _, _, _, _, _, _, _, _, _, _, _, ⟨he, h11⟩, rfl⟩))
      case rest =>
        obtain ⟨he, u9, hby, g9, c9, C9, rfl, hb9, hC9, hn9, hc9, hs9, ht9⟩ := hcut
        rename World => w4
        have hz4 : w3.heap.size + 1 + 1 ≤ w4.heap.size := by have := he.size; simpa using this
        have bx : w4.heap[w3.heap.size]? = some (repoCells (.slice (some ⟨g, 0, none⟩) (l.length - 1) vc) room) := (he.old w3.heap.size (by omega) (by simp; omega) (by omega)).trans ((blk_alloc_lt _ _ _ (by simp)).trans (blk_alloc_new w3 (.cells #[.slice (some ⟨g, 0, none⟩) (l.length - 1) vc, .int .i64 room] 25)))
        have B34 : Below w3.heap.size w3 w4 := ⟨he.os.trans (unhide HBW).os, he.tape.trans (unhide HBW).tape, he.output.trans (unhide HBW).output, by omega, fun b hb => (he.old b (by omega) (by simp; omega) (by omega)).trans ((unhide HBW).block b hb)⟩
        have hP4 := (unhide HP3).on B34
        have HB4 := hide ((unhide HB3).trans (B34.mono (unhide HB3).size))
        have hcell : ∀ j, w4.cell? ⟨g, j, none⟩ = w3.cell? ⟨g, j, none⟩ := fun j => World.cell?_of_block (w := w3) (a := ⟨g, j, none⟩) (B34.block g hgw)
        have hxj : ∀ j, j < l.length * 6 → w4.cell? ⟨g, j, none⟩ = xs[j]? := fun j hj => by
          rw [hcell, hxc j xs[j] (by simp [hxl, hj])]
          simp [hxl, hj]
        have hyj : ∀ j, j < (l.length + 1) * 6 → w4.cell? ⟨g9, j, none⟩ = (xs ++ [Value.string px, .int .i64 py, .int .i64 pz, .slice s1 m1 d1, .slice s2 m2 d2, .slice s3 m3 d3])[j]? := fun j hj => by
          rw [cell_of_row w4 g9 j C9 _ _ hC9, ← ht9, List.getElem?_take, if_pos hj]
          simp
        have hPy : PacksAt (Old w4) w4 (some ⟨g9, 0, none⟩) (l ++ [l.getD 0 dPack]) := by
          obtain ⟨k0, k1, k2, k3, k4, k5⟩ := unhide HK
          refine PacksAt.twice hP4 (by omega) (by unfold maxLen; omega) (Array.getElem?_eq_some_iff.1 hC9).1 (fun j hj => ?_) (fun j hj => ?_)
          · rw [hyj j (by omega), hxj j hj, List.getElem?_append_left (by omega)]
          · rw [hyj _ (by omega), List.getElem?_append_right (by omega), hxl, hcell]
            match j, hj with
            | 0, _ => simpa using k0.symm
            | 1, _ => simpa using k1.symm
            | 2, _ => simpa using k2.symm
            | 3, _ => simpa using k3.symm
            | 4, _ => simpa using k4.symm
            | 5, _ => simpa using k5.symm
        have hlt : (l.take (l.length - 1)).length = l.length - 1 := by simp
        have c1 := implRepoOk_any (some ⟨g, 0, none⟩) (l.take (l.length - 1)) vc room w4 (hP4.take _)
        rw [hlt, repo_less (unhide HOK)] at c1
        have HC1 := hide c1
        have HPy := hide hPy
        obtain ⟨x0, x1, _⟩ := two bx
        have HBY := hide hby
        clear he hby hC9 ht9 bx B34 hP4 hcell hxj hyj hPy c1
        go_wp2_with fail
        refine (unhide HC1).mono ?_
        rintro e w5 ⟨rfl, b5⟩
        have hl1 : (l ++ [l.getD 0 dPack]).length = l.length + 1 := by simp
        have c2 := implRepoOk_any (some ⟨g9, 0, none⟩) (l ++ [l.getD 0 dPack]) c9 room w5 ((unhide HPy).on b5)
        rw [hl1, repo_twice (by omega)] at c2
        have HC2 := hide c2
        have HB5 := hide ((unhide HB4).trans (b5.mono (unhide HB4).size))
        obtain ⟨y0, y1, _⟩ := two ((b5.block _ (by omega)).trans (unhide HBY))
        clear b5 c2 x0 x1 HB4 HPy HC1
        go_wp2_with fail
        refine (unhide HC2).mono ?_
        rintro e w6 ⟨rfl, b6⟩
        have HB6 := hide ((unhide HB5).trans (b6.mono (unhide HB5).size))
        clear b6 HB5 HC2 y0 y1
        go_wp2_with fail
        go_ret
        exact ⟨rfl, unhide HB6⟩
end Go.Proofs.Ytahnfgkjmkiodaa
