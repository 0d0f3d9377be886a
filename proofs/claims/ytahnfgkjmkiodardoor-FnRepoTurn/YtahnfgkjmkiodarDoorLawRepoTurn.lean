/- The walk of the law FnRepoTurn: of every two codes it answers true, and writes nothing that was there. -/
import Derived.Test.YtahnfgkjmkiodarDoorDrawM
import Derived.Test.YtahnfgkjmkiodarDoorTurnA
import Derived.Test.YtahnfgkjmkiodarDoorSpecC
import Derived.BigRegion
namespace Go.Proofs.YtahnfgkjmkiodarDoor
set_option linter.unusedVariables false
set_option linter.unusedSimpArgs false
open Go.RowKit Go.Deep

set_option maxRecDepth 10000 in
set_option maxHeartbeats 8000000 in
theorem turn_any (a : Option Addr) (n c : Nat) (a' : Option Addr) (n' c' : Nat) (w : World) (h : CodeAt w.heap.size w a n) (hc : n ≤ c) (hc2 : c ≤ maxLen) (hn' : n' ≤ maxLen) :
    Calls Tryd.prog 3 #[.slice a n c, .slice a' n' c'] w fun e w' => e = .returned (.bool true) ∧ Below w.heap.size w w' := by
  have hmx := hc2
  unfold maxLen at hmx
  by_cases hbig : 1048576 < n
  · have hb' : (1048576 : Int) < (n : Int) := by omega
    go_enter Tryd.func3, Tryd.ntmps3
    go_wp2_with fail
    go_ret
    exact ⟨rfl, Below.refl _ _⟩
  have hb' : ¬ (1048576 : Int) < (n : Int) := by omega
  have hmx' := hn'
  unfold maxLen at hmx'
  by_cases hbig2 : 1048576 < n'
  · have hb2 : (1048576 : Int) < (n' : Int) := by omega
    go_enter Tryd.func3, Tryd.ntmps3
    go_wp2_with fail
    go_ret
    exact ⟨rfl, Below.refl _ _⟩
  have hb2 : ¬ (1048576 : Int) < (n' : Int) := by omega
  go_enter Tryd.func3, Tryd.ntmps3
  go_wp2_with fail
  refine (DrawRepoOk_V a n c w h (by omega) hc hc2).mono ?_
  rintro e w1 ⟨⟨v, room, rfl, hV⟩, b1⟩
  obtain ⟨va, vn, vc, rfl, hvc, hvN, hvm⟩ := SlBy.slice hV
  obtain ⟨l, rfl, hP⟩ := V2.packs hV
  have hz1 := b1.size
  have bA := (Below.refl w1.heap.size w1).alloc (Nat.le_refl _) (.cells #[.slice va l.length vc, .int .i64 room] 25)
  have HP := hide (hP.on bA)
  have HV := hide (V2.ev hV (Ev.of_below (B := 0) bA))
  have HB := hide (b1.trans (bA.mono hz1))
  clear hV hP b1 bA h
  go_wp2_with fail
  refine (implRepoOk_any va l vc room _ (unhide HP)).mono ?_
  rintro e w2 ⟨rfl, b2⟩
  have hz2 := b2.size
  simp at hz2
  have HP2 := hide ((unhide HP).on b2)
  have HV2 := hide (V2.ev (unhide HV) (Ev.of_below (B := 0) b2))
  have HB2 := hide ((unhide HB).trans (b2.mono (unhide HB).size))
  have x0 := b2.cell (p := ⟨w1.heap.size, 0, none⟩) (by simp)
  have x1 := b2.cell (p := ⟨w1.heap.size, 1, none⟩) (by simp)
  simp at x0 x1
  clear HP HB b2 HV
  go_wp2_with fail
  refine (specRepoOk_any va l vc room _ (unhide HP2)).mono ?_
  rintro e w3 ⟨rfl, b3⟩
  have hz3 := b3.size
  have HP3 := hide ((unhide HP2).on b3)
  have HV3 := hide (V2.ev (unhide HV2) (Ev.of_below (B := 0) b3))
  have HB3 := hide ((unhide HB2).trans (b3.mono (unhide HB2).size))
  rw [← b3.cell (p := ⟨w1.heap.size, _, none⟩) (by simp; omega)] at x0 x1
  clear HP2 HB2 b3 HV2
  have hvm' := hvm
  unfold maxLen at hvm'
  cases hok : repoB ⟨l, room⟩ with
  | false =>
    go_wp2_with fail
    refine (specRepoOk_any va l vc room _ (unhide HP3)).mono ?_
    rintro e w4 ⟨rfl, b4⟩
    have HB4 := hide ((unhide HB3).trans (b4.mono (unhide HB3).size))
    rw [hok]
    clear b4 HP3 HB3 HV3 hok hvc hvN hvm hvm'
    go_wp2_with fail
    go_ret
    exact ⟨rfl, unhide HB4⟩
  | true =>
    by_cases hl0 : l.length < 2
    · have hlb : (l.length : Int) < 2 := by omega
      clear hl0
      go_wp2_with fail
      refine (specRepoOk_any va l vc room _ (unhide HP3)).mono ?_
      rintro e w4 ⟨rfl, b4⟩
      have HB4 := hide ((unhide HB3).trans (b4.mono (unhide HB3).size))
      rw [hok]
      clear b4 HP3 HB3 HV3 hok hvc hvN hvm hvm'
      go_wp2_with fail
      go_ret
      exact ⟨rfl, unhide HB4⟩
    · have hlb : decide ((l.length : Int) < 2) = false := by
        rw [decide_eq_false_iff_not]
        omega
      have hl8 : l.length ≤ 8 := by
        simp only [repoB, Bool.and_eq_true, decide_eq_true_eq] at hok
        exact hok.1.1.1
      have hlt1 : w1.heap.size < w3.heap.size := by omega
      have HOK := hide hok
      clear hok
      have hsub : IntKind.i64.wrap ((l.length : Int) - 1) = ((l.length - 1 : Nat) : Int) := by rw [wr64 _ (by omega)]; omega
      obtain ⟨k, hkd⟩ : ∃ k, k = n' % (l.length - 1) := ⟨_, rfl⟩
      have hk : k + 1 < l.length := by
        have := Nat.mod_lt n' (show 0 < l.length - 1 by omega)
        omega
      have hmod : Int.tmod (n' : Int) ((l.length - 1 : Nat) : Int) = (k : Int) := by rw [Int.tmod_eq_emod_of_nonneg (by omega), hkd]; rfl
      have hne0 : (((l.length - 1 : Nat) : Int) == 0) = false := by rw [beq_eq_false_iff_ne]; omega
      have hwk := wr64 (k : Int) (by omega)
      obtain ⟨g, C0, rfl, hsg, hC0, hCs0, _, _, _⟩ := SlBy.addr (unhide HV3) (by omega)
      obtain ⟨xs, hxs⟩ : ∃ xs, xs = C0.toList.take (l.length * 6) := ⟨_, rfl⟩
      have hxl : xs.length = l.length * 6 := by rw [hxs]; simp; omega
      have hgw : g < w3.heap.size := (Array.getElem?_eq_some_iff.1 hC0).1
      have hxc : ∀ j u, xs[j]? = some u → w3.cell? ⟨g, j, none⟩ = some u := fun j u hu => by
        rw [cell_of_row w3 g j C0 _ _ hC0]
        rw [hxs, List.getElem?_take] at hu
        split at hu
        · simpa using hu
        · cases hu
      have bW := ((Below.refl w3.heap.size w3).alloc (Nat.le_refl _) (.cells #[.slice (some ⟨g, 0, none⟩) l.length vc, .int .i64 room] 25)).alloc (by simp) (.cells #[] 31)
      obtain ⟨cap9, C9, w4, hrun, hC9, hn9, hm9, hs9, ht9, b4⟩ := copy_packs ((w3.alloc (.cells #[.slice (some ⟨g, 0, none⟩) l.length vc, .int .i64 room] 25)).alloc (.cells #[] 31)) g l.length vc (w3.heap.size + 1) xs hxl (fun j u hu => by rw [World.cell?_of_block (w := w3) (a := ⟨g, j, none⟩) (bW.block g hgw)]; exact hxc j u hu) (by omega) (by omega)
      have hz4 := b4.size
      simp at hrun hC9 hz4
      have HRun := hide hrun
      have bx4 : w4.heap[w3.heap.size]? = some (repoCells (.slice (some ⟨g, 0, none⟩) l.length vc) room) := (b4.block _ (by simp; omega)).trans ((blk_alloc_lt _ _ _ (by simp)).trans (blk_alloc_new w3 (.cells #[.slice (some ⟨g, 0, none⟩) l.length vc, .int .i64 room] 25)))
      have B34 : Below w3.heap.size w3 w4 := bW.trans (b4.mono (by simp; omega))
      obtain ⟨e0, e1, ef⟩ := two bx4
      have ef0 := ef 0
      have bx5 : (w4.setCell ⟨w3.heap.size, 0, none⟩ (.slice (some ⟨w3.heap.size + 1 + 1, 0, none⟩) l.length cap9)).heap[w3.heap.size]? = some (repoCells (.slice (some ⟨w3.heap.size + 1 + 1, 0, none⟩) l.length cap9) room) := by rw [blk_set bx4 0 _]; rfl
      have hC5 : (w4.setCell ⟨w3.heap.size, 0, none⟩ (.slice (some ⟨w3.heap.size + 1 + 1, 0, none⟩) l.length cap9)).heap[w3.heap.size + 1 + 1]? = some (.cells C9 31 (0, 0)) := (blk_setCell_other _ ⟨w3.heap.size, 0, none⟩ _ _ (by show w3.heap.size + 1 + 1 ≠ w3.heap.size; omega)).trans hC9
      have B35 : Below w3.heap.size w3 (w4.setCell ⟨w3.heap.size, 0, none⟩ (.slice (some ⟨w3.heap.size + 1 + 1, 0, none⟩) l.length cap9)) := Below.setCell B34 (Nat.le_refl _) _
      have HB35 := hide B35
      have HC5 := hide hC5
      have HBX5 := hide bx5
      have HX := hide x0
      clear hrun hxs hC0 hkd bx4 ef hC9 b4 bW B34 B35 hC5 bx5
      go_upto_region 10 with (at_builtin; refine wpList_append_run rfl _ _ 23 rfl _ _ _ _ rfl rfl (unhide HRun) ?_)
      clear e0 e1 ef0 HRun x0 x1
      generalize (w4.setCell ⟨w3.heap.size, 0, none⟩ (.slice (some ⟨w3.heap.size + 1 + 1, 0, none⟩) l.length cap9)) = w5 at HB35 HC5 HBX5 ⊢
      have hP5 := (unhide HP3).on (unhide HB35)
      rcases hP5.2 with hnil | ⟨gb, go, hga, hgS, hpk⟩
      · rw [hnil] at hk; simp at hk
      simp at hga
      obtain ⟨rfl, rfl⟩ := hga
      obtain ⟨a1, c1, a2, c2, a3, c3, hp1, _⟩ := hpk (k + 1) hk
      obtain ⟨z1, zc1, z2, zc2, z3, zc3, hp0, _⟩ := hpk k (by omega)
      obtain ⟨p0, p1, p2, p3, p4, p5⟩ := hp1
      obtain ⟨o0, o1, o2, o3, o4, o5⟩ := hp0
      simp only [Nat.zero_add] at p0 p1 p2 p3 p4 p5 o0 o1 o2 o3 o4 o5
      have HO := hide (And.intro o0 (And.intro o1 (And.intro o2 (And.intro o3 (And.intro o4 o5)))))
      have HPP := hide (And.intro p0 (And.intro p1 (And.intro p2 (And.intro p3 (And.intro p4 p5)))))
      generalize l.getD (k + 1) dPack = P1 at p0 p1 p2 p3 p4 p5 HPP
      generalize l.getD k dPack = P0 at o0 o1 o2 o3 o4 o5 HO
      have HP5 := hide hP5
      clear o0 o1 o2 o3 o4 o5 hpk hP5 hgS
      have r0 : w5.cell? ⟨w1.heap.size, 0, none⟩ = some (.slice (some ⟨g, 0, none⟩) l.length vc) := (World.cell?_of_block (w := w3) (a := ⟨w1.heap.size, 0, none⟩) ((unhide HB35).block _ hlt1)).trans (unhide HX)
      obtain ⟨x0, x1, _⟩ := two (unhide HBX5)
      have rw9 : Row w5 (w3.heap.size + 1 + 1) 31 (cap9 * 6) := ⟨C9, unhide HC5, hs9⟩
      obtain ⟨t0, T0⟩ := rw9.cell (i := k * 6) (by omega)
      obtain ⟨t1, T1⟩ := rw9.cell (i := k * 6 + 1) (by omega)
      obtain ⟨t2, T2⟩ := rw9.cell (i := k * 6 + 2) (by omega)
      obtain ⟨t3, T3⟩ := rw9.cell (i := k * 6 + 3) (by omega)
      obtain ⟨t4, T4⟩ := rw9.cell (i := k * 6 + 4) (by omega)
      obtain ⟨t5, T5⟩ := rw9.cell (i := k * 6 + 5) (by omega)
      have F0 := rw9.frozen (k * 6)
      have F1 := rw9.frozen (k * 6 + 1)
      have F2 := rw9.frozen (k * 6 + 2)
      have F3 := rw9.frozen (k * 6 + 3)
      have F4 := rw9.frozen (k * 6 + 4)
      have F5 := rw9.frozen (k * 6 + 5)
      have hwk1 : IntKind.i64.wrap ((k : Int) + 1) = ((k + 1 : Nat) : Int) := by rw [wr64 _ (by omega)]; omega
      have hk1 : ((k + 1 : Nat) : Int) < (l.length : Int) := by omega
      have hk0 : (k : Int) < (l.length : Int) := by omega
      clear rw9
      go_region
      clear T0 T1 T2 T3 T4 T5 F0 F1 F2 F3 F4 F5 r0 x0 x1 p0 p1 p2 p3 p4 p5
      obtain ⟨C6, hC6, hs6, hq6, m0, m1, m2, m3, m4, m5⟩ := store6 w5 (w3.heap.size + 1 + 1) (k * 6) (unhide HC5) (by omega) (.string P1.name) (.int .i64 P1.ver) (.int .i64 P1.size) (.slice a1 P1.deps.length c1) (.slice a2 P1.pres.length c2) (.slice a3 P1.bans.length c3)
      have bx6 := (store6_other w5 (w3.heap.size + 1 + 1) (k * 6) (.string P1.name) (.int .i64 P1.ver) (.int .i64 P1.size) (.slice a1 P1.deps.length c1) (.slice a2 P1.pres.length c2) (.slice a3 P1.bans.length c3) (show w3.heap.size ≠ w3.heap.size + 1 + 1 by omega)).trans (unhide HBX5)
      have B36 := store6_below w5 (w3.heap.size + 1 + 1) (k * 6) (.string P1.name) (.int .i64 P1.ver) (.int .i64 P1.size) (.slice a1 P1.deps.length c1) (.slice a2 P1.pres.length c2) (.slice a3 P1.bans.length c3) (unhide HB35) (show w3.heap.size ≤ w3.heap.size + 1 + 1 by omega)
      generalize ((((((w5.setCell ⟨w3.heap.size + 1 + 1, k * 6, none⟩ (.string P1.name)).setCell ⟨w3.heap.size + 1 + 1, k * 6 + 1, none⟩ (.int .i64 P1.ver)).setCell ⟨w3.heap.size + 1 + 1, k * 6 + 2, none⟩ (.int .i64 P1.size)).setCell ⟨w3.heap.size + 1 + 1, k * 6 + 3, none⟩ (.slice a1 P1.deps.length c1)).setCell ⟨w3.heap.size + 1 + 1, k * 6 + 4, none⟩ (.slice a2 P1.pres.length c2)).setCell ⟨w3.heap.size + 1 + 1, k * 6 + 5, none⟩ (.slice a3 P1.bans.length c3)) = X6 at hC6 bx6 B36 ⊢
      have HB36 := hide (B36.trans (show Below w3.heap.size X6 X6.drew from (Below.refl _ _).drew))
      have HC6 := hide (show X6.drew.heap[w3.heap.size + 1 + 1]? = some (.cells C6 31 (0, 0)) from hC6)
      have HBX6 := hide (show X6.drew.heap[w3.heap.size]? = some (repoCells (.slice (some ⟨w3.heap.size + 1 + 1, 0, none⟩) l.length cap9) room) from bx6)
      have HM6 := hide (And.intro hs6 (And.intro hq6 (And.intro m0 (And.intro m1 (And.intro m2 (And.intro m3 (And.intro m4 m5)))))))
      clear hC6 bx6 B36 HC5 HBX5 hs6 hq6 m0 m1 m2 m3 m4 m5
      have hs6 := (unhide HM6).1
      generalize X6.drew = w6 at HB36 HC6 HBX6 ⊢
      have r0 : w6.cell? ⟨w1.heap.size, 0, none⟩ = some (.slice (some ⟨g, 0, none⟩) l.length vc) := (World.cell?_of_block (w := w3) (a := ⟨w1.heap.size, 0, none⟩) ((unhide HB36).block _ hlt1)).trans (unhide HX)
      have gcell : ∀ j, w6.cell? ⟨g, j, none⟩ = w5.cell? ⟨g, j, none⟩ := fun j => (World.cell?_of_block (w := w3) (a := ⟨g, j, none⟩) ((unhide HB36).block _ hgw)).trans (World.cell?_of_block (w := w3) (a := ⟨g, j, none⟩) ((unhide HB35).block _ hgw)).symm
      obtain ⟨o0, o1, o2, o3, o4, o5⟩ := unhide HO
      rw [← gcell] at o0 o1 o2 o3 o4 o5
      obtain ⟨x0, x1, _⟩ := two (unhide HBX6)
      have rw9 : Row w6 (w3.heap.size + 1 + 1) 31 (cap9 * 6) := ⟨C6, unhide HC6, by omega⟩
      obtain ⟨t0, T0⟩ := rw9.cell (i := (k + 1) * 6) (by omega)
      obtain ⟨t1, T1⟩ := rw9.cell (i := (k + 1) * 6 + 1) (by omega)
      obtain ⟨t2, T2⟩ := rw9.cell (i := (k + 1) * 6 + 2) (by omega)
      obtain ⟨t3, T3⟩ := rw9.cell (i := (k + 1) * 6 + 3) (by omega)
      obtain ⟨t4, T4⟩ := rw9.cell (i := (k + 1) * 6 + 4) (by omega)
      obtain ⟨t5, T5⟩ := rw9.cell (i := (k + 1) * 6 + 5) (by omega)
      have F0 := rw9.frozen ((k + 1) * 6)
      have F1 := rw9.frozen ((k + 1) * 6 + 1)
      have F2 := rw9.frozen ((k + 1) * 6 + 2)
      have F3 := rw9.frozen ((k + 1) * 6 + 3)
      have F4 := rw9.frozen ((k + 1) * 6 + 4)
      have F5 := rw9.frozen ((k + 1) * 6 + 5)
      clear rw9 gcell
      go_wp2_with fail
      go_region
      clear T0 T1 T2 T3 T4 T5 F0 F1 F2 F3 F4 F5 r0 x0 x1 o0 o1 o2 o3 o4 o5
      obtain ⟨C7, hC7, hs7, hq7, n0, n1, n2, n3, n4, n5⟩ := store6 w6 (w3.heap.size + 1 + 1) ((k + 1) * 6) (unhide HC6) (by omega) (.string P0.name) (.int .i64 P0.ver) (.int .i64 P0.size) (.slice z1 P0.deps.length zc1) (.slice z2 P0.pres.length zc2) (.slice z3 P0.bans.length zc3)
      have bx7 := (store6_other w6 (w3.heap.size + 1 + 1) ((k + 1) * 6) (.string P0.name) (.int .i64 P0.ver) (.int .i64 P0.size) (.slice z1 P0.deps.length zc1) (.slice z2 P0.pres.length zc2) (.slice z3 P0.bans.length zc3) (show w3.heap.size ≠ w3.heap.size + 1 + 1 by omega)).trans (unhide HBX6)
      have B37 := store6_below w6 (w3.heap.size + 1 + 1) ((k + 1) * 6) (.string P0.name) (.int .i64 P0.ver) (.int .i64 P0.size) (.slice z1 P0.deps.length zc1) (.slice z2 P0.pres.length zc2) (.slice z3 P0.bans.length zc3) (unhide HB36) (show w3.heap.size ≤ w3.heap.size + 1 + 1 by omega)
      generalize ((((((w6.setCell ⟨w3.heap.size + 1 + 1, (k + 1) * 6, none⟩ (.string P0.name)).setCell ⟨w3.heap.size + 1 + 1, (k + 1) * 6 + 1, none⟩ (.int .i64 P0.ver)).setCell ⟨w3.heap.size + 1 + 1, (k + 1) * 6 + 2, none⟩ (.int .i64 P0.size)).setCell ⟨w3.heap.size + 1 + 1, (k + 1) * 6 + 3, none⟩ (.slice z1 P0.deps.length zc1)).setCell ⟨w3.heap.size + 1 + 1, (k + 1) * 6 + 4, none⟩ (.slice z2 P0.pres.length zc2)).setCell ⟨w3.heap.size + 1 + 1, (k + 1) * 6 + 5, none⟩ (.slice z3 P0.bans.length zc3)) = X7 at hC7 bx7 B37 ⊢
      have B37' := B37.trans (show Below w3.heap.size X7 X7.drew from (Below.refl _ _).drew)
      have hC7' : X7.drew.heap[w3.heap.size + 1 + 1]? = some (.cells C7 31 (0, 0)) := hC7
      have bx7' : X7.drew.heap[w3.heap.size]? = some (repoCells (.slice (some ⟨w3.heap.size + 1 + 1, 0, none⟩) l.length cap9) room) := bx7
      clear hC7 bx7 B37
      generalize X7.drew = w7 at B37' hC7' bx7' ⊢
      obtain ⟨_, hq6, m0, m1, m2, m3, m4, m5⟩ := unhide HM6
      obtain ⟨p0, p1, p2, p3, p4, p5⟩ := unhide HPP
      obtain ⟨o0, o1, o2, o3, o4, o5⟩ := unhide HO
      have g5 : ∀ j, w5.cell? ⟨g, j, none⟩ = w3.cell? ⟨g, j, none⟩ := fun j => World.cell?_of_block (w := w3) (a := ⟨g, j, none⟩) ((unhide HB35).block _ hgw)
      have g7 : ∀ j, w7.cell? ⟨g, j, none⟩ = w3.cell? ⟨g, j, none⟩ := fun j => World.cell?_of_block (w := w3) (a := ⟨g, j, none⟩) (B37'.block _ hgw)
      rw [g5] at p0 p1 p2 p3 p4 p5 o0 o1 o2 o3 o4 o5
      have h9 : ∀ q, q < l.length * 6 → C9[q]? = w3.cell? ⟨g, q, none⟩ := fun q hq => by
        have e : xs[q]? = C9[q]? := by rw [← ht9, List.getElem?_take, if_pos hq]; simp
        rw [← e, hxc q xs[q] (by simp [hxl, hq])]
        simp [hxl, hq]
      have hPT : PacksAt (Old w7) w7 (some ⟨w3.heap.size + 1 + 1, 0, none⟩) (turnL l k) := by
        refine PacksAt.turn ((unhide HP3).on B37') hk (Array.getElem?_eq_some_iff.1 hC7').1 fun i hi j hj => ?_
        rw [cell_of_row w7 _ _ C7 _ _ hC7', g7]
        by_cases e1 : i = k
        · subst e1
          rw [if_pos rfl, hq7 _ (by omega)]
          match j, hj with
          | 0, _ => exact m0.trans p0.symm
          | 1, _ => exact m1.trans p1.symm
          | 2, _ => exact m2.trans p2.symm
          | 3, _ => exact m3.trans p3.symm
          | 4, _ => exact m4.trans p4.symm
          | 5, _ => exact m5.trans p5.symm
        · by_cases e2 : i = k + 1
          · subst e2
            rw [if_neg (by omega), if_pos rfl]
            match j, hj with
            | 0, _ => exact n0.trans o0.symm
            | 1, _ => exact n1.trans o1.symm
            | 2, _ => exact n2.trans o2.symm
            | 3, _ => exact n3.trans o3.symm
            | 4, _ => exact n4.trans o4.symm
            | 5, _ => exact n5.trans o5.symm
          · rw [if_neg e1, if_neg e2, hq7 _ (by omega), hq6 _ (by omega), h9 _ (by omega)]
      have hno := turn_no (unhide HOK) hk
      have c1 := implRepoOk_any (some ⟨w3.heap.size + 1 + 1, 0, none⟩) (turnL l k) cap9 room w7 hPT
      rw [turn_len, hno] at c1
      have HC1 := hide c1
      have HPT := hide hPT
      have HB7 := hide ((unhide HB3).trans (B37'.mono (unhide HB3).size))
      have hz7 : w3.heap.size < w7.heap.size := by
        have := (Array.getElem?_eq_some_iff.1 bx7').1
        exact this
      obtain ⟨x0, x1, _⟩ := two bx7'
      have HBX := hide bx7'
      have HNO := hide hno
      clear c1 hPT bx7' hC7' B37' hq7 n0 n1 n2 n3 n4 n5 hq6 m0 m1 m2 m3 m4 m5 p0 p1 p2 p3 p4 p5 o0 o1 o2 o3 o4 o5 g5 g7 h9 hno HP3 HV3 HB3 HM6 HPP HO HB35 HB36 HC6 HBX6 HP5 hxc hs7
      go_wp2_with fail
      refine (unhide HC1).mono ?_
      rintro e w8 ⟨rfl, b8⟩
      have c2 := implRepoWrite_no (some ⟨w3.heap.size + 1 + 1, 0, none⟩) (turnL l k) cap9 room w8 ((unhide HPT).on b8) (unhide HNO)
      rw [turn_len] at c2
      have HC2 := hide c2
      have HB8 := hide ((unhide HB7).trans (b8.mono (unhide HB7).size))
      obtain ⟨y0, y1, _⟩ := two ((b8.block _ hz7).trans (unhide HBX))
      clear c2 b8 x0 x1 HB7 HPT HC1 HNO HBX
      go_wp2_with fail
      refine (unhide HC2).mono ?_
      rintro e w9 ⟨rfl, b9⟩
      have HB9 := hide ((unhide HB8).trans (b9.mono (unhide HB8).size))
      clear b9 HB8 HC2 y0 y1
      go_wp2_with fail
      go_ret
      exact ⟨rfl, unhide HB9⟩
end Go.Proofs.YtahnfgkjmkiodarDoor
