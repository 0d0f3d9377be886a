/- Another literal watches in place of one that is gone: the program's handOn. All clauses that a literal that is gone watches are looked at: the program's lookAt. All that follows at once is taken up: the program's follow. What follows at once from literals: the program's told, CnfUnits. What follows at once from literals: the program's CnfUnits. -/
import Derived.Test.YthkhaemlcmkkjarGFn
import Derived.BigRegion
import Derived.BigQuiet
import Derived.Test.YthkhaemlcmkkjarGCn
namespace Go.Proofs.Ythkhaemlcmkkjar
set_option linter.unusedVariables false
set_option linter.unusedSimpArgs false
open Go.RowKit Go.Deep Go.Sort

theorem FAt.wt_at {w : World} {B F : Nat} {rl : Rl} {g : Int} {S : FSt} {V : FV} (h : FAt w B F rl (some (.watch g)) S V) {wt' : Int → List Nat} (hw : ∀ l, l ≠ g → wt' l = S.wt l) : FAt w B F rl (some (.watch g)) ⟨S.K, S.tr, S.ask, S.cl, wt'⟩ V := by
  refine ⟨h.low, h.self, ⟨h.cells.kn, h.cells.tc, h.cells.ac, h.cells.cc, h.cells.wc, h.cells.fz⟩, fun r xs hn hx => h.rows r xs hn ?_⟩
  cases r with
  | watch l =>
    have e : l ≠ g := fun e => hn (by rw [e])
    simp only [rowX, hw l e] at hx ⊢
    exact hx
  | trail => exact hx
  | outer => exact hx
  | clause i => exact hx
  | self => exact hx
  | free => exact hx
theorem FAt.clause_at {w : World} {B F : Nat} {rl : Rl} {x : Option Role} {S : FSt} {V : FV} (h : FAt w B F rl x S V) {i : Nat} (hx : x ≠ some (.clause i)) {d : List Int} (hd : S.cl[i]? = some d) (hl : 0 < d.length) : ∃ g cap, V.dv i = .slice (some ⟨g, 0, none⟩) d.length cap ∧ w.ownsRow B 3 1 (.slice (some ⟨g, 0, none⟩) d.length cap) d.length (iV d) := by
  have hcr := clause_row h hx hd rfl
  rcases hcr.1.2 with ⟨_, h0⟩ | ⟨g, cap, cur, hv, _⟩
  · rw [iV_len] at h0; omega
  · rw [iV_len] at hv
    refine ⟨g, cap, hv, ?_⟩
    have := hcr.1
    rw [iV_len, hv] at this
    exact this
theorem FAt.outer_at {w : World} {B F : Nat} {rl : Rl} {x : Option Role} {S : FSt} {V : FV} (h : FAt w B F rl x S V) (hx : x ≠ some .outer) {i : Nat} (hi : i < S.cl.length) : ∃ g cap, V.cv = .slice (some ⟨g, 0, none⟩) S.cl.length cap ∧ w.cell? ⟨g, i, none⟩ = some (V.dv i) := by
  have hr := h.rows .outer _ hx rfl
  have hlen : ((List.range S.cl.length).map V.dv).length = S.cl.length := by simp
  rcases hr.1.2 with ⟨_, h0⟩ | ⟨g, cap, cur, hv, _⟩
  · rw [hlen] at h0; omega
  · rw [hlen] at hv
    refine ⟨g, cap, hv, ?_⟩
    have h2 := hr.1
    rw [hlen, hv] at h2
    rw [h2.cellAt i (by omega)]
    simp [hi]
theorem own_len {w : World} {B : Nat} {e : TypeId} {n : Nat} {v : Value} {xs : List Value} (h : w.ownsRow B e 1 v n xs) : n ≤ 9223372036854775807 := by
  rcases h.2 with ⟨_, h0⟩ | ⟨g, cap, cur, hv, _, _, h1, h2, _⟩
  · omega
  · unfold maxLen at h2; omega
/-- What handOn leaves. -/
def HandP (vars : Nat) (C : List (List Int)) (L : List Int) (mk : List (Nat × List Int)) (fix : Nat) (w : World) (B F : Nat) (rl : Rl) (S : FSt) (V : FV) (p : Nat) (gone : Int) (kept rest : List Nat) (i : Nat) (e : Ending) (w' : World) : Prop :=
  ∃ S' V' rl', FAt w' B F rl' (some (.watch gone)) S' V' ∧ Kp B w rl w' rl' ∧ V'.wv gone = V.wv gone ∧ (S'.K = S.K ∧ S'.tr = S.tr ∧ S'.ask = S.ask) ∧ (∀ g, rl g = some (.watch gone) → w'.heap[g]? = w.heap[g]? ∧ rl' g = some (.watch gone)) ∧
    ((e = .returned (.bool true) ∧ LookK vars C L mk fix S' p gone kept rest) ∨
     (e = .returned (.bool false) ∧ LookK vars C L mk fix S' p gone kept (i :: rest) ∧ ∃ d, S'.cl[i]? = some d ∧ d.getD 1 0 = gone ∧ (valK S'.K (d.getD 0 0) = 1 ∨ ∀ y, y ∈ d → y ≠ d.getD 0 0 → valK S'.K y = -1)))
set_option maxRecDepth 100000 in
set_option maxHeartbeats 16000000 in
theorem handOn_any (vars : Nat) (hv4 : vars ≤ 400) (C : List (List Int)) (L : List Int) (hCl : C.length ≤ 12100) (mk : List (Nat × List Int)) (fix : Nat) (w : World) (B F : Nat) (rl : Rl) (S : FSt) (V : FV) (p : Nat) (gone : Int) (kept rest : List Nat) (i : Nat)
    (h : FAt w B F rl (some (.watch gone)) S V) (hL : LookK vars C L mk fix S p gone kept (i :: rest)) :
    Calls Try.prog 100 #[.pointer (some ⟨F, 0, none⟩), .int .i64 gone, .int .i64 (i : Int)] w fun e w' => HandP vars C L mk fix w B F rl S V p gone kept rest i e w' := by
  obtain ⟨d, hd, hwd, _, _⟩ := hL.here
  obtain ⟨hdl, hdn, hdr⟩ := hL.inv.stored d (List.mem_of_getElem? hd)
  have hi := (List.getElem?_eq_some_iff.1 hd).1
  obtain ⟨g, cap, hdv, hrow⟩ := h.clause_at (i := i) (by simp) hd (by omega)
  have hdmx := own_len hrow
  obtain ⟨og, ocap, hcv, hoc⟩ := h.outer_at (by simp) hi
  rw [hdv] at hoc
  have hcc := h.cells.cc
  rw [hcv] at hcc
  have r0 := row_int hrow (j := 0) (by omega)
  have r1 := row_int hrow (j := 1) (by omega)
  have hgfz : ∀ j, w.frozen? ⟨g, j, none⟩ = false := fun j => hrow.frozenAt j
  have i1 : (i : Int) < (S.cl.length : Int) := by omega
  have i0 : (0 : Int) ≤ (i : Int) := by omega
  have hp0 : (0 : Int) < (d.length : Int) := by omega
  have hp1 : (1 : Int) < (d.length : Int) := by omega
  have hp0n : 0 < d.length := by omega
  have hp1n : 1 < d.length := by omega
  have hgr : rl g = some (.clause i) := (clause_row h (by simp) hd rfl).2 g (by rw [hdv]; rfl)
  have HF := hide h
  have HL := hide hL
  have HD := hide hd
  have HDV := hide hdv
  have HWD := hide hwd
  have HGR := hide hgr
  have HFR := hide hgfz
  have HKR := hide (Kp.refl B w rl)
  clear h hL hd hdv hwd hrow hcv hgfz hgr hdn
  by_cases hg0 : d.getD 0 0 = gone
  · rw [hg0] at r0
    obtain ⟨x1, hx1⟩ : ∃ x1, x1 = d.getD 1 0 := ⟨_, rfl⟩
    rw [← hx1] at r1
    obtain ⟨hFS, hKS⟩ := (unhide HF).swapped (i := i) (by simp) (unhide HD) (unhide HDV) (a := 0) (b := 1) (by omega) (by omega)
    rw [hg0, ← hx1] at hFS hKS
    clear hx1
    have HLA := hide ((unhide HL).swap (unhide HD))
    have hgw : ∀ g', rl g' = some (.watch gone) → ((w.setCell ⟨g, 0, none⟩ (.int .i64 x1)).setCell ⟨g, 1, none⟩ (.int .i64 gone)).heap[g']? = w.heap[g']? := fun g' hg' => by
      have hne : g' ≠ g := fun e => by rw [e, unhide HGR] at hg'; cases hg'
      rw [blk_setCell_other _ _ _ _ hne, blk_setCell_other _ _ _ _ hne]
    obtain ⟨wA, hwA⟩ : ∃ wA, wA = ((w.setCell ⟨g, 0, none⟩ (.int .i64 x1)).setCell ⟨g, 1, none⟩ (.int .i64 gone)).drew := ⟨_, rfl⟩
    replace hFS := hFS.on (Below.refl _ _).drew
    replace hKS := hKS.trans (kp_on (Below.refl _ _).drew hFS.base)
    rw [← hwA] at hFS hKS
    replace hgw : ∀ g', rl g' = some (.watch gone) → wA.heap[g']? = w.heap[g']? := by rw [hwA]; exact hgw
    have HWA := hide hwA
    have f0 := unhide HFR 0
    have f1 := unhide HFR 1
    go_enter Try.func100, Try.ntmps100
    go_upto_region 3 with fail
    go_region
    rw [← unhide HWA]
    obtain ⟨dd, hdde⟩ : ∃ dd, dd = swapL d 0 1 := ⟨_, rfl⟩
    have HLEN := hide (show dd.length = d.length by rw [hdde, swapL_len])
    have HD1 := hide (show dd.getD 1 0 = gone by
      rw [hdde, swapL_at (by omega) (by omega) (by omega)]
      unfold swN; rw [if_pos rfl]; exact hg0)
    rw [← hdde] at hFS HLA
    have HFA := hide hFS
    have HK := hide hKS
    have HGW := hide hgw
    have HDD := hide (show (S.cl.set i dd)[i]? = some dd by rw [List.getElem?_set, if_pos rfl, if_pos hi])
    have HDVA := hide (show V.dv i = .slice (some ⟨g, 0, none⟩) dd.length cap by rw [unhide HLEN]; exact unhide HDV)
    have RA : Hid (wA.ownsRow B 3 1 (.slice (some ⟨g, 0, none⟩) dd.length cap) dd.length (iV dd)) := by
      have hcr := (clause_row hFS (by simp) (unhide HDD) (unhide HDVA)).1
      rw [iV_len] at hcr
      exact hcr
    clear hdde hFS hKS hgw hwA HWA f0 f1 hoc hcc
    have hdl2 : 2 ≤ dd.length := by rw [unhide HLEN]; exact hdl
    have hddm : dd.length ≤ 9223372036854775807 := by rw [unhide HLEN]; exact hdmx
    have hstd := (unhide HLA).inv.stored dd (List.mem_of_getElem? (unhide HDD))
    have hrg := fun y (hy : y ∈ dd) => hstd.2.2 y hy
    have hlen : dd.length = d.length := unhide HLEN
    have a0 := row_int (unhide RA) (j := 0) (by omega)
    have ho := hrg (dd.getD 0 0) (mem_getD.2 ⟨0, by omega, rfl⟩)
    have HVO := hide (value_any F S.K (unhide HLA).inv.trail.tri (dd.getD 0 0) (by omega) (by omega) wA (unhide HFA).cells.kn)
    have HRG := hide hrg
    have tri := valK_tri (unhide HLA).inv.trail.tri (dd.getD 0 0)
    obtain ⟨o, hoe⟩ : ∃ o, o = dd.getD 0 0 := ⟨_, rfl⟩
    obtain ⟨z, hz⟩ : ∃ z, z = valK S.K (dd.getD 0 0) := ⟨_, rfl⟩
    rw [← hz] at HVO
    have tri' : z = 1 ∨ z = 0 ∨ z = -1 := by rw [hz]; exact tri
    rw [← hoe] at a0 HVO
    have HZ := hide hz
    have HOE := hide hoe
    clear tri hz hoe ho hrg hstd r0 r1
    rw [← hlen] at hp0 hp1 hp0n hp1n
    rw [← hlen]
    clear hlen
    go_wp2_with fail
    refine (unhide HVO).mono ?_
    rintro e w3 ⟨rfl, hww⟩
    have hww := hww.symm
    subst hww
    clear HVO
    by_cases hz1 : z = 1
    · have HP : Hid (HandP vars C L mk fix w B F rl S V p gone kept rest i (.returned (.bool false)) wA) := ⟨_, _, rl, unhide HFA, unhide HK, rfl, ⟨rfl, rfl, rfl⟩, fun g hg => ⟨unhide HGW g hg, hg⟩, .inr ⟨rfl, unhide HLA, dd, unhide HDD, unhide HD1, .inl (by show valK S.K _ = 1; rw [← unhide HZ]; exact hz1)⟩⟩
      subst hz1
      clear tri'
      go_wp2_with fail
      go_ret
      exact unhide HP
    · have hgt : (decide (0 < z)) = false := by
        rw [decide_eq_false_iff_not]
        rcases tri' with e | e | e <;> omega
      have HZ1 := hide hz1
      clear tri' hz1
      go_wp2_with fail
      go_loopw [8] (fun jv wr => ∃ j : Nat, 2 ≤ j ∧ j ≤ dd.length ∧ jv = .int .i64 j ∧ Hid (∀ m, 2 ≤ m → m < j → valK S.K (dd.getD m 0) = -1) ∧ wr = wA) (fun j _ => dd.length - (intOf j).toNat)
      case atStart => exact ⟨2, by omega, by omega, rfl, fun m h1 h2 => by omega, rfl⟩
      case round =>
        rename World => wo
        obtain ⟨j, hj2, hjl, rfl, HM, hwo⟩ := hrel
        have hwo := hwo.symm
        subst hwo
        by_cases hlt : j < dd.length
        · have j1 : (j : Int) < (dd.length : Int) := by omega
          have j0 : (0 : Int) ≤ (j : Int) := by omega
          have aj := row_int (unhide RA) (j := j) hlt
          have a1 := row_int (unhide RA) (j := 1) (by omega)
          have hyr := unhide HRG (dd.getD j 0) (mem_getD.2 ⟨j, hlt, rfl⟩)
          have HVY := hide (value_any F S.K (unhide HLA).inv.trail.tri (dd.getD j 0) (by omega) (by omega) wA (unhide HFA).cells.kn)
          have triy := valK_tri (unhide HLA).inv.trail.tri (dd.getD j 0)
          obtain ⟨y, hye⟩ : ∃ y, y = dd.getD j 0 := ⟨_, rfl⟩
          obtain ⟨zy, hzy⟩ : ∃ zy, zy = valK S.K (dd.getD j 0) := ⟨_, rfl⟩
          rw [← hzy, ← hye] at HVY
          have triy' : zy = 1 ∨ zy = 0 ∨ zy = -1 := by rw [hzy]; exact triy
          rw [← hye] at aj hyr
          rw [unhide HD1] at a1
          have HYE := hide hye
          have HZY := hide hzy
          clear triy hye hzy
          by_cases hlow : zy = -1
          · have HM2 : Hid (∀ m, 2 ≤ m → m < j + 1 → valK S.K (dd.getD m 0) = -1) := fun m h1 h2 => by
              by_cases e : m = j
              · rw [e, ← unhide HZY]; exact hlow
              · exact unhide HM m h1 (by omega)
            subst hlow
            clear triy'
            go_wp2_with fail
            refine (unhide HVY).mono ?_
            rintro e w3 ⟨rfl, hww⟩
            have hww := hww.symm
            subst hww
            go_wp2_with fail
            go_roundw
            case rel => exact ⟨j + 1, by omega, by omega, by go_num, HM2, by first | rfl | trivial⟩
            case measure => simp [intOf]; omega
          · have hge : (decide (0 ≤ zy)) = true := by
              rw [decide_eq_true_iff]
              rcases triy' with e | e | e <;> omega
            have hj2' : (2 : Int) ≤ (j : Int) := by omega
            have hMV := (unhide HLA).move (unhide HDD) (unhide HD1) (by show valK S.K _ ≠ 1; rw [← unhide HZ]; exact unhide HZ1) hj2 hlt (by show valK S.K _ ≠ -1; rw [← unhide HZY]; exact hlow)
            obtain ⟨hFS, hKS⟩ := (unhide HFA).swapped (i := i) (by simp) (unhide HDD) (unhide HDVA) (a := 1) (b := j) (by omega) hlt
            rw [unhide HD1, ← unhide HYE] at hFS hKS
            rw [← unhide HYE] at hMV
            have hyg : y ≠ gone := fun e => by
              have h1 := nodup_iff.1 ((unhide HLA).inv.stored dd (List.mem_of_getElem? (unhide HDD))).2.1 j 1 hlt (by omega) (by rw [unhide HD1, ← unhide HYE]; exact e)
              omega
            have HMV := hide hMV
            have HYG := hide hyg
            have fj := (unhide RA).frozenAt j
            have f1 := (unhide RA).frozenAt 1
            have hgw2 : ∀ g', rl g' = some (.watch gone) → ((wA.setCell ⟨g, 1, none⟩ (.int .i64 y)).setCell ⟨g, j, none⟩ (.int .i64 gone)).heap[g']? = wA.heap[g']? := fun g' hg' => by
              have hne : g' ≠ g := fun e => by rw [e, unhide HGR] at hg'; cases hg'
              rw [blk_setCell_other _ _ _ _ hne, blk_setCell_other _ _ _ _ hne]
            obtain ⟨wB, hwB⟩ : ∃ wB, wB = ((wA.setCell ⟨g, 1, none⟩ (.int .i64 y)).setCell ⟨g, j, none⟩ (.int .i64 gone)).drew := ⟨_, rfl⟩
            replace hFS := hFS.on (Below.refl _ _).drew
            replace hKS := hKS.trans (kp_on (Below.refl _ _).drew hFS.base)
            rw [← hwB] at hFS hKS
            replace hgw2 : ∀ g', rl g' = some (.watch gone) → wB.heap[g']? = wA.heap[g']? := by rw [hwB]; exact hgw2
            have HFS := hide hFS
            have HKS := hide hKS
            have HG2 := hide hgw2
            have HWB := hide hwB
            have hrB := hFS.clause_at (i := i) (d := swapL dd 1 j) (by simp) (by
              have hin := (List.getElem?_eq_some_iff.1 (unhide HDD)).1
              rw [List.getElem?_set, if_pos rfl, if_pos hin]) (by rw [swapL_len]; omega)
            obtain ⟨gB, capB, hdB, hrowB⟩ := hrB
            have hdvA := unhide HDVA
            rw [hdvA] at hdB
            simp only [Value.slice.injEq, Option.some.injEq, Addr.mk.injEq, and_true] at hdB
            obtain ⟨rfl, hlB, rfl⟩ := hdB
            have b1 := row_int hrowB (j := 1) (by rw [swapL_len]; omega)
            rw [swapL_at (by omega) hlt (by omega)] at b1
            rw [show swN 1 j 1 = j by unfold swN; rw [if_neg (by omega), if_pos rfl], ← unhide HYE] at b1
            have hlenw : (S.wt y).length ≤ 20000 := by
              have h1 := wl_len (unhide HL).inv.wl y
              have h2 := (unhide HL).inv.few
              omega
            have HWA := hide (watch_any wB B F rl _ _ _ (unhide HFS) y (by omega) (by omega) (by intro e; simp only [Option.some.injEq, Role.watch.injEq] at e; exact unhide HYG e.symm) i hlenw)
            clear triy' hMV hFS hKS hgw2 hyg hwB hrowB hlB hlenw hdvA hyr
            go_wp2_with fail
            refine (unhide HVY).mono ?_
            rintro e w3 ⟨rfl, hww⟩
            have hww := hww.symm
            subst hww
            clear HVY
            go_upto_region 10 with fail
            go_region
            rw [← unhide HWB]
            go_wp2_with fail
            refine (unhide HWA).mono ?_
            rintro e w5 ⟨rfl, rl5, v5, hF5, hK5, hG5⟩
            have hGG : ∀ g', rl g' = some (.watch gone) → w5.heap[g']? = w.heap[g']? ∧ rl5 g' = some (.watch gone) := fun g' hg' => by
              have hlt := ((unhide HF).low g' _ hg').2
              have hz : w.heap.size ≤ wB.heap.size := Nat.le_trans (unhide HK).below.size (unhide HKS).below.size
              refine ⟨(hG5 g' _ hg' (by intro e; simp only [Role.watch.injEq] at e; exact unhide HYG e.symm) (by intro e; cases e)).trans ((unhide HG2 g' hg').trans (unhide HGW g' hg')), (hK5.ext g' (by omega)).trans hg'⟩
            have HP : Hid (HandP vars C L mk fix w B F rl S V p gone kept rest i (.returned (.bool true)) w5) := by
              have hF6 := hF5.wt_at (wt' := moveW S.wt gone y (kept ++ rest) i) (fun l hl => by
                unfold moveW
                rw [if_neg hl]
                by_cases e : l = y
                · simp [e]
                · simp [e])
              exact ⟨_, _, rl5, hF6, ((unhide HK).trans (unhide HKS)).trans hK5, if_neg (fun e => unhide HYG e.symm), ⟨rfl, rfl, rfl⟩, hGG, .inl ⟨rfl, unhide HMV⟩⟩
            clear hF5 hK5 hG5 hGG HWA
            go_wp2_with fail
            go_ret
            exact unhide HP
        · have j1 : ¬ (j : Int) < (dd.length : Int) := by omega
          have hall : ∀ y, y ∈ dd → y ≠ dd.getD 0 0 → valK S.K y = -1 := fun y hy hne => by
            obtain ⟨m, hm, rfl⟩ := mem_getD.1 hy
            by_cases e0 : m = 0
            · rw [e0] at hne; exact absurd rfl hne
            · by_cases e1 : m = 1
              · rw [e1, unhide HD1]
                have hg := (unhide HLA).mem
                exact ((unhide HLA).inv.trail.neg hg.2.1).2 hg.1
              · exact unhide HM m (by omega) (by omega)
          have HP : Hid (HandP vars C L mk fix w B F rl S V p gone kept rest i (.returned (.bool false)) wA) := ⟨_, _, rl, unhide HFA, unhide HK, rfl, ⟨rfl, rfl, rfl⟩, fun g hg => ⟨unhide HGW g hg, hg⟩, .inr ⟨rfl, unhide HLA, dd, unhide HDD, unhide HD1, .inr hall⟩⟩
          clear hall
          go_wp2_with fail
          go_ret
          exact unhide HP
  · obtain ⟨x0, hx0⟩ : ∃ x0, x0 = d.getD 0 0 := ⟨_, rfl⟩
    have hdd : (x0 == gone) = false := by rw [beq_eq_false_iff_ne, hx0]; exact hg0
    rw [← hx0] at r0
    clear hx0
    have HD1 : Hid (d.getD 1 0 = gone) := by
      rcases unhide HWD with h | h
      · exact absurd h hg0
      · exact h
    have HFA := HF
    have HLA := HL
    have HK := HKR
    have HDD := HD
    have HDVA := HDV
    have HLEN : Hid (d.length = d.length) := rfl
    have RA : Hid (w.ownsRow B 3 1 (.slice (some ⟨g, 0, none⟩) d.length cap) d.length (iV d)) := by
      have hcr := (clause_row (unhide HF) (by simp) (unhide HD) (unhide HDV)).1
      rw [iV_len] at hcr
      exact hcr
    go_enter Try.func100, Try.ntmps100
    go_upto_region 4 with fail
    have hdl2 : 2 ≤ d.length := hdl
    have hddm : d.length ≤ 9223372036854775807 := by rw [unhide HLEN]; exact hdmx
    have hstd := (unhide HLA).inv.stored d (List.mem_of_getElem? (unhide HDD))
    have hrg := fun y (hy : y ∈ d) => hstd.2.2 y hy
    have a0 := row_int (unhide RA) (j := 0) (by omega)
    have ho := hrg (d.getD 0 0) (mem_getD.2 ⟨0, by omega, rfl⟩)
    have HVO := hide (value_any F S.K (unhide HLA).inv.trail.tri (d.getD 0 0) (by omega) (by omega) w (unhide HFA).cells.kn)
    have HRG := hide hrg
    have tri := valK_tri (unhide HLA).inv.trail.tri (d.getD 0 0)
    obtain ⟨o, hoe⟩ : ∃ o, o = d.getD 0 0 := ⟨_, rfl⟩
    obtain ⟨z, hz⟩ : ∃ z, z = valK S.K (d.getD 0 0) := ⟨_, rfl⟩
    rw [← hz] at HVO
    have tri' : z = 1 ∨ z = 0 ∨ z = -1 := by rw [hz]; exact tri
    rw [← hoe] at a0 HVO
    have HZ := hide hz
    have HOE := hide hoe
    clear tri hz hoe ho hrg hstd r0 r1
    go_wp2_with fail
    refine (unhide HVO).mono ?_
    rintro e w3 ⟨rfl, hww⟩
    have hww := hww.symm
    subst hww
    clear HVO
    by_cases hz1 : z = 1
    · have HP : Hid (HandP vars C L mk fix w B F rl S V p gone kept rest i (.returned (.bool false)) w) := ⟨_, _, rl, unhide HFA, unhide HK, rfl, ⟨rfl, rfl, rfl⟩, fun g hg => ⟨rfl, hg⟩, .inr ⟨rfl, unhide HLA, d, unhide HDD, unhide HD1, .inl (by show valK S.K _ = 1; rw [← unhide HZ]; exact hz1)⟩⟩
      subst hz1
      clear tri'
      go_wp2_with fail
      go_ret
      exact unhide HP
    · have hgt : (decide (0 < z)) = false := by
        rw [decide_eq_false_iff_not]
        rcases tri' with e | e | e <;> omega
      have HZ1 := hide hz1
      clear tri' hz1
      go_wp2_with fail
      go_loopw [8] (fun jv wr => ∃ j : Nat, 2 ≤ j ∧ j ≤ d.length ∧ jv = .int .i64 j ∧ Hid (∀ m, 2 ≤ m → m < j → valK S.K (d.getD m 0) = -1) ∧ wr = w) (fun j _ => d.length - (intOf j).toNat)
      case atStart => exact ⟨2, by omega, by omega, rfl, fun m h1 h2 => by omega, rfl⟩
      case round =>
        rename World => wo
        obtain ⟨j, hj2, hjl, rfl, HM, hwo⟩ := hrel
        have hwo := hwo.symm
        subst hwo
        by_cases hlt : j < d.length
        · have j1 : (j : Int) < (d.length : Int) := by omega
          have j0 : (0 : Int) ≤ (j : Int) := by omega
          have aj := row_int (unhide RA) (j := j) hlt
          have a1 := row_int (unhide RA) (j := 1) (by omega)
          have hyr := unhide HRG (d.getD j 0) (mem_getD.2 ⟨j, hlt, rfl⟩)
          have HVY := hide (value_any F S.K (unhide HLA).inv.trail.tri (d.getD j 0) (by omega) (by omega) w (unhide HFA).cells.kn)
          have triy := valK_tri (unhide HLA).inv.trail.tri (d.getD j 0)
          obtain ⟨y, hye⟩ : ∃ y, y = d.getD j 0 := ⟨_, rfl⟩
          obtain ⟨zy, hzy⟩ : ∃ zy, zy = valK S.K (d.getD j 0) := ⟨_, rfl⟩
          rw [← hzy, ← hye] at HVY
          have triy' : zy = 1 ∨ zy = 0 ∨ zy = -1 := by rw [hzy]; exact triy
          rw [← hye] at aj hyr
          rw [unhide HD1] at a1
          have HYE := hide hye
          have HZY := hide hzy
          clear triy hye hzy
          by_cases hlow : zy = -1
          · have HM2 : Hid (∀ m, 2 ≤ m → m < j + 1 → valK S.K (d.getD m 0) = -1) := fun m h1 h2 => by
              by_cases e : m = j
              · rw [e, ← unhide HZY]; exact hlow
              · exact unhide HM m h1 (by omega)
            subst hlow
            clear triy'
            go_wp2_with fail
            refine (unhide HVY).mono ?_
            rintro e w3 ⟨rfl, hww⟩
            have hww := hww.symm
            subst hww
            go_wp2_with fail
            go_roundw
            case rel => exact ⟨j + 1, by omega, by omega, by go_num, HM2, by first | rfl | trivial⟩
            case measure => simp [intOf]; omega
          · have hge : (decide (0 ≤ zy)) = true := by
              rw [decide_eq_true_iff]
              rcases triy' with e | e | e <;> omega
            have hj2' : (2 : Int) ≤ (j : Int) := by omega
            have hMV := (unhide HLA).move (unhide HDD) (unhide HD1) (by show valK S.K _ ≠ 1; rw [← unhide HZ]; exact unhide HZ1) hj2 hlt (by show valK S.K _ ≠ -1; rw [← unhide HZY]; exact hlow)
            obtain ⟨hFS, hKS⟩ := (unhide HFA).swapped (i := i) (by simp) (unhide HDD) (unhide HDVA) (a := 1) (b := j) (by omega) hlt
            rw [unhide HD1, ← unhide HYE] at hFS hKS
            rw [← unhide HYE] at hMV
            have hyg : y ≠ gone := fun e => by
              have h1 := nodup_iff.1 ((unhide HLA).inv.stored d (List.mem_of_getElem? (unhide HDD))).2.1 j 1 hlt (by omega) (by rw [unhide HD1, ← unhide HYE]; exact e)
              omega
            have HMV := hide hMV
            have HYG := hide hyg
            have fj := (unhide RA).frozenAt j
            have f1 := (unhide RA).frozenAt 1
            have hgw2 : ∀ g', rl g' = some (.watch gone) → ((w.setCell ⟨g, 1, none⟩ (.int .i64 y)).setCell ⟨g, j, none⟩ (.int .i64 gone)).heap[g']? = w.heap[g']? := fun g' hg' => by
              have hne : g' ≠ g := fun e => by rw [e, unhide HGR] at hg'; cases hg'
              rw [blk_setCell_other _ _ _ _ hne, blk_setCell_other _ _ _ _ hne]
            obtain ⟨wB, hwB⟩ : ∃ wB, wB = ((w.setCell ⟨g, 1, none⟩ (.int .i64 y)).setCell ⟨g, j, none⟩ (.int .i64 gone)).drew := ⟨_, rfl⟩
            replace hFS := hFS.on (Below.refl _ _).drew
            replace hKS := hKS.trans (kp_on (Below.refl _ _).drew hFS.base)
            rw [← hwB] at hFS hKS
            replace hgw2 : ∀ g', rl g' = some (.watch gone) → wB.heap[g']? = w.heap[g']? := by rw [hwB]; exact hgw2
            have HFS := hide hFS
            have HKS := hide hKS
            have HG2 := hide hgw2
            have HWB := hide hwB
            have hrB := hFS.clause_at (i := i) (d := swapL d 1 j) (by simp) (by
              have hin := (List.getElem?_eq_some_iff.1 (unhide HDD)).1
              rw [List.getElem?_set, if_pos rfl, if_pos hin]) (by rw [swapL_len]; omega)
            obtain ⟨gB, capB, hdB, hrowB⟩ := hrB
            have hdvA := unhide HDVA
            rw [hdvA] at hdB
            simp only [Value.slice.injEq, Option.some.injEq, Addr.mk.injEq, and_true] at hdB
            obtain ⟨rfl, hlB, rfl⟩ := hdB
            have b1 := row_int hrowB (j := 1) (by rw [swapL_len]; omega)
            rw [swapL_at (by omega) hlt (by omega)] at b1
            rw [show swN 1 j 1 = j by unfold swN; rw [if_neg (by omega), if_pos rfl], ← unhide HYE] at b1
            have hlenw : (S.wt y).length ≤ 20000 := by
              have h1 := wl_len (unhide HL).inv.wl y
              have h2 := (unhide HL).inv.few
              omega
            have HWA := hide (watch_any wB B F rl _ _ _ (unhide HFS) y (by omega) (by omega) (by intro e; simp only [Option.some.injEq, Role.watch.injEq] at e; exact unhide HYG e.symm) i hlenw)
            clear triy' hMV hFS hKS hgw2 hyg hwB hrowB hlB hlenw hdvA hyr
            go_wp2_with fail
            refine (unhide HVY).mono ?_
            rintro e w3 ⟨rfl, hww⟩
            have hww := hww.symm
            subst hww
            clear HVY
            go_upto_region 10 with fail
            go_region
            rw [← unhide HWB]
            go_wp2_with fail
            refine (unhide HWA).mono ?_
            rintro e w5 ⟨rfl, rl5, v5, hF5, hK5, hG5⟩
            have hGG : ∀ g', rl g' = some (.watch gone) → w5.heap[g']? = w.heap[g']? ∧ rl5 g' = some (.watch gone) := fun g' hg' => by
              have hlt := ((unhide HF).low g' _ hg').2
              have hz : w.heap.size ≤ wB.heap.size := Nat.le_trans (unhide HK).below.size (unhide HKS).below.size
              refine ⟨(hG5 g' _ hg' (by intro e; simp only [Role.watch.injEq] at e; exact unhide HYG e.symm) (by intro e; cases e)).trans ((unhide HG2 g' hg').trans rfl), (hK5.ext g' (by omega)).trans hg'⟩
            have HP : Hid (HandP vars C L mk fix w B F rl S V p gone kept rest i (.returned (.bool true)) w5) := by
              have hF6 := hF5.wt_at (wt' := moveW S.wt gone y (kept ++ rest) i) (fun l hl => by
                unfold moveW
                rw [if_neg hl]
                by_cases e : l = y
                · simp [e]
                · simp [e])
              exact ⟨_, _, rl5, hF6, ((unhide HK).trans (unhide HKS)).trans hK5, if_neg (fun e => unhide HYG e.symm), ⟨rfl, rfl, rfl⟩, hGG, .inl ⟨rfl, unhide HMV⟩⟩
            clear hF5 hK5 hG5 hGG HWA
            go_wp2_with fail
            go_ret
            exact unhide HP
        · have j1 : ¬ (j : Int) < (d.length : Int) := by omega
          have hall : ∀ y, y ∈ d → y ≠ d.getD 0 0 → valK S.K y = -1 := fun y hy hne => by
            obtain ⟨m, hm, rfl⟩ := mem_getD.1 hy
            by_cases e0 : m = 0
            · rw [e0] at hne; exact absurd rfl hne
            · by_cases e1 : m = 1
              · rw [e1, unhide HD1]
                have hg := (unhide HLA).mem
                exact ((unhide HLA).inv.trail.neg hg.2.1).2 hg.1
              · exact unhide HM m (by omega) (by omega)
          have HP : Hid (HandP vars C L mk fix w B F rl S V p gone kept rest i (.returned (.bool false)) w) := ⟨_, _, rl, unhide HFA, unhide HK, rfl, ⟨rfl, rfl, rfl⟩, fun g hg => ⟨rfl, hg⟩, .inr ⟨rfl, unhide HLA, d, unhide HDD, unhide HD1, .inr hall⟩⟩
          clear hall
          go_wp2_with fail
          go_ret
          exact unhide HP
end Go.Proofs.Ythkhaemlcmkkjar

namespace Go.Proofs.Ythkhaemlcmkkjar
set_option linter.unusedVariables false
set_option linter.unusedSimpArgs false
open Go.RowKit Go.Deep Go.Sort

theorem wpList_append_room {P : Program} {w : World} {ops : Array Oper} {rest : List Oper} {o : Oper} {a : Act} {Q : Exit → Act → World → Prop} (hgd : o.guard = none) (s x : Operand) (t : TypeId)
    (ho : o.op = .call { callee := .builtin .append, args := #[s, x], argTypes := #[t, t] })
    (e : TypeId) (i : TypeInfo) (z : Value) (bytes : Nat) (ht : P.underlying t = some (.slice e)) (hi : P.info? e = some i) (hz : i.zero = some z)
    (hsize : i.size = 1) (hby : i.bytes = bytes)
    (g n cap : Nat) (cur : Array Value) (hs : a.eval s = .slice (some ⟨g, 0, none⟩) n cap) (hg : w.heap[g]? = some (.cells cur e (0, 0))) (hcs : cur.size = cap) (hroom : n + 1 ≤ cap)
    (ad : Addr) (c : Nat) (u : Value) (hx : a.eval x = .slice (some ad) 1 c) (hnews : w.cell? ad = some u) (h1 : u.oneCell' = true)
    (h : ∀ w', w'.heap[g]? = some (.cells (cur.toList.take n ++ [u] ++ cur.toList.drop (n + 1)).toArray e (0, 0)) → w.grownBy w' (some g) → wpList P ops Q rest (a.put o.dst (.slice (some ⟨g, 0, none⟩) (n + 1) cap)) w') : wpList P ops Q (o :: rest) a w := by
  refine wpList_plain hgd fun K hK => ?_
  have hr := run_append_room (P := P) w t o.type e i ht hi g n cap cur hg ad 1 c [u] (by simp [hsize]) (fun j v hj => by
    match j, hj with
    | 0, hj => simp at hj; subst hj; simpa [Addr.add] using hnews) (fun v hv => by simp at hv; subst hv; exact h1) hroom (by simp [hsize]; omega)
  simp only [hsize, Nat.mul_one, List.length_singleton] at hr
  unfold Oper.wp execOp
  simp only [ho, resolve, invoke, builtin, Sem.run_bind, Sem.run_pure, Result.andThen_ok, List.map_toArray, List.map_cons, List.map_nil, hs, hx, hr]
  exact hK _ _ (h _ (setRow_heap w g cur _ e _ hg) ⟨rfl, rfl, rfl, by simp, fun k _ hk => setRow_other w g k _ (fun e => hk (by rw [e]))⟩)
theorem FAt.stepx {w w' : World} {B F : Nat} {rl : Rl} {r0 : Role} {S : FSt} {V : FV} (h : FAt w B F rl (some r0) S V) (hr0 : r0 ≠ .self) {g : Nat} (hg : w.grownBy w' (some g)) (hr : rl g = some r0) : FAt w' B F rl (some r0) S V :=
  ⟨fun g' r hgr => ⟨(h.low g' r hgr).1, Nat.lt_of_lt_of_le (h.low g' r hgr).2 hg.size⟩, h.self, h.cells.kept h.lt hg (fun e => by
      simp only [Option.some.injEq] at e
      rw [e, h.self] at hr
      simp only [Option.some.injEq] at hr
      exact hr0 hr.symm),
   fun r xs hn hx => (h.rows r xs hn hx).kept hg (fun g' e hh => by
      simp only [Option.some.injEq] at e
      rw [← e, hr] at hh
      exact hn hh) (fun _ h => h)⟩
theorem kp_stepx {w w' : World} {B F : Nat} {rl : Rl} {x : Option Role} {S : FSt} {V : FV} (h : FAt w B F rl x S V) {r0 : Role} (hr0 : r0 ≠ .self) {g : Nat} (hg : w.grownBy w' (some g)) (hr : rl g = some r0) : Kp B w rl w' rl := by
  have hlow := h.low g _ hr
  have hb : ∀ b, b < w.heap.size → b ≠ g → w'.heap[b]? = w.heap[b]? := fun b hb hne => hg.block b hb (fun e => hne (by simpa using e))
  exact ⟨⟨hg.os, hg.tape, hg.output, hg.size, fun b hlt => hb b (by omega) (by omega)⟩, fun b hlt hn => hb b hlt (fun e => by rw [e, hr] at hn; cases hn), fun _ _ => rfl, fun g' i hg' hs _ => by
    have hbk := hb g' hg' (fun e => by rw [e, hr] at hs; simp only [Option.some.injEq] at hs; exact hr0 hs)
    exact ⟨World.cell?_of_block (w := w) (a := ⟨g', i, none⟩) hbk, World.frozen?_of_block (w := w) (a := ⟨g', i, none⟩) hbk⟩⟩
/-- The list of a literal is written back. -/
theorem FAt.unbut {w : World} {B F : Nat} {rl : Rl} {l : Int} {S : FSt} {V : FV} (h : FAt w B F rl (some (.watch l)) S V) (h1 : -400 ≤ l) (h2 : l ≤ 400) {v' : Value} (hrow : RowR w B rl (.watch l) 3 v' (nV (S.wt l))) : FAt (w.setCell ⟨F, wPlace l, none⟩ v') B F rl none S ⟨V.tv, V.cv, fun m => if m = l then v' else V.wv m, V.dv⟩ := by
  have hp : 404 ≤ wPlace l := by unfold wPlace; omega
  refine ⟨fun g r hgr => by rw [nblk_setCell]; exact h.low g r hgr, h.self, h.cells.set (by omega) rfl rfl (by omega) (by rw [if_neg (by omega)]) (by rw [if_neg (by omega)]) (fun m g1 g2 => ?_), fun r xs _ hx => ?_⟩
  · by_cases e : m = l
    · subst e; rw [if_pos rfl]; exact if_pos rfl
    · rw [if_neg (fun e2 => wPlace_ne h1 g1 (fun e3 => e e3.symm) e2)]
      exact if_neg e
  · by_cases hr : r = .watch l
    · subst hr
      simp only [rowX] at hx
      rw [if_pos ⟨h1, h2⟩] at hx
      simp only [Option.some.injEq] at hx
      subst hx
      refine RowR.setF ?_ h.self (by intro e; cases e)
      show RowR w B rl (.watch l) 3 (if l = l then v' else V.wv l) (nV (S.wt l))
      rw [if_pos rfl]
      exact hrow
    · by_cases hs : r = .self
      · subst hs; simp [rowX] at hx
      · refine RowR.setF ?_ h.self hs
        have hn : some (Role.watch l) ≠ some r := fun e => hr (by simpa using e.symm)
        cases r with
        | watch m =>
          have e : m ≠ l := fun e => hr (by rw [e])
          have := h.rows (.watch m) xs hn hx
          simpa only [rowV, if_neg e] using this
        | trail => exact h.rows .trail xs hn hx
        | outer => exact h.rows .outer xs hn hx
        | clause i => exact h.rows (.clause i) xs hn hx
        | self => exact absurd rfl hs
        | free => simp [rowX] at hx
/-- What lookAt leaves. -/
def LookP (vars : Nat) (C : List (List Int)) (L : List Int) (mk : List (Nat × List Int)) (fix : Nat) (w : World) (B F : Nat) (rl : Rl) (S : FSt) (p : Nat) (e : Ending) (w' : World) : Prop :=
  ∃ rl' S' V', FAt w' B F rl' none S' V' ∧ Kp B w rl w' rl' ∧ InvU vars C L mk fix S' ∧ S'.ask = S.ask ∧ S'.tr.take S.tr.length = S.tr ∧
    ((e = .returned (.bool true) ∧ WatK S'.cl (S'.tr.take (p + 1)) S'.tr) ∨ (e = .returned (.bool false) ∧ Conf C L))
/-- The list that is looked at, and what is kept of it, in one block. -/
def KeptAt (w : World) (B : Nat) (rl : Rl) (gone : Int) (pa : Option Addr) (n c : Nat) (P : List Nat) (kv : Value) (kept : List Nat) (k : Nat) : Prop :=
  (pa = none ∧ n = 0 ∧ kept = [] ∧ kv = .slice none 0 0) ∨ ∃ g cur, pa = some ⟨g, 0, none⟩ ∧ B ≤ g ∧ rl g = some (.watch gone) ∧ w.heap[g]? = some (.cells cur 3 (0, 0)) ∧ cur.size = c ∧ n ≤ c ∧ c ≤ maxLen ∧ kv = .slice (some ⟨g, 0, none⟩) kept.length c ∧ cur.toList.take kept.length = nV kept ∧ ∀ q, k ≤ q → q < n → cur[q]? = some (.int .i64 ((P.getD q 0 : Nat) : Int))
def LkS (vars : Nat) (C : List (List Int)) (L : List Int) (mk : List (Nat × List Int)) (fix : Nat) (w : World) (B F : Nat) (rl : Rl) (S : FSt) (p : Nat) (gone : Int) (pa : Option Addr) (n c : Nat) (P : List Nat) (k : Nat) (can : Bool) (kv : Value) (wr : World) : Prop :=
  ∃ rl' S' V' kept, FAt wr B F rl' (some (.watch gone)) S' V' ∧ Kp B w rl wr rl' ∧ InvU vars C L mk fix S' ∧ S'.wt gone = kept ++ P.drop k ∧ kept.length ≤ k ∧ S'.ask = S.ask ∧ S'.tr.take S.tr.length = S.tr ∧ KeptAt wr B rl' gone pa n c P kv kept k ∧
    (can = true → LookK vars C L mk fix S' p gone kept (P.drop k)) ∧ (can = false → Conf C L)
theorem KeptAt.shape {w : World} {B : Nat} {rl : Rl} {gone : Int} {pa : Option Addr} {n c : Nat} {P : List Nat} {kv : Value} {kept : List Nat} {k : Nat} (h : KeptAt w B rl gone pa n c P kv kept k) : ∃ a c', kv = .slice a kept.length c' := by
  rcases h with ⟨_, _, hk, hv⟩ | ⟨g, cur, _, _, _, _, _, _, _, hv, _⟩
  · exact ⟨none, 0, by rw [hv, hk]; rfl⟩
  · exact ⟨_, _, hv⟩
theorem KeptAt.row {w : World} {B : Nat} {rl : Rl} {gone : Int} {pa : Option Addr} {n c : Nat} {P : List Nat} {kv : Value} {kept : List Nat} {k : Nat} (h : KeptAt w B rl gone pa n c P kv kept k) (hk : kept.length ≤ n) : RowR w B rl (.watch gone) 3 kv (nV kept) := by
  rcases h with ⟨_, _, hkk, hv⟩ | ⟨g, cur, hp, hB, hr, hb, hs, hn, hc, hv, ht, _⟩
  · subst hkk
    subst hv
    exact ⟨World.ownsRow_nil _ _ _ _, fun g e => by cases e⟩
  · subst hv
    refine ⟨⟨by rw [Nat.mul_one], .inr ⟨g, c, cur, by rw [nV_len], hB, hb, by rw [nV_len]; omega, hc, by omega, by rw [nV_len, Nat.mul_one]; exact ht⟩⟩, fun g' e => ?_⟩
    simp only [Value.ownBlock, Option.some.injEq] at e
    rw [← e]
    exact hr
/-- One more is kept, in place. -/
theorem KeptAt.keep {w' : World} {B : Nat} {rl : Rl} {gone : Int} {g n c : Nat} {P kept : List Nat} {k : Nat} {cur : Array Value} (hB : B ≤ g) (hr : rl g = some (.watch gone)) (hs : cur.size = c) (hn : n ≤ c) (hc : c ≤ maxLen) (ht : cur.toList.take kept.length = nV kept) (hq : ∀ q, k ≤ q → q < n → cur[q]? = some (.int .i64 ((P.getD q 0 : Nat) : Int))) (hkk : kept.length ≤ k) (hkn : k < n) (i : Nat)
    (hb : w'.heap[g]? = some (.cells (cur.toList.take kept.length ++ Value.int .i64 (i : Int) :: cur.toList.drop (kept.length + 1)).toArray 3 (0, 0))) : KeptAt w' B rl gone (some ⟨g, 0, none⟩) n c P (.slice (some ⟨g, 0, none⟩) (kept.length + 1) c) (kept ++ [i]) (k + 1) := by
  have hl : (cur.toList.take kept.length).length = kept.length := by simp; omega
  rw [show cur.toList.take kept.length ++ Value.int .i64 (i : Int) :: cur.toList.drop (kept.length + 1) = cur.toList.take kept.length ++ [Value.int .i64 (i : Int)] ++ cur.toList.drop (kept.length + 1) by simp] at hb
  refine .inr ⟨g, _, rfl, hB, hr, hb, ?_, hn, hc, by simp, ?_, fun q h1 h2 => ?_⟩
  · simp; omega
  · rw [nV_snoc, ← ht]
    simp only [List.length_append, List.length_singleton]
    rw [List.take_append_of_le_length (by simp; omega), List.take_of_length_le (by simp; omega)]
  · rw [← hq q (by omega) h2, List.getElem?_toArray, List.getElem?_append_right (by simp; omega), List.getElem?_drop]
    simp only [List.length_append, hl, List.length_singleton]
    rw [show kept.length + 1 + (q - (kept.length + 1)) = q by omega]
    simp
theorem tr_more {a b : List Int} {n : Nat} (h : a.take n = b) (hn : b.length = n) (y : Int) : (a ++ [y]).take n = b := by
  have hl : n ≤ a.length := by
    have := congrArg List.length h
    simp at this
    omega
  rw [List.take_append_of_le_length hl, h]
theorem drop_cons {P : List Nat} {k : Nat} (h : k < P.length) : P.drop k = P.getD k 0 :: P.drop (k + 1) := by
  rw [List.drop_eq_getElem_cons h]
  simp [List.getD, h]

set_option maxRecDepth 100000 in
set_option maxHeartbeats 16000000 in
theorem lookAt_any (vars : Nat) (hv4 : vars ≤ 400) (C : List (List Int)) (L : List Int) (hC : NzC C) (hCl : C.length ≤ 12100) (mk : List (Nat × List Int)) (fix : Nat) (w : World) (B F : Nat) (rl : Rl) (S : FSt) (V : FV) (p : Nat) (gone : Int)
    (h : FAt w B F rl none S V) (hI : InvU vars C L mk fix S) (hw : WatK S.cl (S.tr.take p) S.tr) (hat : S.tr[p]? = some (-gone)) (hmp : ∀ m, m ∈ mk → m.1 ≤ p) :
    Calls Try.prog 68 #[.pointer (some ⟨F, 0, none⟩), .int .i64 gone] w fun e w' => LookP vars C L mk fix w B F rl S p e w' := by
  have hL0 := LookK.start hI hw hat hmp
  have hgr := hI.trail.rng (-gone) (hL0.mem.1)
  have hg1 : -400 ≤ gone := by omega
  have hg2 : gone ≤ 400 := by omega
  have hgz := hL0.mem.2.1
  have hrow := h.rows (.watch gone) (nV (S.wt gone)) (by simp) (by simp only [rowX]; rw [if_pos ⟨hg1, hg2⟩])
  obtain ⟨pa, c, hwv⟩ := rlen_row hrow
  rw [nV_len] at hwv
  have hwv' : V.wv gone = .slice pa (S.wt gone).length c := hwv
  have hfewP : (S.wt gone).length ≤ 20000 := by
    have h1 := wl_len hI.wl gone
    have h2 := hI.few
    omega
  obtain ⟨n, hn⟩ : ∃ n, n = (S.wt gone).length := ⟨_, rfl⟩
  rw [← hn] at hwv hwv' hfewP
  have hcell := h.cells.wc gone hg1 hg2
  rw [hwv'] at hcell
  obtain ⟨q, hq⟩ : ∃ q : Nat, q = (gone + 400).toNat := ⟨_, rfl⟩
  have hpl : wPlace gone = 404 + q := by unfold wPlace; rw [hq]
  rw [hpl] at hcell
  have HP := hide (fun W => litPlace_any gone hg1 hg2 W)
  have hlq : gone + 400 = (q : Int) := by omega
  rw [hlq] at HP
  have q1 : (q : Int) < 801 := by omega
  have q0 : (0 : Int) ≤ (q : Int) := by omega
  have HST0 : Hid (∀ wr, Below w.heap.size w wr → ∃ kv, (pa = none ∨ ∃ g, pa = some ⟨g, 0, none⟩) ∧ kv = .slice pa 0 c ∧ LkS vars C L mk fix w B F rl S p gone pa n c (S.wt gone) 0 true kv wr) := fun wr hb => by
    have hF := h.on hb
    refine ⟨.slice pa 0 c, ?_, rfl, rl, S, V, [], hF.but _, kp_on hb h.base, hI, by simp, Nat.le_refl _, rfl, List.take_length, ?_, fun _ => by simpa using hL0, fun e => by cases e⟩
    · rcases hrow.1.2 with ⟨hv, _⟩ | ⟨g, cap, cur, hv, _⟩
      · left
        rw [hwv] at hv
        simp only [Value.slice.injEq] at hv
        exact hv.1
      · right
        rw [hwv] at hv
        simp only [Value.slice.injEq] at hv
        exact ⟨g, hv.1⟩
    · have hrow2 := hF.rows (.watch gone) (nV (S.wt gone)) (by simp) (by simp only [rowX]; rw [if_pos ⟨hg1, hg2⟩])
      have hv2 : rowV V (.watch gone) = .slice pa n c := hwv'
      rw [hv2] at hrow2
      rcases hrow2.1.2 with ⟨hv, h0⟩ | ⟨g, cap, cur, hv, hB, hb2, hnc, hcm, hsz, htk⟩
      · simp only [Value.slice.injEq] at hv
        obtain ⟨rfl, _, rfl⟩ := hv
        left
        rw [nV_len] at h0
        exact ⟨rfl, by omega, rfl, rfl⟩
      · simp only [Value.slice.injEq] at hv
        obtain ⟨rfl, _, rfl⟩ := hv
        rw [nV_len, Nat.mul_one] at htk
        rw [nV_len] at hnc
        refine .inr ⟨g, cur, rfl, hB, hrow2.2 g rfl, hb2, by omega, by omega, hcm, rfl, by simp [nV], fun q _ hqn => ?_⟩
        have := congrArg (fun l => l[q]?) htk
        simp only [List.getElem?_take, if_pos (show q < (S.wt gone).length by omega)] at this
        rw [← Array.getElem?_toList, this]
        simp [nV, List.getD, show q < (S.wt gone).length by omega]
  have HPL := hide hpl
  have HC := hide hC
  have HN := hide hn
  have hslen : S.tr.length = S.tr.length := rfl
  obtain ⟨i0, hi, hz0, hz1, hz2⟩ := info_parts Try.infoI
  obtain ⟨PL, hPL⟩ : ∃ PL, PL = S.wt gone := ⟨_, rfl⟩
  rw [← hPL] at HST0 HN
  have hFlt := h.lt
  have hbase := h.base
  clear h hI hw hat hmp hL0 hrow hwv hwv' hn hq hpl hlq hPL hslen hC hgr
  go_enter Try.func68, Try.ntmps68
  go_upto_region 1 with fail
  go_quiet (first | (go_at_call 99; exact Calls.quiet_of_same (unhide HP _)))
  obtain ⟨w1, hw1⟩ : ∃ w1, w1 = w.drewN nq := ⟨_, rfl⟩
  have b1 : Below w.heap.size w w1 := by rw [hw1]; exact ((Drawn.refl w).more nq).below _
  rw [← hw1]
  clear hw1
  obtain ⟨kv, hpa, hkv, HS0⟩ := unhide HST0 w1 b1
  subst hkv
  have HS1 := hide HS0
  clear HS0 HST0 hcell
  rcases hpa with hpa | ⟨pg, hpa⟩
  · subst hpa
    go_wp2_with fail
    go_loopw [6, 7, 21] (fun kv cv iv wr => ∃ (k : Nat) (can : Bool), k ≤ n ∧ cv = .bool can ∧ iv = .int .i64 k ∧ Hid (LkS vars C L mk fix w B F rl S p gone none n c PL k can kv wr)) (fun _ _ iv _ => n - (intOf iv).toNat)
    case atStart => exact ⟨0, true, Nat.zero_le _, rfl, rfl, HS1⟩
    case round =>
      rename World => wo
      obtain ⟨k, can, hk, rfl, rfl, HS⟩ := hrel
      obtain ⟨rl1, S1, Vq1, kept, hF1, hK1, hI1, hwt1, hkl, hask1, htr1, hKA, hcan, hcf⟩ := unhide HS
      obtain ⟨ka, kc, hks⟩ := hKA.shape
      subst hks
      have HF1 := hide hF1
      have HK1 := hide hK1
      have HI1 := hide hI1
      have HWT1 := hide hwt1
      have HASK := hide hask1
      have HTR := hide htr1
      have HCAN := hide hcan
      have HCF := hide hcf
      have HKA := hide hKA
      clear hF1 hK1 hI1 hwt1 hask1 htr1 hcan hcf HS
      by_cases hlt : k < n
      · have j1 : (k : Int) < (n : Int) := by omega
        have j0 : (0 : Int) ≤ (k : Int) := by omega
        rcases hKA with ⟨_, hn0, _⟩ | ⟨g, cur, hpg, _⟩
        · omega
        · cases hpg
      · have j1 : ¬ (k : Int) < (n : Int) := by omega
        have hke : k = n := by omega
        clear hke
        have hkn2 : kept.length ≤ n := by omega
        have hrow := (unhide HKA).row hkn2
        have hdn : PL.drop k = [] := List.drop_eq_nil_iff.2 (by rw [← unhide HN]; omega)
        have hwt : S1.wt gone = kept := by rw [unhide HWT1, hdn, List.append_nil]
        have HROW := hide (show RowR wo B rl1 (.watch gone) 3 (.slice ka kept.length kc) (nV (S1.wt gone)) by rw [hwt]; exact hrow)
        have HWT := hide hwt
        have HDN := hide hdn
        have hFo := (unhide HF1).lt
        have hfz := (unhide HF1).cells.fz (wPlace gone)
        rw [unhide HPL] at hfz
        have hcw := (unhide HF1).cells.wc gone hg1 hg2
        rw [unhide HPL] at hcw
        clear hrow hwt hdn HKA
        go_upto_region 11 with fail
        refine wp_region_mixN (k := 100) 7 [] [.pointer (some ⟨F, 0, none⟩), .int .i64 gone, .int .i64 (q : Int), .slice ka kept.length kc, .pointer (some ⟨F, 0, none⟩), .pointer (some ⟨F, 404, none⟩), .pointer (some ⟨F, 404 + q, none⟩)] (fun _ us x => CQ wo us x) (by kernel_rfl) (by kernel_rfl) (by kernel_rfl) (by kernel_rfl) (by kernel_rfl) (by kernel_rfl) ⟨rfl, (Below.refl _ _).drew⟩ ?_ ?_ ?_
        · intro full hfull i oo hi hns ho y fl us hC hb
          simp [putAll, slotOf, Act.put] at hfull
          subst hfull
          have hC0 := hC
          match i with
          | 0 => simp at ho; subst ho; simp [gwp, Region.wanted, yielded]; go_simp; first | done | exact hC0 | exact ⟨rfl, hC0⟩
          | 1 => simp at ho; subst ho; simp [gwp, Region.wanted, yielded]; go_simp; first | done | exact hC0 | exact ⟨rfl, hC0⟩
          | 2 =>
            simp at ho; subst ho; simp [gwp, Region.wanted, yielded]; go_simp
            refine (unhide HP _).mono ?_
            rintro e y' ⟨rfl, hww⟩
            have hww := hww.symm
            subst hww
            go_simp
            first | done | exact hC0 | exact ⟨rfl, hC0⟩
          | 3 => simp at ho; subst ho; simp [gwp, Region.wanted, yielded]; go_simp; first | done | exact hC0 | exact ⟨rfl, hC0⟩
          | 4 => simp at ho; subst ho; simp [gwp, Region.wanted, yielded]; go_simp; first | done | exact hC0 | exact ⟨rfl, hC0⟩
          | 5 => simp at ho; subst ho; simp [gwp, Region.wanted, yielded]; go_simp; first | done | exact hC0 | exact ⟨rfl, hC0⟩
          | 6 => simp at ho; subst ho; simp [gwp, Region.wanted, yielded]; go_simp; first | done | exact hC0 | exact ⟨rfl, hC0⟩
          | i + 7 => omega
        · intro full hfull us j hj
          simp at hj
        · intro full hfull us y hus hC
          simp [putAll, slotOf, Act.put] at hfull
          subst hfull
          obtain ⟨hus0, hby⟩ := hC
          subst hus0
          have hF2 := (unhide HF1).on hby
          have hK2 := (unhide HK1).trans (kp_on hby (unhide HF1).base)
          have hrow2 : RowR y B rl1 (.watch gone) 3 (.slice ka kept.length kc) (nV (S1.wt gone)) := (unhide HROW).kept (row := none) ⟨hby.os, hby.tape, hby.output, hby.size, fun b hb' _ => hby.block b hb'⟩ (fun g e => by cases e) (fun _ h => h)
          have hF3 := hF2.unbut hg1 hg2 hrow2
          have hK3 := hK2.setF (F := F) (w0 := w) (rl0 := rl) (.inl (by rw [← (unhide HK1).ext F hFlt, (unhide HF1).self]; simp)) ((unhide HF1).low F _ (unhide HF1).self).1 (wPlace gone) (by unfold wPlace; omega) (.slice ka kept.length kc)
          rw [unhide HPL] at hF3 hK3
          have t3 := (hby.cell (p := ⟨F, 404 + q, none⟩) hFo).trans hcw
          have f3 := (World.frozen?_of_block (w := wo) (a := ⟨F, 404 + q, none⟩) (hby.block F hFo)).trans hfz
          have HP2 : Hid (LookP vars C L mk fix w B F rl S p (.returned (.bool can)) (y.setCell ⟨F, 404 + q, none⟩ (.slice ka kept.length kc))) := by
            refine ⟨rl1, S1, _, hF3, hK3, unhide HI1, unhide HASK, unhide HTR, ?_⟩
            cases can with
            | true =>
              have hl := unhide HCAN rfl
              rw [unhide HDN] at hl
              exact .inl ⟨rfl, hl.done⟩
            | false => exact .inr ⟨rfl, unhide HCF rfl⟩
          clear hF2 hK2 hrow2 hF3 hK3 hby hcw hfz
          simp [putP, slotOf, Act.put]
          go_wp2_with fail
          go_ret
          exact unhide HP2
  · subst hpa
    go_wp2_with fail
    go_loopw [6, 7, 21] (fun kv cv iv wr => ∃ (k : Nat) (can : Bool), k ≤ n ∧ cv = .bool can ∧ iv = .int .i64 k ∧ Hid (LkS vars C L mk fix w B F rl S p gone (some ⟨pg, 0, none⟩) n c PL k can kv wr)) (fun _ _ iv _ => n - (intOf iv).toNat)
    case atStart => exact ⟨0, true, Nat.zero_le _, rfl, rfl, HS1⟩
    case round =>
      rename World => wo
      obtain ⟨k, can, hk, rfl, rfl, HS⟩ := hrel
      obtain ⟨rl1, S1, Vq1, kept, hF1, hK1, hI1, hwt1, hkl, hask1, htr1, hKA, hcan, hcf⟩ := unhide HS
      obtain ⟨ka, kc, hks⟩ := hKA.shape
      subst hks
      have HF1 := hide hF1
      have HK1 := hide hK1
      have HI1 := hide hI1
      have HWT1 := hide hwt1
      have HASK := hide hask1
      have HTR := hide htr1
      have HCAN := hide hcan
      have HCF := hide hcf
      have HKA := hide hKA
      clear hF1 hK1 hI1 hwt1 hask1 htr1 hcan hcf HS
      by_cases hlt : k < n
      · have j1 : (k : Int) < (n : Int) := by omega
        have j0 : (0 : Int) ≤ (k : Int) := by omega
        rcases hKA with ⟨_, hn0, _⟩ | ⟨g, cur, hpg, hB, hr, hb, hsz, hnc, hcm, hkv, htk, hqq⟩
        · omega
        simp only [Option.some.injEq, Addr.mk.injEq, and_true] at hpg
        subst hpg
        simp only [Value.slice.injEq, true_and] at hkv
        obtain ⟨rfl, hkc1⟩ := hkv
        have hkc1 := hkc1.symm
        subst hkc1
        have c0 : wo.cell? ⟨pg, k, none⟩ = some (.int .i64 ((PL.getD k 0 : Nat) : Int)) := by
          rw [cell_of_row wo pg k cur _ _ hb]
          exact hqq k (Nat.le_refl _) hlt
        have hdc := drop_cons (P := PL) (k := k) (by rw [← unhide HN]; exact hlt)
        obtain ⟨i, hie⟩ : ∃ i, i = PL.getD k 0 := ⟨_, rfl⟩
        rw [← hie] at c0 hdc
        have HDC := hide hdc
        have HBL := hide hb
        have HQQ := hide hqq
        have HTK := hide htk
        have HRG := hide hr
        clear hie hdc hb hqq htk hr
        cases can with
        | false =>
          go_wp2_with (first
            | (at_builtin; refine wpList_append_room rfl _ _ 26 rfl 3 i0 (.int .i64 0) 8 Try.underlying26 hi hz0 hz1 hz2 pg kept.length c cur rfl ((((Below.refl wo.heap.size wo).alloc (Nat.le_refl _) (.cells #[.int .i64 (i : Int)] 3)).block pg ((Array.getElem?_eq_some_iff.1 (unhide HBL)).1)).trans (unhide HBL)) hsz (by omega) ⟨wo.heap.size, 0, none⟩ 1 (.int .i64 (i : Int)) rfl (by simp) rfl ?_))
          intro w5 hb5 hg5
          have hFa := (unhide HF1).step (grownF_alloc wo (.cells #[.int .i64 (i : Int)] 3)) (fun g e => by cases e)
          have hF5 := hFa.stepx (by intro e; cases e) hg5 (unhide HRG)
          have hK5 := ((unhide HK1).trans (kp_on ((Below.refl _ wo).alloc (Nat.le_refl _) (.cells #[.int .i64 (i : Int)] 3)) (unhide HF1).base)).trans (kp_stepx hFa (by intro e; cases e) hg5 (unhide HRG))
          have HS2 : Hid (LkS vars C L mk fix w B F rl S p gone (some ⟨pg, 0, none⟩) n c PL (k + 1) false (.slice (some ⟨pg, 0, none⟩) (kept.length + 1) c) w5) := ⟨rl1, S1, Vq1, kept ++ [i], hF5, hK5, unhide HI1, by rw [unhide HWT1, unhide HDC]; simp, by simp; omega, unhide HASK, unhide HTR, KeptAt.keep hB (unhide HRG) hsz hnc hcm (unhide HTK) (unhide HQQ) hkl hlt i hb5, (fun e => by cases e), fun _ => (by first | exact unhide HCF rfl | exact unhide HCF trivial)⟩
          clear hFa hF5 hK5 hb5 hg5
          go_wp2_with fail
          go_roundw
          case rel => exact ⟨k + 1, false, by omega, rfl, by go_num, HS2⟩
          case measure => simp [intOf]; omega
        | true =>
          have hLK := unhide HCAN rfl
          rw [unhide HDC] at hLK
          have HHO := hide (handOn_any vars hv4 C L hCl mk fix wo B F rl1 S1 Vq1 p gone kept (PL.drop (k + 1)) i (unhide HF1) hLK)
          clear hLK
          go_wp2_with fail
          refine (unhide HHO).mono ?_
          rintro e w3 ⟨S2, Vq2, rl2, hF2, hK2, hwv2, ⟨hSK, hSt, hSa⟩, hGG, hor⟩
          obtain ⟨hbs, hrs⟩ := hGG pg (unhide HRG)
          have HBL3 := hide (hbs.trans (unhide HBL))
          have HR3 := hide hrs
          have HK3 := hide ((unhide HK1).trans hK2)
          have HF3 := hide hF2
          have HTR3 := hide (show S2.tr.take S.tr.length = S.tr by rw [hSt]; exact unhide HTR)
          have HASK3 := hide (show S2.ask = S.ask by rw [hSa]; exact unhide HASK)
          rcases hor with ⟨rfl, hLK⟩ | ⟨rfl, hLK, d, hd, hd1, halt⟩
          · have HS2 : Hid (LkS vars C L mk fix w B F rl S p gone (some ⟨pg, 0, none⟩) n c PL (k + 1) true (.slice (some ⟨pg, 0, none⟩) kept.length c) w3) := ⟨rl2, S2, Vq2, kept, unhide HF3, unhide HK3, hLK.inv, hLK.lst, by omega, unhide HASK3, unhide HTR3, .inr ⟨pg, cur, rfl, hB, unhide HR3, unhide HBL3, hsz, hnc, hcm, rfl, unhide HTK, fun q h1 h2 => unhide HQQ q (by omega) h2⟩, fun _ => hLK, (fun e => by cases e)⟩
            clear hF2 hK2 hwv2 hSK hSt hSa hGG hbs hrs hLK HHO
            go_wp2_with fail
            go_roundw
            case rel => exact ⟨k + 1, true, by omega, rfl, by go_num, HS2⟩
            case measure => simp [intOf]; omega
          · have HLK := hide hLK
            have HD := hide hd
            have HD1 := hide hd1
            have HALT := hide halt
            clear hF2 hK2 hwv2 hSK hSt hSa hGG hbs hrs hLK HHO hd hd1 halt HBL
            have HBL := HBL3
            go_wp2_with (first
              | (at_builtin; refine wpList_append_room rfl _ _ 26 rfl 3 i0 (.int .i64 0) 8 Try.underlying26 hi hz0 hz1 hz2 pg kept.length c cur rfl ((((Below.refl w3.heap.size w3).alloc (Nat.le_refl _) (.cells #[.int .i64 (i : Int)] 3)).block pg ((Array.getElem?_eq_some_iff.1 (unhide HBL)).1)).trans (unhide HBL)) hsz (by omega) ⟨w3.heap.size, 0, none⟩ 1 (.int .i64 (i : Int)) rfl (by simp) rfl ?_))
            intro w5 hb5 hg5
            have hFa := (unhide HF3).step (grownF_alloc w3 (.cells #[.int .i64 (i : Int)] 3)) (fun g e => by cases e)
            have hF5 := hFa.stepx (by intro e; cases e) hg5 (unhide HR3)
            have HK5 := hide (((unhide HK3).trans (kp_on ((Below.refl _ w3).alloc (Nat.le_refl _) (.cells #[.int .i64 (i : Int)] 3)) (unhide HF3).base)).trans (kp_stepx hFa (by intro e; cases e) hg5 (unhide HR3)))
            have HKA5 := hide (KeptAt.keep (P := PL) (n := n) hB (unhide HR3) hsz hnc hcm (unhide HTK) (unhide HQQ) hkl hlt i hb5)
            have hin := (List.getElem?_eq_some_iff.1 (unhide HD)).1
            obtain ⟨hdl, _, hdr⟩ := (unhide HLK).inv.stored d (List.mem_of_getElem? (unhide HD))
            obtain ⟨g2, cap2, hdv, hrow2⟩ := hF5.clause_at (i := i) (by simp) (unhide HD) (by omega)
            obtain ⟨og, ocap, hcv, hoc⟩ := hF5.outer_at (by simp) hin
            rw [hdv] at hoc
            have hcc := hF5.cells.cc
            rw [hcv] at hcc
            have r0 := row_int hrow2 (j := 0) (by omega)
            have ho := hdr (d.getD 0 0) (mem_getD.2 ⟨0, by omega, rfl⟩)
            have i1 : (i : Int) < (S2.cl.length : Int) := by omega
            have i0' : (0 : Int) ≤ (i : Int) := by omega
            have hp0 : (0 : Int) < (d.length : Int) := by omega
            have hp0n : 0 < d.length := by omega
            have HLRN := hide (learn_any vars hv4 w5 B F rl2 _ S2 Vq2 hF5 (by simp) (unhide HLK).inv.trail (d.getD 0 0) ho.1 ho.2.1 ho.2.2)
            have hod : d.getD 0 0 ∈ d := mem_getD.2 ⟨0, by omega, rfl⟩
            have HOD := hide hod
            obtain ⟨o, hoe⟩ : ∃ o, o = d.getD 0 0 := ⟨_, rfl⟩
            rw [← hoe] at r0 HLRN HOD ho
            have HALT2 : Hid (valK S2.K o = 1 ∨ ∀ y, y ∈ d → y ≠ o → valK S2.K y = -1) := by
              show _ ∨ _
              rw [hoe]; exact unhide HALT
            have HOE := hide hoe
            have HO := hide ho
            have HF5 := hide hF5
            clear hFa hF5 hb5 hg5 hdr hdv hcv hrow2 hoe hod HALT ho hin hdl
            go_wp2_with fail
            refine (unhide HLRN).mono ?_
            rintro e w6 (⟨hne, rfl, hww⟩ | ⟨h0, rfl, rl6, tv6, hF6, hK6, hG6⟩)
            · have hww := hww.symm
              subst hww
              by_cases h1 : valK S2.K o = 1
              · have hd : decide (valK S2.K o = 1) = true := decide_eq_true h1
                have hkp := (unhide HLK).keep (unhide HD) (unhide HD1) (by rw [← unhide HOE]; exact ((unhide HLK).inv.trail.mem o (unhide HO).1).1 h1)
                have HS2 : Hid (LkS vars C L mk fix w B F rl S p gone (some ⟨pg, 0, none⟩) n c PL (k + 1) true (.slice (some ⟨pg, 0, none⟩) (kept.length + 1) c) w5) := ⟨rl2, S2, Vq2, kept ++ [i], unhide HF5, unhide HK5, hkp.inv, hkp.lst, by simp; omega, unhide HASK3, unhide HTR3, unhide HKA5, fun _ => hkp, (fun e => by cases e)⟩
                rw [hd]
                clear hne h1 hd hkp HLRN
                go_wp2_with fail
                go_roundw
                case rel => exact ⟨k + 1, true, by omega, rfl, by go_num, HS2⟩
                case measure => simp [intOf]; omega
              · have hd : decide (valK S2.K o = 1) = false := decide_eq_false h1
                have hcf : Conf C L := (unhide HLK).conf (unhide HC) (unhide HD) (fun y hy => by
                  by_cases e : y = o
                  · rw [e]; exact low_of (unhide HLK).inv h1 hne
                  · rcases unhide HALT2 with h2 | h2
                    · exact absurd h2 h1
                    · exact h2 y hy e)
                have HS2 : Hid (LkS vars C L mk fix w B F rl S p gone (some ⟨pg, 0, none⟩) n c PL (k + 1) false (.slice (some ⟨pg, 0, none⟩) (kept.length + 1) c) w5) := ⟨rl2, S2, Vq2, kept ++ [i], unhide HF5, unhide HK5, (unhide HLK).inv, by rw [(unhide HLK).lst]; simp, by simp; omega, unhide HASK3, unhide HTR3, unhide HKA5, (fun e => by cases e), fun _ => hcf⟩
                rw [hd]
                clear hne h1 hd hcf HLRN
                go_wp2_with fail
                go_roundw
                case rel => exact ⟨k + 1, false, by omega, rfl, by go_num, HS2⟩
                case measure => simp [intOf]; omega
            · have hlow : ∀ y, y ∈ d → y ≠ o → valK S2.K y = -1 := by
                rcases unhide HALT2 with h2 | h2
                · omega
                · exact h2
              have hpu := (unhide HLK).push (unhide HO).1 (unhide HO).2.1 (unhide HO).2.2 h0 ((unhide HLK).follows (unhide HC) (unhide HD) (unhide HOD) hlow)
              have hkp := hpu.keep (unhide HD) (unhide HD1) (by rw [← unhide HOE]; simp)
              have hp5 := ((unhide HF5).low pg _ (unhide HR3)).2
              have hrl6 : rl6 pg = some (.watch gone) := (hK6.ext pg hp5).trans (unhide HR3)
              have hbl6 := hG6 pg _ (unhide HR3) (by intro e; cases e) (by intro e; cases e)
              have hka6 : KeptAt w6 B rl6 gone (some ⟨pg, 0, none⟩) n c PL (.slice (some ⟨pg, 0, none⟩) (kept.length + 1) c) (kept ++ [i]) (k + 1) := by
                rcases unhide HKA5 with ⟨e, _⟩ | ⟨g', cur', hp', a1, a2, a3, a4, a5, a6, a7, a8, a9⟩
                · cases e
                · simp only [Option.some.injEq, Addr.mk.injEq, and_true] at hp'
                  subst hp'
                  exact .inr ⟨pg, cur', rfl, a1, hrl6, hbl6.trans a3, a4, a5, a6, a7, a8, a9⟩
              have HS2 : Hid (LkS vars C L mk fix w B F rl S p gone (some ⟨pg, 0, none⟩) n c PL (k + 1) true (.slice (some ⟨pg, 0, none⟩) (kept.length + 1) c) w6) := ⟨rl6, _, _, kept ++ [i], hF6, (unhide HK5).trans hK6, hkp.inv, hkp.lst, by simp; omega, unhide HASK3, tr_more (unhide HTR3) rfl o, hka6, fun _ => hkp, (fun e => by cases e)⟩
              clear hF6 hK6 hG6 h0 hlow hpu hkp hrl6 hbl6 hka6 hp5 HLRN
              go_wp2_with fail
              go_roundw
              case rel => exact ⟨k + 1, true, by omega, rfl, by go_num, HS2⟩
              case measure => simp [intOf]; omega
      · have j1 : ¬ (k : Int) < (n : Int) := by omega
        have hke : k = n := by omega
        clear hke
        have hkn2 : kept.length ≤ n := by omega
        have hrow := (unhide HKA).row hkn2
        have hdn : PL.drop k = [] := List.drop_eq_nil_iff.2 (by rw [← unhide HN]; omega)
        have hwt : S1.wt gone = kept := by rw [unhide HWT1, hdn, List.append_nil]
        have HROW := hide (show RowR wo B rl1 (.watch gone) 3 (.slice ka kept.length kc) (nV (S1.wt gone)) by rw [hwt]; exact hrow)
        have HWT := hide hwt
        have HDN := hide hdn
        have hFo := (unhide HF1).lt
        have hfz := (unhide HF1).cells.fz (wPlace gone)
        rw [unhide HPL] at hfz
        have hcw := (unhide HF1).cells.wc gone hg1 hg2
        rw [unhide HPL] at hcw
        clear hrow hwt hdn HKA
        go_upto_region 11 with fail
        refine wp_region_mixN (k := 100) 7 [] [.pointer (some ⟨F, 0, none⟩), .int .i64 gone, .int .i64 (q : Int), .slice ka kept.length kc, .pointer (some ⟨F, 0, none⟩), .pointer (some ⟨F, 404, none⟩), .pointer (some ⟨F, 404 + q, none⟩)] (fun _ us x => CQ wo us x) (by kernel_rfl) (by kernel_rfl) (by kernel_rfl) (by kernel_rfl) (by kernel_rfl) (by kernel_rfl) ⟨rfl, (Below.refl _ _).drew⟩ ?_ ?_ ?_
        · intro full hfull i oo hi hns ho y fl us hC hb
          simp [putAll, slotOf, Act.put] at hfull
          subst hfull
          have hC0 := hC
          match i with
          | 0 => simp at ho; subst ho; simp [gwp, Region.wanted, yielded]; go_simp; first | done | exact hC0 | exact ⟨rfl, hC0⟩
          | 1 => simp at ho; subst ho; simp [gwp, Region.wanted, yielded]; go_simp; first | done | exact hC0 | exact ⟨rfl, hC0⟩
          | 2 =>
            simp at ho; subst ho; simp [gwp, Region.wanted, yielded]; go_simp
            refine (unhide HP _).mono ?_
            rintro e y' ⟨rfl, hww⟩
            have hww := hww.symm
            subst hww
            go_simp
            first | done | exact hC0 | exact ⟨rfl, hC0⟩
          | 3 => simp at ho; subst ho; simp [gwp, Region.wanted, yielded]; go_simp; first | done | exact hC0 | exact ⟨rfl, hC0⟩
          | 4 => simp at ho; subst ho; simp [gwp, Region.wanted, yielded]; go_simp; first | done | exact hC0 | exact ⟨rfl, hC0⟩
          | 5 => simp at ho; subst ho; simp [gwp, Region.wanted, yielded]; go_simp; first | done | exact hC0 | exact ⟨rfl, hC0⟩
          | 6 => simp at ho; subst ho; simp [gwp, Region.wanted, yielded]; go_simp; first | done | exact hC0 | exact ⟨rfl, hC0⟩
          | i + 7 => omega
        · intro full hfull us j hj
          simp at hj
        · intro full hfull us y hus hC
          simp [putAll, slotOf, Act.put] at hfull
          subst hfull
          obtain ⟨hus0, hby⟩ := hC
          subst hus0
          have hF2 := (unhide HF1).on hby
          have hK2 := (unhide HK1).trans (kp_on hby (unhide HF1).base)
          have hrow2 : RowR y B rl1 (.watch gone) 3 (.slice ka kept.length kc) (nV (S1.wt gone)) := (unhide HROW).kept (row := none) ⟨hby.os, hby.tape, hby.output, hby.size, fun b hb' _ => hby.block b hb'⟩ (fun g e => by cases e) (fun _ h => h)
          have hF3 := hF2.unbut hg1 hg2 hrow2
          have hK3 := hK2.setF (F := F) (w0 := w) (rl0 := rl) (.inl (by rw [← (unhide HK1).ext F hFlt, (unhide HF1).self]; simp)) ((unhide HF1).low F _ (unhide HF1).self).1 (wPlace gone) (by unfold wPlace; omega) (.slice ka kept.length kc)
          rw [unhide HPL] at hF3 hK3
          have t3 := (hby.cell (p := ⟨F, 404 + q, none⟩) hFo).trans hcw
          have f3 := (World.frozen?_of_block (w := wo) (a := ⟨F, 404 + q, none⟩) (hby.block F hFo)).trans hfz
          have HP2 : Hid (LookP vars C L mk fix w B F rl S p (.returned (.bool can)) (y.setCell ⟨F, 404 + q, none⟩ (.slice ka kept.length kc))) := by
            refine ⟨rl1, S1, _, hF3, hK3, unhide HI1, unhide HASK, unhide HTR, ?_⟩
            cases can with
            | true =>
              have hl := unhide HCAN rfl
              rw [unhide HDN] at hl
              exact .inl ⟨rfl, hl.done⟩
            | false => exact .inr ⟨rfl, unhide HCF rfl⟩
          clear hF2 hK2 hrow2 hF3 hK3 hby hcw hfz
          simp [putP, slotOf, Act.put]
          go_wp2_with fail
          go_ret
          exact unhide HP2
end Go.Proofs.Ythkhaemlcmkkjar

namespace Go.Proofs.Ythkhaemlcmkkjar
set_option linter.unusedVariables false
set_option linter.unusedSimpArgs false
open Go.RowKit Go.Deep Go.Sort

theorem InvU.asked {vars : Nat} {C : List (List Int)} {L : List Int} {mk : List (Nat × List Int)} {fix : Nat} {S : FSt} (h : InvU vars C L mk fix S) {a : Nat} (h1 : S.ask ≤ a) (h2 : a ≤ S.tr.length) : InvU vars C L mk fix ⟨S.K, S.tr, a, S.cl, S.wt⟩ :=
  ⟨h.trail, h2, h.fxl, h.stored, h.few, h.wl, h.sound, h.cov, h.src, fun m hm => ⟨(h.mle m hm).1, Nat.le_trans (h.mle m hm).2 h1⟩, h.mso, h.mw, h.ms, h.ml⟩
/-- What follow leaves. -/
def FollowP (vars : Nat) (C : List (List Int)) (L : List Int) (mk : List (Nat × List Int)) (fix : Nat) (w : World) (B F : Nat) (rl : Rl) (S : FSt) (e : Ending) (w' : World) : Prop :=
  ∃ rl' S' V', FAt w' B F rl' none S' V' ∧ Kp B w rl w' rl' ∧ InvU vars C L mk fix S' ∧ S'.tr.take S.tr.length = S.tr ∧
    ((e = .returned (.bool true) ∧ S'.ask = S'.tr.length ∧ WatK S'.cl S'.tr S'.tr) ∨ (e = .returned (.bool false) ∧ Conf C L))
def FolS (vars : Nat) (C : List (List Int)) (L : List Int) (mk : List (Nat × List Int)) (fix : Nat) (w : World) (B F : Nat) (rl : Rl) (S : FSt) (wr : World) : Prop :=
  ∃ rl' S' V', FAt wr B F rl' none S' V' ∧ Kp B w rl wr rl' ∧ InvU vars C L mk fix S' ∧ S'.tr.take S.tr.length = S.tr ∧ WatK S'.cl (S'.tr.take S'.ask) S'.tr
/-- How many are asked, in memory. -/
def askedW (F : Nat) (w : World) : Nat := match w.cell? ⟨F, 402, none⟩ with
  | some (.int _ z) => z.toNat
  | _ => 0
theorem take_le_take {a b c : List Int} (h1 : b.take a.length = a) (h2 : c.take b.length = b) : c.take a.length = a := by
  have hl : a.length ≤ b.length := by
    have := congrArg List.length h1
    simp at this
    omega
  have e : (c.take b.length).take a.length = c.take a.length := by rw [List.take_take, Nat.min_eq_left hl]
  rw [← e, h2, h1]

set_option maxRecDepth 100000 in
set_option maxHeartbeats 8000000 in
theorem follow_any (vars : Nat) (hv4 : vars ≤ 400) (C : List (List Int)) (L : List Int) (hC : NzC C) (hCl : C.length ≤ 12100) (mk : List (Nat × List Int)) (fix : Nat) (w : World) (B F : Nat) (rl : Rl) (S : FSt) (V : FV)
    (h : FAt w B F rl none S V) (hI : InvU vars C L mk fix S) (hw : WatK S.cl (S.tr.take S.ask) S.tr) :
    Calls Try.prog 42 #[.pointer (some ⟨F, 0, none⟩)] w fun e w' => FollowP vars C L mk fix w B F rl S e w' := by
  have HS0 : Hid (FolS vars C L mk fix w B F rl S w) := ⟨rl, S, V, h, Kp.refl _ _ _, hI, List.take_length, hw⟩
  have HC := hide hC
  clear h hI hw hC
  go_enter Try.func42, Try.ntmps42
  go_wp2_with fail
  go_loopw [] (fun wr => Hid (FolS vars C L mk fix w B F rl S wr)) (fun wr => 1000 - askedW F wr)
  case atStart => exact HS0
  case round =>
    rename World => wo
    have HS := hrel
    obtain ⟨rl1, S1, Vq1, hF1, hK1, hI1, htr1, hW1⟩ := unhide HS
    have ca := hF1.cells.ac
    have ct := hF1.cells.tc
    obtain ⟨ta, tc, htv, hrow⟩ := hF1.tr_row (by simp)
    rw [htv] at ct
    have hF := hF1.lt
    have htl := hI1.trail.len
    have hask := hI1.ask
    have hmeas : askedW F wo = S1.ask := by unfold askedW; rw [ca]; simp
    have HF1 := hide hF1
    have HK1 := hide hK1
    have HI1 := hide hI1
    have HTR := hide htr1
    have HW1 := hide hW1
    by_cases hlt : S1.ask < S1.tr.length
    · have j1 : (S1.ask : Int) < (S1.tr.length : Int) := by omega
      have j0 : (0 : Int) ≤ (S1.ask : Int) := by omega
      obtain ⟨g, hg⟩ : ∃ g, ta = some ⟨g, 0, none⟩ := by
        rcases hrow.2 with ⟨_, h0⟩ | ⟨g, cap, cur, hv, _⟩
        · omega
        · simp only [Value.slice.injEq] at hv
          exact ⟨g, hv.1⟩
      subst hg
      have cl := row_int hrow (j := S1.ask) hlt
      have hgl : g < wo.heap.size := (World.ownsRow.lt hrow g rfl).2
      have hat : S1.tr[S1.ask]? = some (S1.tr.getD S1.ask 0) := by simp [List.getD, hlt]
      obtain ⟨lit, hlit⟩ : ∃ lit, lit = S1.tr.getD S1.ask 0 := ⟨_, rfl⟩
      rw [← hlit] at cl hat
      have hrng := hI1.trail.rng lit (by rw [hlit]; exact getD_mem hlt)
      have hneg : IntKind.i64.wrap (-lit) = -lit := by rw [IntKind.wrap_i64]; omega
      have hadd : IntKind.i64.wrap ((S1.ask : Int) + 1) = ((S1.ask + 1 : Nat) : Int) := by rw [IntKind.wrap_i64]; omega
      have HAT := hide hat
      have HME := hide hmeas
      clear hF1 hK1 hI1 htr1 hW1 hrow htv hlit hat hmeas HS
      go_wp2_with fail
      go_quiet (fail)
      obtain ⟨w2, hw2⟩ : ∃ w2, w2 = wo.drewN nq := ⟨_, rfl⟩
      have b2 : Below wo.heap.size wo w2 := by rw [hw2]; exact ((Drawn.refl wo).more nq).below _
      rw [← hw2]
      clear hw2
      rw [← b2.cell (p := ⟨F, 402, none⟩) hF] at ca
      rw [← b2.cell (p := ⟨F, 401, none⟩) hF] at ct
      rw [← b2.cell (p := ⟨g, _, none⟩) hgl] at cl
      go_wp2_with fail
      go_quiet (fail)
      obtain ⟨w3, hw3⟩ : ∃ w3, w3 = w2.drewN nq := ⟨_, rfl⟩
      have b3 : Below w2.heap.size w2 w3 := by rw [hw3]; exact ((Drawn.refl w2).more nq).below _
      rw [← hw3]
      clear hw3
      rw [← b3.cell (p := ⟨F, 402, none⟩) (Nat.lt_of_lt_of_le hF b2.size)] at ca
      have hF3 := ((unhide HF1).on b2).on b3
      have hK3 := ((unhide HK1).trans (kp_on b2 (unhide HF1).base)).trans (kp_on b3 ((unhide HF1).on b2).base)
      have hfz := hF3.cells.fz 402
      have hF4 := hF3.asked (S1.ask + 1)
      have hK4 := hK3.setF (F := F) (w0 := w) (rl0 := rl) (by
        by_cases hFw : F < w.heap.size
        · exact .inl (by rw [← (unhide HK1).ext F hFw, (unhide HF1).self]; simp)
        · exact .inr (by omega)) ((unhide HF1).low F _ (unhide HF1).self).1 402 (by omega) (.int .i64 ((S1.ask + 1 : Nat) : Int))
      have HLA := hide (lookAt_any vars hv4 C L (unhide HC) hCl mk fix (w3.setCell ⟨F, 402, none⟩ (.int .i64 ((S1.ask + 1 : Nat) : Int))) B F rl1 _ _ S1.ask (-lit) hF4 ((unhide HI1).asked (a := S1.ask + 1) (by omega) (by omega)) (unhide HW1) (by rw [Int.neg_neg]; exact unhide HAT) (fun m hm => ((unhide HI1).mle m hm).2))
      have HK4 := hide hK4
      clear hF3 hK3 hF4 hK4 b2 b3
      go_wp2_with fail
      refine (unhide HLA).mono ?_
      rintro e w5 ⟨rl5, S5, V5, hF5, hK5, hI5, hask5, htr5, hor⟩
      have hk5 := (unhide HK4).trans hK5
      have htr := take_le_take (unhide HTR) htr5
      rcases hor with ⟨rfl, hw5⟩ | ⟨rfl, hcf⟩
      · have HS5 : Hid (FolS vars C L mk fix w B F rl S w5) := ⟨rl5, S5, V5, hF5, hk5, hI5, htr, by rw [hask5]; exact hw5⟩
        have hme5 : askedW F w5 = S1.ask + 1 := by
          unfold askedW
          rw [hF5.cells.ac, hask5]
          simp
        clear hF5 hK5 hI5 hask5 htr5 hw5 hk5 htr HLA
        go_wp2_with fail
        go_roundw
        case rel => exact HS5
        case measure => rw [hme5, unhide HME]; omega
      · have HP : Hid (FollowP vars C L mk fix w B F rl S (.returned (.bool false)) w5) := ⟨rl5, S5, V5, hF5, hk5, hI5, htr, .inr ⟨rfl, hcf⟩⟩
        clear hF5 hK5 hI5 hask5 htr5 hcf hk5 htr HLA
        go_wp2_with fail
        go_ret
        exact unhide HP
    · have j1 : ¬ (S1.ask : Int) < (S1.tr.length : Int) := by omega
      have he : S1.ask = S1.tr.length := by omega
      have HE := hide he
      clear hF1 hK1 hI1 htr1 hW1 hrow htv hmeas HS he
      go_wp2_with fail
      go_quiet (fail)
      have b2 : Below wo.heap.size wo (wo.drewN nq) := ((Drawn.refl wo).more nq).below _
      have HP : Hid (FollowP vars C L mk fix w B F rl S (.returned (.bool true)) (wo.drewN nq)) := ⟨rl1, S1, Vq1, (unhide HF1).on b2, (unhide HK1).trans (kp_on b2 (unhide HF1).base), unhide HI1, unhide HTR, .inl ⟨rfl, unhide HE, by have := unhide HW1; rw [unhide HE, List.take_length] at this; exact this⟩⟩
      clear b2
      go_wp2_with fail
      go_ret
      exact unhide HP
end Go.Proofs.Ythkhaemlcmkkjar

namespace Go.Proofs.Ythkhaemlcmkkjar
set_option linter.unusedVariables false
set_option linter.unusedSimpArgs false
open Go.RowKit Go.Deep Go.Sort

end Go.Proofs.Ythkhaemlcmkkjar

namespace Go.Proofs.Ythkhaemlcmkkjar
set_option linter.unusedVariables false
set_option linter.unusedSimpArgs false
open Go.RowKit Go.Deep Go.Sort

def st0 : FSt := ⟨fun _ => 0, [], 0, [], fun _ => []⟩
def fv0 : FV := ⟨.slice none 0 0, .slice none 0 0, fun _ => .slice none 0 0, fun _ => .slice none 0 0⟩
def rl0 (F : Nat) : Rl := fun g => if g = F then some .self else none
theorem FAt.start {w : World} {B F : Nat} {C : Array Value} {T : TypeId} (hb : w.heap[F]? = some (.cells C T (0, 0))) (hB : B ≤ F) (h1 : ∀ v, v ≤ 400 → C[v]? = some (.int .i8 0)) (h2 : C[401]? = some (.slice none 0 0)) (h3 : C[402]? = some (.int .i64 0)) (h4 : C[403]? = some (.slice none 0 0)) (h5 : ∀ q, q < 801 → C[404 + q]? = some (.slice none 0 0)) :
    FAt w B F (rl0 F) none st0 fv0 := by
  have hlt := (Array.getElem?_eq_some_iff.1 hb).1
  have hc : ∀ i, w.cell? ⟨F, i, none⟩ = C[i]? := fun i => cell_of_row w F i C T _ hb
  refine ⟨fun g r hg => ?_, by unfold rl0; rw [if_pos rfl], ⟨fun v hv => (hc v).trans (h1 v hv), (hc _).trans h2, (hc _).trans h3, (hc _).trans h4, fun l g1 g2 => (hc _).trans (h5 _ (by omega)), fun i => by unfold World.frozen?; rw [hb]; simp⟩, fun r xs _ hx => ?_⟩
  · unfold rl0 at hg
    split at hg
    · rename_i e; rw [e]; exact ⟨hB, hlt⟩
    · cases hg
  · cases r with
    | trail =>
      simp only [rowX, Option.some.injEq] at hx
      subst hx
      exact ⟨World.ownsRow_nil _ _ _ _, fun g e => by cases e⟩
    | outer =>
      simp only [rowX, Option.some.injEq] at hx
      subst hx
      exact ⟨World.ownsRow_nil _ _ _ _, fun g e => by cases e⟩
    | clause i => simp [rowX, st0] at hx
    | watch l =>
      simp only [rowX] at hx
      split at hx
      · simp only [Option.some.injEq] at hx
        subst hx
        exact ⟨World.ownsRow_nil _ _ _ _, fun g e => by cases e⟩
      · cases hx
    | self => simp [rowX] at hx
    | free => simp [rowX] at hx
theorem three_at (n m : Nat) (x a b c y : Value) : (∀ v, v < n → (List.replicate n x ++ [a, b, c] ++ List.replicate m y).toArray[v]? = some x) ∧ (List.replicate n x ++ [a, b, c] ++ List.replicate m y).toArray[n]? = some a ∧ (List.replicate n x ++ [a, b, c] ++ List.replicate m y).toArray[n + 1]? = some b ∧ (List.replicate n x ++ [a, b, c] ++ List.replicate m y).toArray[n + 2]? = some c ∧ ∀ q, q < m → (List.replicate n x ++ [a, b, c] ++ List.replicate m y).toArray[n + 3 + q]? = some y := by
  simp only [List.getElem?_toArray, List.append_assoc]
  refine ⟨fun v hv => ?_, ?_, ?_, ?_, fun q hq => ?_⟩
  · rw [List.getElem?_append_left (by rw [List.length_replicate]; exact hv), List.getElem?_replicate, if_pos hv]
  · rw [List.getElem?_append_right (by rw [List.length_replicate]; exact Nat.le_refl _), List.length_replicate, Nat.sub_self]
    rfl
  · rw [List.getElem?_append_right (by rw [List.length_replicate]; omega), List.length_replicate, Nat.add_sub_cancel_left]
    rfl
  · rw [List.getElem?_append_right (by rw [List.length_replicate]; omega), List.length_replicate, Nat.add_sub_cancel_left]
    rfl
  · rw [List.getElem?_append_right (by rw [List.length_replicate]; omega), List.length_replicate, List.getElem?_append_right (by simp; omega), List.getElem?_replicate, if_pos (by simp; omega)]
end Go.Proofs.Ythkhaemlcmkkjar
