/- The program's own RepoWrite. -/
import Derived.Test.YtlabpejmmkeacauDoorSpecW
import Derived.Test.YtlabpejmmkeacauDoorImplD
import Derived.Test.YtlabpejmmkeacauDoorShelf
import Derived.Lib.SmallJoins
namespace Go.Proofs.YtlabpejmmkeacauDoor
set_option linter.unusedVariables false
set_option linter.unusedSimpArgs false
open Go.RowKit Go.Sort

/-- The library's table of powers of ten reads as its text lays it. -/
def Tab (w : World) : Prop := Lib.TabIs Tryd.prog w "internal/strconv.uint64pow10" .u64 Lib.pow10Tab
theorem gTab : ∃ g, Tryd.prog.globalNamed "internal/strconv.uint64pow10" = some g :=
  Option.isSome_iff_exists.mp (show (Tryd.prog.globalNamed "internal/strconv.uint64pow10").isSome = true by kernel_rfl)
theorem Tab.on {w w' : World} (h : Tab w) (hb : Below w.heap.size w w') : Tab w' := by
  obtain ⟨g, hg⟩ := gTab
  exact Joins.tab_stays hg h hb (Nat.le_refl _)

theorem itoa_at (n : Int) (w : World) (h0 : 0 ≤ n) (h1 : n ≤ 999) (ht : Tab w) :
    Calls Tryd.prog 15 #[.int .i64 n] w fun e w' => e = .returned (.string (bs (dL n))) ∧ Below w.heap.size w w' := by
  refine (Tryd.strconv_Itoa n (by omega) (by omega) w ht).mono ?_
  rintro e w' ⟨rfl, k, os, rfl⟩
  refine ⟨?_, ⟨rfl, rfl, rfl, by simp [grow], fun j hj => by simp [grow, Array.getElem?_append, hj]⟩⟩
  rw [Lib.itoa, if_neg (by omega)]
  rfl

set_option maxHeartbeats 2000000 in
theorem reqsText_any (a : Option Addr) (l : List ReqD) (cap : Nat) (w : World) (h : ReqsAt (Old w) w a l) (hok : reqsB l = true) (ht : Tab w) :
    Calls Tryd.prog 28 #[.slice a l.length cap] w fun e w' => e = .returned (.string (bs (reqsL l))) ∧ Below w.heap.size w w' := by
  obtain ⟨hm, h⟩ := h
  obtain ⟨h4, hq4⟩ := reqsOk_of hok
  have HQ4 := hide hq4
  have HTab := hide ht
  clear hok hm hq4 ht
  go_enter Tryd.func28, Tryd.ntmps28
  go_wp2
  go_loopw [3, 8] (fun s i wr => ∃ k : Nat, k ≤ l.length ∧ i = .int .i64 k ∧ s = .string (bs (reqsL (l.take k))) ∧ Below w.heap.size w wr) (fun _ i _ => l.length - (intOf i).toNat)
  case atStart => exact ⟨0, Nat.zero_le _, rfl, by simp [reqsL, bs], Below.refl _ _⟩
  case round =>
    rename World => wo
    obtain ⟨k, hk, rfl, rfl, hw⟩ := hrel
    by_cases hlt : k < l.length
    · rcases h with h | ⟨b, o, rfl, hSb, h⟩
      · subst h; simp at hlt
      · have hq := h k hlt
        have hqo := unhide HQ4 k hlt
        clear h
        have hlen := reqsL_len (unhide HQ4) k hk
        have HT := hide (@reqsL_take l k hlt)
        obtain ⟨q, hqe⟩ : ∃ q, q = l.getD k dReq := ⟨_, rfl⟩
        rw [← hqe] at hq hqo HT
        obtain ⟨c0, c1, c2, hn⟩ := hq
        rw [← hw.cell (p := ⟨b, _, none⟩) hSb] at c0 c1 c2
        obtain ⟨s, hse⟩ : ∃ s, s = bs (reqsL (l.take k)) := ⟨_, rfl⟩
        have hss : s.size ≤ 60 := by rw [hse, bs_size]; omega
        rw [← hse]
        obtain ⟨da, hda⟩ : ∃ d, d = bs (dL q.low) := ⟨_, rfl⟩
        have hsa : da.size ≤ 3 := by rw [hda, bs_size]; exact dL_len _ hqo.low0 hqo.low1
        obtain ⟨db, hdb⟩ : ∃ d, d = bs (dL q.high) := ⟨_, rfl⟩
        have hsb : db.size ≤ 3 := by rw [hdb, bs_size]; exact dL_len _ hqo.high0 hqo.high1
        have hsn := hqo.name
        have n1 : ¬ 9223372036854775807 < 1 + q.name.size := by omega
        have n2 : ¬ 9223372036854775807 < 1 + q.name.size + 1 := by omega
        have n3 : ¬ 9223372036854775807 < 1 + q.name.size + 1 + da.size := by omega
        have n4 : ¬ 9223372036854775807 < 1 + q.name.size + 1 + da.size + 1 := by omega
        have n5 : ¬ 9223372036854775807 < 1 + q.name.size + 1 + da.size + 1 + db.size := by omega
        have n6 : ¬ 9223372036854775807 < s.size + (1 + q.name.size + 1 + da.size + 1 + db.size) := by omega
        have HA := hide (fun W (hW : Tab W) => (by rw [hda]; exact itoa_at q.low W hqo.low0 hqo.low1 hW : Calls Tryd.prog 15 #[.int .i64 q.low] W fun e w' => e = .returned (.string da) ∧ Below W.heap.size W w'))
        have HBd := hide (fun W (hW : Tab W) => (by rw [hdb]; exact itoa_at q.high W hqo.high0 hqo.high1 hW : Calls Tryd.prog 15 #[.int .i64 q.high] W fun e w' => e = .returned (.string db) ∧ Below W.heap.size W w'))
        have j0 : (0 : Int) ≤ (k : Int) := by omega
        have j1 : (k : Int) < (l.length : Int) := by omega
        have HD := hide (And.intro hse (And.intro hda hdb))
        have HTo := hide ((unhide HTab).on hw)
        have HW := hide hw
        clear hw hse hda hdb hqe hqo hlen
        go_wp2_with fail
        obtain ⟨wx, hwx⟩ : ∃ wx, wx = wo.alloc (.cells #[.string q.name, .int .i64 q.low, .int .i64 q.high] 54) := ⟨_, rfl⟩
        rw [← hwx]
        have x0 : wx.cell? ⟨wo.heap.size, 0, none⟩ = some (.string q.name) := by rw [hwx]; simp
        have x1 : wx.cell? ⟨wo.heap.size, 1, none⟩ = some (.int .i64 q.low) := by rw [hwx]; simp
        have x2 : wx.cell? ⟨wo.heap.size, 2, none⟩ = some (.int .i64 q.high) := by rw [hwx]; simp
        have hbx : Below wo.heap.size wo wx := by rw [hwx]; exact (Below.refl _ _).alloc (Nat.le_refl _) _
        have HTx := hide ((unhide HTo).on hbx)
        have HBX := hide hbx
        clear hwx hbx
        have cA := hide (fun d os => Calls.regrown_of (unhide HA (grow (redrawn wx d) os) ((unhide HTx).on (below_regrown wx d os))))
        have cB := hide (fun d os => Calls.regrown_of (unhide HBd (grow (redrawn wx d) os) ((unhide HTx).on (below_regrown wx d os))))
        have y0 := cell_regrown x0
        have y1 := cell_regrown x1
        have y2 := cell_regrown x2
        refine wp_region_quiet_below (by kernel_rfl) (by kernel_rfl) ?_
        repeat (quiet_step (first | (go_at_call_of 15 q.low; exact unhide cA _ _) | (go_at_call_of 15 q.high; exact unhide cB _ _)))
        refine wpQuiet_nil ?_
        intro _ hw'
        obtain ⟨⟨dq, osq⟩, hw''⟩ := hw'
        subst hw''
        have HBE := hide ((unhide HW).trans (((unhide HBX).trans ((below_regrown wx dq osq).mono (unhide HBX).size)).mono (unhide HW).size))
        clear y0 y1 y2 x0 x1 x2
        go_wp2_with fail
        go_roundw
        case rel =>
          refine ⟨k + 1, by omega, by go_num, ?_, unhide HBE⟩
          obtain ⟨h1, h2, h3⟩ := unhide HD
          apply str_eq
          rw [bs_data, unhide HT]
          simp [h1, h2, h3, bs_data, reqL]
        case measure => simp [intOf]; omega
    · go_wp2_with fail
      go_ret
      refine ⟨?_, hw⟩
      rw [List.take_of_length_le (by omega)]
      rfl

set_option maxHeartbeats 4000000 in
theorem packText_any (p : PackD) (a1 : Option Addr) (c1 : Nat) (a2 : Option Addr) (c2 : Nat) (a3 : Option Addr) (c3 : Nat) (w : World) (h : PackVal (Old w) w a1 a2 a3 p) (hpo : PackOk p) (ht : Tab w) :
    Calls Tryd.prog 16 #[.agg #[.string p.name, .int .i64 p.ver, .int .i64 p.size, .slice a1 p.deps.length c1, .slice a2 p.pres.length c2, .slice a3 p.bans.length c3]] w fun e w' => e = .returned (.string (bs (packL p))) ∧ Below w.heap.size w w' := by
  have HV := hide h
  have HTab := hide ht
  clear h ht
  obtain ⟨da, hda⟩ : ∃ d, d = bs (dL p.ver) := ⟨_, rfl⟩
  have hsa : da.size ≤ 3 := by rw [hda, bs_size]; exact dL_len _ hpo.ver0 hpo.ver1
  obtain ⟨db, hdb⟩ : ∃ d, d = bs (dL p.size) := ⟨_, rfl⟩
  have hsb : db.size ≤ 3 := by rw [hdb, bs_size]; exact dL_len _ hpo.size0 hpo.size1
  have hsn := hpo.name
  have n2 : ¬ 9223372036854775807 < 5 + p.name.size := by omega
  have n3 : ¬ 9223372036854775807 < 5 + p.name.size + 1 := by omega
  have n4 : ¬ 9223372036854775807 < 5 + p.name.size + 1 + da.size := by omega
  have n5 : ¬ 9223372036854775807 < 5 + p.name.size + 1 + da.size + 1 := by omega
  have n6 : ¬ 9223372036854775807 < 5 + p.name.size + 1 + da.size + 1 + db.size := by omega
  have n7 : ¬ 9223372036854775807 < 5 + p.name.size + 1 + da.size + 1 + db.size + 1 := by omega
  have HD := hide (And.intro hda hdb)
  have HA := hide (fun W (hW : Tab W) => (by rw [hda]; exact itoa_at p.ver W hpo.ver0 hpo.ver1 hW : Calls Tryd.prog 15 #[.int .i64 p.ver] W fun e w' => e = .returned (.string da) ∧ Below W.heap.size W w'))
  have HBd := hide (fun W (hW : Tab W) => (by rw [hdb]; exact itoa_at p.size W hpo.size0 hpo.size1 hW : Calls Tryd.prog 15 #[.int .i64 p.size] W fun e w' => e = .returned (.string db) ∧ Below W.heap.size W w'))
  clear hda hdb
  have hd4 := hpo.deps
  have HPO := hide hpo
  clear hpo
  go_enter Tryd.func16, Tryd.ntmps16
  go_wp2_with fail
  obtain ⟨wx, hwx⟩ : ∃ wx, wx = w.alloc (.cells #[.string p.name, .int .i64 p.ver, .int .i64 p.size, .slice a1 p.deps.length c1, .slice a2 p.pres.length c2, .slice a3 p.bans.length c3] 39) := ⟨_, rfl⟩
  rw [← hwx]
  have x0 : wx.cell? ⟨w.heap.size, 0, none⟩ = some (.string p.name) := by rw [hwx]; simp
  have x1 : wx.cell? ⟨w.heap.size, 1, none⟩ = some (.int .i64 p.ver) := by rw [hwx]; simp
  have x2 : wx.cell? ⟨w.heap.size, 2, none⟩ = some (.int .i64 p.size) := by rw [hwx]; simp
  have hbx : Below w.heap.size w wx := by rw [hwx]; exact (Below.refl _ _).alloc (Nat.le_refl _) _
  have HTx := hide ((unhide HTab).on hbx)
  have HWX := hide hwx
  clear hwx hbx
  have cA := hide (fun d os => Calls.regrown_of (unhide HA (grow (redrawn wx d) os) ((unhide HTx).on (below_regrown wx d os))))
  have cB := hide (fun d os => Calls.regrown_of (unhide HBd (grow (redrawn wx d) os) ((unhide HTx).on (below_regrown wx d os))))
  have y0 := cell_regrown x0
  have y1 := cell_regrown x1
  have y2 := cell_regrown x2
  refine wp_region_quiet_below (by kernel_rfl) (by kernel_rfl) ?_
  repeat (quiet_step (first | (go_at_call_of 15 p.ver; exact unhide cA _ _) | (go_at_call_of 15 p.size; exact unhide cB _ _)))
  refine wpQuiet_nil ?_
  intro _ hw'
  obtain ⟨⟨dq, osq⟩, hw''⟩ := hw'
  subst hw''
  have hbq := below_regrown wx dq osq
  rw [unhide HWX] at hbq
  have HBX := hide (hbq.mono (show w.heap.size + 1 ≤ _ by simp))
  have hbq2 := hbq.cell (p := ⟨w.heap.size, 3, none⟩) (by simp)
  simp at hbq2
  rw [← unhide HWX] at hbq2 HBX
  generalize hgg : grow (redrawn wx dq) osq = wg at hbq2 HBX ⊢
  have HBX' := HBX
  rw [unhide HWX] at HBX'
  clear hgg hbq y0 y1 y2 x0 x1 x2 n2 n3 n4 n5 n6 n7 cA cB HA HBd HBX
  go_wp2_with fail
  go_loopw [3, 23] (fun t i wi => ∃ j : Nat, j ≤ p.deps.length ∧ i = .int .i64 j ∧ t = .string (bs (headL p ++ (p.deps.take j).flatMap rowL)) ∧ Below (w.heap.size + 1) (w.alloc (.cells #[.string p.name, .int .i64 p.ver, .int .i64 p.size, .slice a1 p.deps.length c1, .slice a2 p.pres.length c2, .slice a3 p.bans.length c3] 39)) wi) (fun _ i _ => p.deps.length - (intOf i).toNat)
  case atStart =>
    refine ⟨0, Nat.zero_le _, rfl, ?_, unhide HBX'⟩
    obtain ⟨h2, h3⟩ := unhide HD
    apply str_eq
    simp [bs_data, h2, h3, headL]
  case round =>
    rename World => wi
    obtain ⟨j, hj, rfl, rfl, hwi⟩ := hrel
    have hpo := unhide HPO
    have x4 := hwi.cell (p := ⟨w.heap.size, 4, none⟩) (by simp)
    have x5 := hwi.cell (p := ⟨w.heap.size, 5, none⟩) (by simp)
    have hzi := hwi.size
    simp at x4 x5 hzi
    have hbw := ((Below.refl w.heap.size w).alloc (Nat.le_refl _) _).trans (hwi.mono (by omega))
    have HVi := hide ((unhide HV).on hbw)
    have HTi := hide ((unhide HTab).on hbw)
    have HBI := hide hwi
    have hrl' := rows_len hpo.rows j hj
    have hhl := headL_len hpo
    obtain ⟨s3, hs3⟩ : ∃ s, s = bs (headL p ++ (p.deps.take j).flatMap rowL) := ⟨_, rfl⟩
    have hss3 : s3.size ≤ 5000 := by rw [hs3, bs_size]; simp only [List.length_append]; omega
    rw [← hs3]
    have HS3 := hide hs3
    clear hs3 hwi hbw
    by_cases hjt : j < p.deps.length
    · obtain ⟨_, hd | ⟨b1, o1, rfl, hS1, hrows⟩⟩ := (unhide HVi).deps
      · rw [hd] at hjt; simp at hjt
      obtain ⟨ar, cr, hc, hrow⟩ := hrows j hjt
      have hrok := hpo.rows j hjt
      have HFR := hide (@flat_take (List ReqD) p.deps [] rowL j hjt)
      generalize p.deps.getD j [] = row at hc hrow hrok HFR
      have HSAY := hide (reqsText_any ar row cr _ hrow hrok (unhide HTi))
      clear hrows hrow
      go_wp2_with fail
      refine (unhide HSAY).mono ?_
      rintro e wj ⟨rfl, hbj⟩
      have HBj := hide ((unhide HBI).trans (hbj.mono (by omega)))
      clear hbj
      obtain ⟨tr, htr⟩ : ∃ t, t = bs (reqsL row) := ⟨_, rfl⟩
      have hstr : tr.size ≤ 60 := by rw [htr, bs_size]; exact reqsL_all hrok
      rw [← htr]
      have HTR := hide htr
      clear htr
      go_wp2_with fail
      go_roundw
      case rel =>
        refine ⟨j + 1, by omega, by go_num, ?_, unhide HBj⟩
        apply str_eq
        rw [bs_data, unhide HFR]
        simp [unhide HS3, unhide HTR, bs_data, rowL]
      case measure => simp [intOf]; omega
    · by_cases hp : 0 < p.pres.length
      · by_cases hbn : 0 < p.bans.length
        · have hp' : (0 : Int) < (p.pres.length : Int) := by omega
          have hbn' : (0 : Int) < (p.bans.length : Int) := by omega
          go_wp2_with fail
          refine (reqsText_any a2 p.pres c2 _ ((unhide HVi).pres) hpo.pres (unhide HTi)).mono ?_
          rintro e wj ⟨rfl, hbj⟩
          have z5 := (hbj.cell (p := ⟨w.heap.size, 5, none⟩) (block_lt_of_cell x5)).trans x5
          have HVj := hide ((unhide HVi).on hbj)
          have HTj := hide ((unhide HTi).on hbj)
          have HBj := hide ((unhide HBI).trans (hbj.mono (by have := (unhide HBI).size; simp at this; omega)))
          clear hbj
          obtain ⟨tp, htp⟩ : ∃ t, t = bs (reqsL p.pres) := ⟨_, rfl⟩
          have hstp : tp.size ≤ 60 := by rw [htp, bs_size]; exact reqsL_all hpo.pres
          rw [← htp]
          have HTP := hide htp
          clear htp
          go_wp2_with fail
          refine (reqsText_any a3 p.bans c3 _ ((unhide HVj).bans) hpo.bans (unhide HTj)).mono ?_
          rintro e wk ⟨rfl, hbk⟩
          have HBk := hide ((unhide HBj).trans (hbk.mono (by have := (unhide HBj).size; simp at this; omega)))
          clear hbk
          obtain ⟨tb, htb⟩ : ∃ t, t = bs (reqsL p.bans) := ⟨_, rfl⟩
          have hstb : tb.size ≤ 60 := by rw [htb, bs_size]; exact reqsL_all hpo.bans
          rw [← htb]
          have HTB := hide htb
          clear htb
          go_wp2_with fail
          go_ret
          refine ⟨?_, ((Below.refl _ _).alloc (Nat.le_refl _) _).trans ((unhide HBk).mono (by omega))⟩
          refine congrArg Ending.returned (str_eq ?_)
          simp [unhide HS3, unhide HTP, unhide HTB, bs_data, packL, moreL, hp, hbn, List.take_of_length_le (show p.deps.length ≤ j by omega)]
        · have hp' : (0 : Int) < (p.pres.length : Int) := by omega
          have hbn' : ¬ (0 : Int) < (p.bans.length : Int) := by omega
          go_wp2_with fail
          refine (reqsText_any a2 p.pres c2 _ ((unhide HVi).pres) hpo.pres (unhide HTi)).mono ?_
          rintro e wj ⟨rfl, hbj⟩
          have z5 := (hbj.cell (p := ⟨w.heap.size, 5, none⟩) (block_lt_of_cell x5)).trans x5
          have HVj := hide ((unhide HVi).on hbj)
          have HTj := hide ((unhide HTi).on hbj)
          have HBj := hide ((unhide HBI).trans (hbj.mono (by have := (unhide HBI).size; simp at this; omega)))
          clear hbj
          obtain ⟨tp, htp⟩ : ∃ t, t = bs (reqsL p.pres) := ⟨_, rfl⟩
          have hstp : tp.size ≤ 60 := by rw [htp, bs_size]; exact reqsL_all hpo.pres
          rw [← htp]
          have HTP := hide htp
          clear htp
          go_wp2_with fail
          go_ret
          refine ⟨?_, ((Below.refl _ _).alloc (Nat.le_refl _) _).trans ((unhide HBj).mono (by omega))⟩
          refine congrArg Ending.returned (str_eq ?_)
          simp [unhide HS3, unhide HTP, bs_data, packL, moreL, hp, hbn, List.take_of_length_le (show p.deps.length ≤ j by omega)]
      · by_cases hbn : 0 < p.bans.length
        · have hp' : ¬ (0 : Int) < (p.pres.length : Int) := by omega
          have hbn' : (0 : Int) < (p.bans.length : Int) := by omega
          go_wp2_with fail
          refine (reqsText_any a3 p.bans c3 _ ((unhide HVi).bans) hpo.bans (unhide HTi)).mono ?_
          rintro e wk ⟨rfl, hbk⟩
          have HBk := hide ((unhide HBI).trans (hbk.mono (by have := (unhide HBI).size; simp at this; omega)))
          clear hbk
          obtain ⟨tb, htb⟩ : ∃ t, t = bs (reqsL p.bans) := ⟨_, rfl⟩
          have hstb : tb.size ≤ 60 := by rw [htb, bs_size]; exact reqsL_all hpo.bans
          rw [← htb]
          have HTB := hide htb
          clear htb
          go_wp2_with fail
          go_ret
          refine ⟨?_, ((Below.refl _ _).alloc (Nat.le_refl _) _).trans ((unhide HBk).mono (by omega))⟩
          refine congrArg Ending.returned (str_eq ?_)
          simp [unhide HS3, unhide HTB, bs_data, packL, moreL, hp, hbn, List.take_of_length_le (show p.deps.length ≤ j by omega)]
        · have hp' : ¬ (0 : Int) < (p.pres.length : Int) := by omega
          have hbn' : ¬ (0 : Int) < (p.bans.length : Int) := by omega
          go_wp2_with fail
          go_ret
          refine ⟨?_, ((Below.refl _ _).alloc (Nat.le_refl _) _).trans ((unhide HBI).mono (by omega))⟩
          refine congrArg Ending.returned (str_eq ?_)
          simp [unhide HS3, bs_data, packL, moreL, hp, hbn, List.take_of_length_le (show p.deps.length ≤ j by omega)]

set_option maxHeartbeats 4000000 in
theorem implRepoWrite_any (a : Option Addr) (packs : List PackD) (cap : Nat) (room : Int) (w : World) (h : PacksAt (Old w) w a packs) (ht : Tab w) :
    Calls Tryd.prog 7 #[.agg #[.slice a packs.length cap, .int .i64 room]] w fun e w' => e = .returned (.string (bs (writeL packs room))) ∧ Below w.heap.size w w' := by
  have HV := hide h
  have HTab := hide ht
  clear h ht
  have e0 : ∀ A, Below w.heap.size w (w.alloc A) := fun A => (Below.refl _ _).alloc (Nat.le_refl _) _
  go_enter Tryd.func7, Tryd.ntmps7
  go_wp2_with fail
  refine (implRepoOk_any a packs cap room _ ((unhide HV).on (e0 _))).mono ?_
  rintro e w1 ⟨rfl, hb⟩
  have HB1 := hide (hb.mono (show w.heap.size + 1 ≤ _ by simp))
  clear hb
  have E0 := hide e0
  clear e0
  cases hok : repoB ⟨packs, room⟩ with
  | false =>
    have e : writeL packs room = [] := by simp [writeL, hok]
    go_wp2_with fail
    go_ret
    refine ⟨?_, (unhide E0 _).trans ((unhide HB1).mono (by omega))⟩
    rw [e]
    rfl
  | true =>
    have hro := repoOk_of hok
    have HRO := hide hro
    have h8 := hro.len
    have HWL := hide (show writeL packs room = if 3000 < (repoL packs room).length then [] else repoL packs room by rw [writeL, if_pos hok])
    have r1 := (unhide HB1).cell (p := ⟨w.heap.size, 1, none⟩) (by simp)
    have hz := (unhide HB1).size
    simp at r1 hz
    go_wp2_with fail
    refine (itoa_at room _ hro.room0 hro.room1 ((unhide HTab).on ((unhide E0 _).trans ((unhide HB1).mono (by omega))))).mono ?_
    rintro e w2 ⟨rfl, hb⟩
    have HB2 := hide ((unhide HB1).trans (hb.mono (by omega)))
    have hrl := roomL_len hro.room0 hro.room1
    clear hb HB1 r1 hz hro
    have r0 := (unhide HB2).cell (p := ⟨w.heap.size, 0, none⟩) (by simp)
    simp at r0
    obtain ⟨dr, hdr⟩ : ∃ d, d = bs (dL room) := ⟨_, rfl⟩
    have hsr : dr.size ≤ 3 := by rw [hdr, bs_size]; exact dL_len _ (unhide HRO).room0 (unhide HRO).room1
    rw [← hdr]
    have HDR := hide hdr
    clear hdr
    go_wp2_with fail
    go_loopw [3, 17] (fun s i wr => ∃ k : Nat, k ≤ packs.length ∧ i = .int .i64 k ∧ s = .string (bs (roomL room ++ (packs.take k).flatMap packL)) ∧ Below (w.heap.size + 1) (w.alloc (.cells #[.slice a packs.length cap, .int .i64 room] 29)) wr) (fun _ i _ => packs.length - (intOf i).toNat)
    case atStart =>
      refine ⟨0, Nat.zero_le _, rfl, ?_, unhide HB2⟩
      apply str_eq
      simp [bs_data, unhide HDR, roomL]
    case round =>
      rename World => wo
      obtain ⟨k, hk, rfl, rfl, hw⟩ := hrel
      have hz := hw.size
      simp at hz
      by_cases hlt : k < packs.length
      · have hpl := packs_len (unhide HRO).each k hk
        have hpo := (unhide HRO).each k hlt
        have HFT := hide (@flat_take PackD packs dPack packL k hlt)
        have hbw := (unhide E0 _).trans (hw.mono (by omega))
        have hVw := (unhide HV).on hbw
        have HTo := hide ((unhide HTab).on hbw)
        clear hbw
        obtain ⟨_, hVw⟩ := hVw
        rcases hVw with hVw | ⟨b, o, rfl, hSb, hVw⟩
        · rw [hVw] at hlt; simp at hlt
        have hq := hVw k hlt
        clear hVw
        obtain ⟨p, hpe⟩ : ∃ p, p = packs.getD k dPack := ⟨_, rfl⟩
        rw [← hpe] at hq hpo HFT
        obtain ⟨a1, c1, a2, c2, a3, c3, ⟨p0, p1, p2, p3, p4, p5⟩, hv⟩ := hq
        clear hpe
        have HPT := hide (fun (A : Obj) => packText_any p a1 c1 a2 c2 a3 c3 (wo.alloc A) (hv.on ((Below.refl _ _).alloc (Nat.le_refl _) _)) hpo ((unhide HTo).on ((Below.refl _ _).alloc (Nat.le_refl _) _)))
        clear hv
        obtain ⟨s, hse⟩ : ∃ s, s = bs (roomL room ++ (packs.take k).flatMap packL) := ⟨_, rfl⟩
        have hss : s.size ≤ 4000 := by rw [hse, bs_size, List.length_append]; omega
        rw [← hse]
        have HSE := hide hse
        clear hse
        go_wp2_with fail
        refine (unhide HPT _).mono ?_
        rintro e wj ⟨rfl, hbj⟩
        have HBj := hide (after_box hw (hbj.mono (show wo.heap.size + 1 ≤ _ by simp)))
        clear hbj
        obtain ⟨tp, htp⟩ : ∃ t, t = bs (packL p) := ⟨_, rfl⟩
        have hstp : tp.size ≤ 404 := by rw [htp, bs_size]; exact packL_len hpo
        rw [← htp]
        have HTP := hide htp
        clear htp
        go_wp2_with fail
        go_roundw
        case rel =>
          refine ⟨k + 1, by omega, by go_num, ?_, unhide HBj⟩
          apply str_eq
          rw [bs_data, unhide HFT]
          simp [unhide HSE, unhide HTP, bs_data]
        case measure => simp [intOf]; omega
      · have hlen := packs_len (unhide HRO).each k hk
        rw [List.take_of_length_le (by omega)] at hlen ⊢
        have HRL := hide (show repoL packs room = roomL room ++ packs.flatMap packL by simp [repoL, roomL])
        obtain ⟨s, hse⟩ : ∃ s, s = bs (roomL room ++ packs.flatMap packL) := ⟨_, rfl⟩
        have hsz : s.size = (repoL packs room).length := by rw [hse, bs_size, unhide HRL]
        have hss : s.size ≤ 4000 := by rw [hse, bs_size, List.length_append]; omega
        rw [← hse]
        have HSE := hide hse
        by_cases hbig : (3000 : Int) < (s.size : Int)
        · have HE := hide (show writeL packs room = [] by rw [unhide HWL, if_pos (by omega)])
          clear hsz hse
          go_wp2_with fail
          go_ret
          refine ⟨?_, (unhide E0 _).trans (hw.mono (by omega))⟩
          rw [unhide HE]
          rfl
        · have HE := hide (show writeL packs room = roomL room ++ packs.flatMap packL by rw [unhide HWL, if_neg (by omega), unhide HRL])
          clear hsz hse
          go_wp2_with fail
          go_ret
          refine ⟨?_, (unhide E0 _).trans (hw.mono (by omega))⟩
          rw [unhide HE, ← unhide HSE]
          rfl
end Go.Proofs.YtlabpejmmkeacauDoor
