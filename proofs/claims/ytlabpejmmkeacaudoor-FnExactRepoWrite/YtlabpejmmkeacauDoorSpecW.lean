/- The specification's own RepoWrite. -/
import Derived.Test.YtlabpejmmkeacauDoorTextA
import Derived.Test.YtlabpejmmkeacauDoorSpecC
namespace Go.Proofs.YtlabpejmmkeacauDoor
set_option linter.unusedVariables false
set_option linter.unusedSimpArgs false
open Go.RowKit Go.Sort

theorem flat_take {α : Type} {l : List α} {d : α} {f : α → List UInt8} {k : Nat} (h : k < l.length) : (l.take (k + 1)).flatMap f = (l.take k).flatMap f ++ f (l.getD k d) := by
  rw [List.take_succ_eq_append_getElem h, List.flatMap_append]
  simp [List.getD, h]

structure PackOk (p : PackD) : Prop where
  name : p.name.size ≤ 6
  ver0 : 0 ≤ p.ver
  ver1 : p.ver ≤ 999
  size0 : 0 ≤ p.size
  size1 : p.size ≤ 999
  deps : p.deps.length ≤ 4
  rows : ∀ i, i < p.deps.length → reqsB (p.deps.getD i []) = true
  pres : reqsB p.pres = true
  bans : reqsB p.bans = true
theorem packOk_of {p : PackD} (h : packB p = true) : PackOk p := by
  simp only [packB, nameB, inB, Bool.and_eq_true, decide_eq_true_eq, List.all_eq_true, rowB] at h
  obtain ⟨⟨⟨⟨⟨⟨⟨⟨h0, h1⟩, _⟩, h2, h3⟩, h4, h5⟩, h6⟩, h7⟩, h8⟩, h9⟩ := h
  exact ⟨by omega, by omega, by omega, by omega, by omega, h6, fun i hi => (h7 _ (getD_mem hi)).2, h8, h9⟩
theorem reqsL_all {l : List ReqD} (h : reqsB l = true) : (reqsL l).length ≤ 60 := by
  obtain ⟨h1, h2⟩ := reqsOk_of h
  have := reqsL_len h2 l.length (Nat.le_refl _)
  rw [List.take_of_length_le (Nat.le_refl _)] at this
  omega
theorem rowL_len {l : List ReqD} (h : reqsB l = true) : (rowL l).length ≤ 64 := by
  have := reqsL_all h
  simp only [rowL, List.length_append, List.length_cons, List.length_nil]
  omega
theorem moreL_len {w : List UInt8} {l : List ReqD} (hw : w.length = 3) (h : reqsB l = true) : (moreL w l).length ≤ 64 := by
  have := reqsL_all h
  unfold moreL
  split
  · simp only [List.length_append, List.length_cons, List.length_nil, hw]; omega
  · simp
theorem rows_len {l : List (List ReqD)} (h : ∀ i, i < l.length → reqsB (l.getD i []) = true) : ∀ k, k ≤ l.length → ((l.take k).flatMap rowL).length ≤ 64 * k := by
  intro k
  induction k with
  | zero => intro _; simp
  | succ k ih =>
    intro hk
    have a := ih (by omega)
    have b := rowL_len (h k (by omega))
    rw [flat_take (d := []) (by omega), List.length_append]
    omega
theorem headL_len {p : PackD} (h : PackOk p) : (headL p).length ≤ 20 := by
  have a := dL_len p.ver h.ver0 h.ver1
  have b := dL_len p.size h.size0 h.size1
  have c := h.name
  rw [size_data] at c
  simp only [headL, List.length_cons, List.length_append, List.length_nil]
  omega
theorem packL_len {p : PackD} (h : PackOk p) : (packL p).length ≤ 404 := by
  have a := headL_len h
  have b := rows_len h.rows p.deps.length (Nat.le_refl _)
  rw [List.take_of_length_le (Nat.le_refl _)] at b
  have c := moreL_len (w := [112, 114, 101]) rfl h.pres
  have d := moreL_len (w := [98, 97, 110]) rfl h.bans
  have e := h.deps
  simp only [packL, List.length_append]
  omega
def roomL (room : Int) : List UInt8 := [114, 111, 111, 109, 32] ++ (dL room ++ [10])
theorem roomL_len {room : Int} (h0 : 0 ≤ room) (h1 : room ≤ 999) : (roomL room).length ≤ 9 := by
  have := dL_len room h0 h1
  simp only [roomL, List.length_append, List.length_cons, List.length_nil]
  omega
theorem packs_len {l : List PackD} (h : ∀ i, i < l.length → PackOk (l.getD i dPack)) : ∀ k, k ≤ l.length → ((l.take k).flatMap packL).length ≤ 404 * k := by
  intro k
  induction k with
  | zero => intro _; simp
  | succ k ih =>
    intro hk
    have a := ih (by omega)
    have b := packL_len (h k (by omega))
    rw [flat_take (d := dPack) (by omega), List.length_append]
    omega
structure RepoOkD (packs : List PackD) (room : Int) : Prop where
  len : packs.length ≤ 8
  room0 : 0 ≤ room
  room1 : room ≤ 999
  each : ∀ i, i < packs.length → PackOk (packs.getD i dPack)
theorem repoOk_of {packs : List PackD} {room : Int} (h : repoB ⟨packs, room⟩ = true) : RepoOkD packs room := by
  simp only [repoB, inB, Bool.and_eq_true, decide_eq_true_eq, List.all_eq_true] at h
  obtain ⟨⟨⟨h0, h1, h2⟩, h3⟩, _⟩ := h
  exact ⟨h0, h1, h2, fun i hi => packOk_of (h3 _ (getD_mem hi))⟩
theorem str_eq {a b : ByteArray} (h : a.data.toList = b.data.toList) : Value.string a = .string b := by
  exact congrArg Value.string ((bs_eq h).trans (bs_eq rfl).symm)

theorem after_box {w wo wi : World} {A O : Obj} {B : Nat} (h : Below B (w.alloc A) wo) (k : Below (wo.heap.size + 1) (wo.alloc O) wi) (hB : B ≤ wo.heap.size := by omega) : Below B (w.alloc A) wi :=
  (h.alloc hB _).trans (k.mono (by omega))

set_option maxHeartbeats 8000000 in
set_option maxRecDepth 100000 in
theorem specRepoWrite_any (a : Option Addr) (packs : List PackD) (cap : Nat) (room : Int) (w : World) (h : PacksAt (Old w) w a packs) :
    Calls Tryd.prog 5 #[.agg #[.slice a packs.length cap, .int .i64 room]] w fun e w' => e = .returned (.string (bs (writeL packs room))) ∧ Below w.heap.size w w' := by
  have HV := hide h
  clear h
  have e0 : ∀ A, Below w.heap.size w (w.alloc A) := fun A => (Below.refl _ _).alloc (Nat.le_refl _) _
  go_enter Tryd.func5, Tryd.ntmps5
  go_wp2_with fail
  refine (specRepoOk_any a packs cap room _ ((unhide HV).on (e0 _))).mono ?_
  rintro e w1 ⟨rfl, hb⟩
  have HB1 := hide (hb.mono (show w.heap.size + 1 ≤ _ by simp))
  clear hb
  have E0 := hide e0
  clear e0
  cases hok : repoB ⟨packs, room⟩ with
  | false =>
    have e : writeL packs room = [] := by simp [writeL, hok]
    go_wp2_with fail
    go_ret
    refine ⟨?_, (unhide E0 _).trans ((unhide HB1).mono (by omega))⟩
    rw [e]
    rfl
  | true =>
    have hro := repoOk_of hok
    have HRO := hide hro
    have h8 := hro.len
    have HWL := hide (show writeL packs room = if 3000 < (repoL packs room).length then [] else repoL packs room by rw [writeL, if_pos hok])
    have r1 := (unhide HB1).cell (p := ⟨w.heap.size, 1, none⟩) (by simp)
    have hz := (unhide HB1).size
    simp at r1 hz
    go_wp2_with fail
    refine (l6Dec_at room _ hro.room0 hro.room1).mono ?_
    rintro e w2 ⟨rfl, hb⟩
    have HB2 := hide ((unhide HB1).trans (hb.mono (by omega)))
    have hrl := roomL_len hro.room0 hro.room1
    clear hb HB1 r1 hz hro
    obtain ⟨dr, hdr⟩ : ∃ d, d = bs (dL room) := ⟨_, rfl⟩
    have hsr : dr.size ≤ 3 := by rw [hdr, bs_size]; exact dL_len _ (unhide HRO).room0 (unhide HRO).room1
    rw [← hdr]
    have HDR := hide hdr
    clear hdr
    go_wp2_with fail
    go_loopw [3, 4] (fun s i wr => ∃ k : Nat, k ≤ packs.length ∧ i = .int .i64 k ∧ s = .string (bs (roomL room ++ (packs.take k).flatMap packL)) ∧ Below (w.heap.size + 1) (w.alloc (.cells #[.slice a packs.length cap, .int .i64 room] 29)) wr) (fun _ i _ => packs.length - (intOf i).toNat)
    case atStart =>
      refine ⟨0, Nat.zero_le _, rfl, ?_, unhide HB2⟩
      apply str_eq
      simp [bs_data, unhide HDR, roomL]
    case round =>
      rename World => wo
      obtain ⟨k, hk, rfl, rfl, hw⟩ := hrel
      have r0 := hw.cell (p := ⟨w.heap.size, 0, none⟩) (by simp)
      have hz := hw.size
      simp at r0 hz
      by_cases hlt : k < packs.length
      · have hpl := packs_len (unhide HRO).each k hk
        have hpo := (unhide HRO).each k hlt
        have HFT := hide (@flat_take PackD packs dPack packL k hlt)
        have hVw := (unhide HV).on ((unhide E0 _).trans (hw.mono (by omega)))
        obtain ⟨_, hVw⟩ := hVw
        rcases hVw with hVw | ⟨b, o, rfl, hSb, hVw⟩
        · rw [hVw] at hlt; simp at hlt
        have hq := hVw k hlt
        clear hVw
        obtain ⟨p, hpe⟩ : ∃ p, p = packs.getD k dPack := ⟨_, rfl⟩
        rw [← hpe] at hq hpo HFT
        obtain ⟨a1, c1, a2, c2, a3, c3, ⟨p0, p1, p2, p3, p4, p5⟩, hv⟩ := hq
        clear hpe
        have HVo := hide hv
        clear hv
        obtain ⟨s, hse⟩ : ∃ s, s = bs (roomL room ++ (packs.take k).flatMap packL) := ⟨_, rfl⟩
        have hss : s.size ≤ 4000 := by rw [hse, bs_size, List.length_append]; omega
        rw [← hse]
        obtain ⟨da, hda⟩ : ∃ d, d = bs (dL p.ver) := ⟨_, rfl⟩
        have hsa : da.size ≤ 3 := by rw [hda, bs_size]; exact dL_len _ hpo.ver0 hpo.ver1
        obtain ⟨db, hdb⟩ : ∃ d, d = bs (dL p.size) := ⟨_, rfl⟩
        have hsb : db.size ≤ 3 := by rw [hdb, bs_size]; exact dL_len _ hpo.size0 hpo.size1
        have hsn := hpo.name
        have n1 : ¬ 9223372036854775807 < s.size + 5 := by omega
        have n2 : ¬ 9223372036854775807 < s.size + 5 + p.name.size := by omega
        have n3 : ¬ 9223372036854775807 < s.size + 5 + p.name.size + 1 := by omega
        have n4 : ¬ 9223372036854775807 < s.size + 5 + p.name.size + 1 + da.size := by omega
        have n5 : ¬ 9223372036854775807 < s.size + 5 + p.name.size + 1 + da.size + 1 := by omega
        have n6 : ¬ 9223372036854775807 < s.size + 5 + p.name.size + 1 + da.size + 1 + db.size := by omega
        have n7 : ¬ 9223372036854775807 < s.size + 5 + p.name.size + 1 + da.size + 1 + db.size + 1 := by omega
        have HD := hide (And.intro hse (And.intro hda hdb))
        have HA := hide (fun W => (by rw [hda]; exact l6Dec_at p.ver W hpo.ver0 hpo.ver1 : Calls Tryd.prog 11 #[.int .i64 p.ver] W fun e w' => e = .returned (.string da) ∧ Below W.heap.size W w'))
        have HBd := hide (fun W => (by rw [hdb]; exact l6Dec_at p.size W hpo.size0 hpo.size1 : Calls Tryd.prog 11 #[.int .i64 p.size] W fun e w' => e = .returned (.string db) ∧ Below W.heap.size W w'))
        clear hse hda hdb
        go_wp2_with fail
        obtain ⟨wx, hwx⟩ : ∃ wx, wx = wo.alloc (.cells #[.string p.name, .int .i64 p.ver, .int .i64 p.size, .slice a1 p.deps.length c1, .slice a2 p.pres.length c2, .slice a3 p.bans.length c3] 39) := ⟨_, rfl⟩
        rw [← hwx]
        have x0 : wx.cell? ⟨wo.heap.size, 0, none⟩ = some (.string p.name) := by rw [hwx]; simp
        have x1 : wx.cell? ⟨wo.heap.size, 1, none⟩ = some (.int .i64 p.ver) := by rw [hwx]; simp
        have x2 : wx.cell? ⟨wo.heap.size, 2, none⟩ = some (.int .i64 p.size) := by rw [hwx]; simp
        have HWX := hide hwx
        clear hwx
        have cA := hide (fun d os => Calls.regrown_of (unhide HA (grow (redrawn wx d) os)))
        have cB := hide (fun d os => Calls.regrown_of (unhide HBd (grow (redrawn wx d) os)))
        have y0 := cell_regrown x0
        have y1 := cell_regrown x1
        have y2 := cell_regrown x2
        refine wp_region_quiet_below (by kernel_rfl) (by kernel_rfl) ?_
        repeat (quiet_step (first | (go_at_call_of 11 p.ver; exact unhide cA _ _) | (go_at_call_of 11 p.size; exact unhide cB _ _)))
        refine wpQuiet_nil ?_
        intro _ hw'
        obtain ⟨⟨dq, osq⟩, hw''⟩ := hw'
        subst hw''
        have hbq := below_regrown wx dq osq
        rw [unhide HWX] at hbq
        have HBX := hide (hbq.mono (show wo.heap.size + 1 ≤ _ by simp))
        clear hbq y0 y1 y2 x0 x1 x2 n1 n2 n3 n4 n5 n6 n7 cA cB HA HBd
        go_wp2_with fail
        go_loopw [3, 6] (fun t i wi => ∃ j : Nat, j ≤ p.deps.length ∧ i = .int .i64 j ∧ t = .string (bs (roomL room ++ (packs.take k).flatMap packL ++ headL p ++ (p.deps.take j).flatMap rowL)) ∧ Below (wo.heap.size + 1) (wo.alloc (.cells #[.string p.name, .int .i64 p.ver, .int .i64 p.size, .slice a1 p.deps.length c1, .slice a2 p.pres.length c2, .slice a3 p.bans.length c3] 39)) wi) (fun _ i _ => p.deps.length - (intOf i).toNat)
        case atStart =>
          refine ⟨0, Nat.zero_le _, rfl, ?_, by rw [← unhide HWX]; rw [← unhide HWX] at HBX; exact unhide HBX⟩
          obtain ⟨h1, h2, h3⟩ := unhide HD
          apply str_eq
          simp [bs_data, h1, h2, h3, headL]
        case round =>
          rename World => wi
          obtain ⟨j, hj, rfl, rfl, hwi⟩ := hrel
          have x3 := hwi.cell (p := ⟨wo.heap.size, 3, none⟩) (by simp)
          have x4 := hwi.cell (p := ⟨wo.heap.size, 4, none⟩) (by simp)
          have x5 := hwi.cell (p := ⟨wo.heap.size, 5, none⟩) (by simp)
          have hzi := hwi.size
          simp at x3 x4 x5 hzi
          have hVi := (unhide HVo).on (((Below.refl wo.heap.size wo).alloc (Nat.le_refl _) _).trans (hwi.mono (by omega)))
          have HVi := hide hVi
          have HBI := hide hwi
          have hrl' := rows_len hpo.rows j hj
          have hhl := headL_len hpo
          obtain ⟨s3, hs3⟩ : ∃ s, s = bs (roomL room ++ (packs.take k).flatMap packL ++ headL p ++ (p.deps.take j).flatMap rowL) := ⟨_, rfl⟩
          have hd4 := hpo.deps
          have hss3 : s3.size ≤ 5000 := by rw [hs3, bs_size]; simp only [List.length_append]; omega
          rw [← hs3]
          have HS3 := hide hs3
          clear hs3 hVi hwi
          by_cases hjt : j < p.deps.length
          · obtain ⟨_, hd | ⟨b1, o1, rfl, hS1, hrows⟩⟩ := (unhide HVi).deps
            · rw [hd] at hjt; simp at hjt
            obtain ⟨ar, cr, hc, hrow⟩ := hrows j hjt
            have hrok := hpo.rows j hjt
            have HFR := hide (@flat_take (List ReqD) p.deps [] rowL j hjt)
            generalize p.deps.getD j [] = row at hc hrow hrok HFR
            have HSAY := hide (l1Say_any ar row cr _ hrow hrok)
            clear hrows hrow
            go_wp2_with fail
            refine (unhide HSAY).mono ?_
            rintro e wj ⟨rfl, hbj⟩
            have HBj := hide ((unhide HBI).trans (hbj.mono (by omega)))
            clear hbj
            obtain ⟨tr, htr⟩ : ∃ t, t = bs (reqsL row) := ⟨_, rfl⟩
            have hstr : tr.size ≤ 60 := by rw [htr, bs_size]; exact reqsL_all hrok
            rw [← htr]
            have HTR := hide htr
            clear htr
            go_wp2_with fail
            go_roundw
            case rel =>
              refine ⟨j + 1, by omega, by go_num, ?_, unhide HBj⟩
              apply str_eq
              rw [bs_data, unhide HFR]
              simp [unhide HS3, unhide HTR, bs_data, rowL]
            case measure => simp [intOf]; omega
          · by_cases hp : 0 < p.pres.length
            · by_cases hbn : 0 < p.bans.length
              · have hp' : (0 : Int) < (p.pres.length : Int) := by omega
                have hbn' : (0 : Int) < (p.bans.length : Int) := by omega
                go_wp2_with fail
                refine (l1Say_any a2 p.pres c2 _ ((unhide HVi).pres) hpo.pres).mono ?_
                rintro e wj ⟨rfl, hbj⟩
                have z5 := (hbj.cell (p := ⟨wo.heap.size, 5, none⟩) (block_lt_of_cell x5)).trans x5
                have HVj := hide ((unhide HVi).on hbj)
                have HBj := hide ((unhide HBI).trans (hbj.mono (by have := (unhide HBI).size; simp at this; omega)))
                clear hbj
                obtain ⟨tp, htp⟩ : ∃ t, t = bs (reqsL p.pres) := ⟨_, rfl⟩
                have hstp : tp.size ≤ 60 := by rw [htp, bs_size]; exact reqsL_all hpo.pres
                rw [← htp]
                have HTP := hide htp
                clear htp
                go_wp2_with fail
                refine (l1Say_any a3 p.bans c3 _ ((unhide HVj).bans) hpo.bans).mono ?_
                rintro e wk ⟨rfl, hbk⟩
                have HBk := hide ((unhide HBj).trans (hbk.mono (by have := (unhide HBj).size; simp at this; omega)))
                clear hbk
                obtain ⟨tb, htb⟩ : ∃ t, t = bs (reqsL p.bans) := ⟨_, rfl⟩
                have hstb : tb.size ≤ 60 := by rw [htb, bs_size]; exact reqsL_all hpo.bans
                rw [← htb]
                have HTB := hide htb
                clear htb
                go_wp2_with fail
                go_roundw
                case rel =>
                  refine ⟨k + 1, by omega, by go_num, ?_, after_box hw (unhide HBk)⟩
                  apply str_eq
                  rw [bs_data, unhide HFT]
                  simp [unhide HS3, unhide HTP, unhide HTB, bs_data, packL, moreL, hp, hbn, List.take_of_length_le (show p.deps.length ≤ j by omega)]
                case measure => simp [intOf]; omega
              · have hp' : (0 : Int) < (p.pres.length : Int) := by omega
                have hbn' : ¬ (0 : Int) < (p.bans.length : Int) := by omega
                go_wp2_with fail
                refine (l1Say_any a2 p.pres c2 _ ((unhide HVi).pres) hpo.pres).mono ?_
                rintro e wj ⟨rfl, hbj⟩
                have z5 := (hbj.cell (p := ⟨wo.heap.size, 5, none⟩) (block_lt_of_cell x5)).trans x5
                have HVj := hide ((unhide HVi).on hbj)
                have HBj := hide ((unhide HBI).trans (hbj.mono (by have := (unhide HBI).size; simp at this; omega)))
                clear hbj
                obtain ⟨tp, htp⟩ : ∃ t, t = bs (reqsL p.pres) := ⟨_, rfl⟩
                have hstp : tp.size ≤ 60 := by rw [htp, bs_size]; exact reqsL_all hpo.pres
                rw [← htp]
                have HTP := hide htp
                clear htp
                go_wp2_with fail
                go_roundw
                case rel =>
                  refine ⟨k + 1, by omega, by go_num, ?_, after_box hw (unhide HBj)⟩
                  apply str_eq
                  rw [bs_data, unhide HFT]
                  simp [unhide HS3, unhide HTP, bs_data, packL, moreL, hp, hbn, List.take_of_length_le (show p.deps.length ≤ j by omega)]
                case measure => simp [intOf]; omega
            · by_cases hbn : 0 < p.bans.length
              · have hp' : ¬ (0 : Int) < (p.pres.length : Int) := by omega
                have hbn' : (0 : Int) < (p.bans.length : Int) := by omega
                go_wp2_with fail
                refine (l1Say_any a3 p.bans c3 _ ((unhide HVi).bans) hpo.bans).mono ?_
                rintro e wk ⟨rfl, hbk⟩
                have HBk := hide ((unhide HBI).trans (hbk.mono (by have := (unhide HBI).size; simp at this; omega)))
                clear hbk
                obtain ⟨tb, htb⟩ : ∃ t, t = bs (reqsL p.bans) := ⟨_, rfl⟩
                have hstb : tb.size ≤ 60 := by rw [htb, bs_size]; exact reqsL_all hpo.bans
                rw [← htb]
                have HTB := hide htb
                clear htb
                go_wp2_with fail
                go_roundw
                case rel =>
                  refine ⟨k + 1, by omega, by go_num, ?_, after_box hw (unhide HBk)⟩
                  apply str_eq
                  rw [bs_data, unhide HFT]
                  simp [unhide HS3, unhide HTB, bs_data, packL, moreL, hp, hbn, List.take_of_length_le (show p.deps.length ≤ j by omega)]
                case measure => simp [intOf]; omega
              · have hp' : ¬ (0 : Int) < (p.pres.length : Int) := by omega
                have hbn' : ¬ (0 : Int) < (p.bans.length : Int) := by omega
                go_wp2_with fail
                go_roundw
                case rel =>
                  refine ⟨k + 1, by omega, by go_num, ?_, after_box hw (unhide HBI)⟩
                  apply str_eq
                  rw [bs_data, unhide HFT]
                  simp [unhide HS3, bs_data, packL, moreL, hp, hbn, List.take_of_length_le (show p.deps.length ≤ j by omega)]
                case measure => simp [intOf]; omega
      · have hlen := packs_len (unhide HRO).each k hk
        rw [List.take_of_length_le (by omega)] at hlen ⊢
        have HRL := hide (show repoL packs room = roomL room ++ packs.flatMap packL by simp [repoL, roomL])
        obtain ⟨s, hse⟩ : ∃ s, s = bs (roomL room ++ packs.flatMap packL) := ⟨_, rfl⟩
        have hsz : s.size = (repoL packs room).length := by rw [hse, bs_size, unhide HRL]
        have hss : s.size ≤ 4000 := by rw [hse, bs_size, List.length_append]; omega
        rw [← hse]
        have HSE := hide hse
        by_cases hbig : (3000 : Int) < (s.size : Int)
        · have HE := hide (show writeL packs room = [] by rw [unhide HWL, if_pos (by omega)])
          clear hsz hse
          go_wp2_with fail
          go_ret
          refine ⟨?_, (unhide E0 _).trans (hw.mono (by omega))⟩
          rw [unhide HE]
          rfl
        · have HE := hide (show writeL packs room = roomL room ++ packs.flatMap packL by rw [unhide HWL, if_neg (by omega), unhide HRL])
          clear hsz hse
          go_wp2_with fail
          go_ret
          refine ⟨?_, (unhide E0 _).trans (hw.mono (by omega))⟩
          rw [unhide HE, ← unhide HSE]
          rfl
end Go.Proofs.YtlabpejmmkeacauDoor
