/- Whether clauses are a refutation: the program's mayRefute, SatProof. -/
import Derived.Test.YthkhaemlcmkkjarGFu
import Derived.Test.YthkhaemlcmkkjarGFo
import Derived.Test.YthkhaemlcmkkjarGUp
namespace Go.Proofs.Ythkhaemlcmkkjar
set_option linter.unusedVariables false
set_option linter.unusedSimpArgs false
open Go.RowKit Go.Deep

/-- Whether clauses have the form of a refutation. -/
def mayB (vars : Int) (proof : List (List Int)) : Bool := decide (1 ≤ proof.length ∧ proof.length ≤ 6001) && (decide (proof.getD (proof.length - 1) [] = []) && proof.all (litsB vars))
theorem run_slice_head (W : World) (a : Option Addr) (n c m : Nat) (hm : m ≤ c) (h63 : (m : Int) < 9223372036854775808) :
    Sem.run Try.prog (Instr.slice 39 (.slice a n c) none (some (.int .i64 (m : Int))) none) W = .ok (.slice a m c) W := by
  have h1 : (0 : Int) ≤ (m : Int) ∧ (m : Int) ≤ (c : Int) := by omega
  have hs : (sizeOf 26).run Try.prog W = .ok 1 W := by
    have := Try.infoIs
    unfold sizeOf typeInfo
    cases hq : Try.prog.info? 26 with
    | none => rw [hq] at this; simp at this
    | some i => rw [hq] at this; simp at this; simp [Sem.run_bind, hq, this.2.1]
  unfold Instr.slice Instr.sliceBounds Instr.sliceBound
  simp [Sem.run_bind, run_underlying Try.underlying39 W, asIntOf, hs]
  rw [if_pos hm]
  by_cases hc : c = 0
  · rw [if_pos hc]
  · rw [if_neg hc]
    cases a with
    | none => rfl
    | some ad => simp [Addr.add]
set_option maxRecDepth 100000 in
set_option maxHeartbeats 4000000 in
theorem mayRefute_any (vars : Int) (hv0 : 0 ≤ vars) (hv1 : vars ≤ 400) (cv : Value) (a : Option Addr) (l : List (List Int)) (cap : Nat) (w : World) (h : ClsAt w a l) :
    Calls Try.prog 48 #[.agg #[.int .i64 vars, cv], .slice a l.length cap] w fun e w' => e = .returned (.bool (mayB vars l)) ∧ Below w.heap.size w w' := by
  have hm := h.1
  have HAL := hide (fun W (hW : Below w.heap.size w W) => allCls_any vars hv0 hv1 cv a l cap W (h.on hW))
  have b1 := (Below.refl w.heap.size w).alloc (Nat.le_refl _) (.cells #[.int .i64 vars, cv] 41)
  by_cases hb : 1 ≤ l.length ∧ l.length ≤ 6001
  · obtain ⟨n, hn⟩ : ∃ n, n = l.length - 1 := ⟨_, rfl⟩
    have hwr : IntKind.i64.wrap ((l.length : Int) - 1) = (n : Int) := by rw [IntKind.wrap_i64]; omega
    have hin : inB (n : Int) 0 6000 = true := by unfold inB; simp; omega
    have j1 : (n : Int) < (l.length : Int) := by omega
    have j0 : (0 : Int) ≤ (n : Int) := by omega
    obtain ⟨b, o, rfl, hSb, hA⟩ : ∃ b o, a = some ⟨b, o, none⟩ ∧ b < w.heap.size ∧ ∀ i, i < l.length → ∃ a' c, w.cell? ⟨b, o + i, none⟩ = some (.slice a' (l.getD i []).length c) ∧ SetAt w a' (l.getD i []) := by
      rcases h.2 with h | h
      · subst h; simp at hb
      · exact h
    obtain ⟨a', c', c0, hq⟩ := hA n (by omega)
    rw [← b1.cell (p := ⟨b, _, none⟩) hSb] at c0
    have HB1 := hide b1
    have HE := hide (show mayB vars l = (decide ((l.getD n []).length = 0) && l.all (litsB vars)) by
      unfold mayB
      rw [decide_eq_true hb, ← hn, Bool.true_and]
      congr 1
      rw [decide_eq_decide, List.length_eq_zero_iff])
    generalize (l.getD n []).length = z at c0 HE
    clear hA hq hb b1 hn h
    go_enter Try.func48, Try.ntmps48
    go_wp2_with fail
    refine (within_any _ _ _ _).mono ?_
    rintro e w1 ⟨rfl, rfl⟩
    rw [hin]
    by_cases hz : z = 0
    · have hz1 : ((z : Int) == 0) = true := by rw [beq_iff_eq]; omega
      go_wp2_with fail
      refine (unhide HAL _ (unhide HB1)).mono ?_
      rintro e w2 ⟨rfl, b2⟩
      have HB2 := hide ((unhide HB1).trans (b2.mono (unhide HB1).size))
      clear b2
      go_wp2_with fail
      go_ret
      exact ⟨by rw [unhide HE, decide_eq_true hz, Bool.true_and]; rfl, unhide HB2⟩
    · have hz1 : ((z : Int) == 0) = false := by rw [beq_eq_false_iff_ne]; omega
      go_wp2_with fail
      go_ret
      exact ⟨by rw [unhide HE, decide_eq_false hz, Bool.false_and]; rfl, unhide HB1⟩
  · have hwr : IntKind.i64.wrap ((l.length : Int) - 1) = (l.length : Int) - 1 := by rw [IntKind.wrap_i64]; omega
    have hin : inB ((l.length : Int) - 1) 0 6000 = false := by unfold inB; simp; omega
    have HE := hide (show mayB vars l = false by unfold mayB; rw [decide_eq_false hb, Bool.false_and])
    have HB1 := hide b1
    clear hb b1 h
    go_enter Try.func48, Try.ntmps48
    go_wp2_with fail
    refine (within_any _ _ _ _).mono ?_
    rintro e w1 ⟨rfl, rfl⟩
    rw [hin]
    go_wp2_with fail
    go_ret
    exact ⟨by rw [unhide HE]; rfl, unhide HB1⟩
theorem refB_append (cs : List (List Int)) : ∀ (ps qs : List (List Int)), refB cs (ps ++ qs) = (refB cs ps && refB (cs ++ ps) qs) := fun ps => by
  induction ps generalizing cs with
  | nil => intro qs; simp [refB]
  | cons c ps ih =>
    intro qs
    rw [List.cons_append, refB, ih, refB, Bool.and_assoc, List.append_assoc]
    rfl
theorem refB_conf {cs : List (List Int)} (h : Conf cs []) : ∀ ps, refB cs ps = true := fun ps => by
  induction ps generalizing cs with
  | nil => rfl
  | cons c ps ih =>
    rw [refB, confB_true (h.mono (fun _ h => h) (fun x hx => by cases hx)), ih (h.mono (fun _ hc => List.mem_append_left _ hc) (fun _ h => h))]
    rfl
/-- The steps of SatProof. -/
def PrS (vars : Nat) (cs proof : List (List Int)) (w : World) (B F : Nat) (rl : Rl) (k : Nat) (can : Bool) (wr : World) : Prop :=
  refB cs (proof.take k) = true ∧ ∃ rl' S' V', FAt wr B F rl' none S' V' ∧ Kp B w rl wr rl' ∧
    ((can = true ∧ InvU vars (cs ++ proof.take k) [] [] S'.tr.length S' ∧ S'.ask = S'.tr.length ∧ WatK S'.cl S'.tr S'.tr) ∨ (can = false ∧ Conf (cs ++ proof.take k) []))
theorem proofZ_may {vars : Int} {cs proof : List (List Int)} : proofZ vars cs proof = (cnfB vars cs && (mayB vars proof && refB cs proof)) := by
  unfold proofZ mayB
  cases cnfB vars cs <;> cases decide (1 ≤ proof.length ∧ proof.length ≤ 6001) <;> cases decide (proof.getD (proof.length - 1) [] = []) <;> cases proof.all (litsB vars) <;> rfl

theorem cls_cell {w w' : World} {a : Option Addr} {cs : List (List Int)} (h : ClsAt w a cs) (hb : Below w.heap.size w w') {k : Nat} (hk : k < cs.length) : ∃ b o a' c', a = some ⟨b, o, none⟩ ∧ w'.cell? ⟨b, o + k, none⟩ = some (.slice a' (cs.getD k []).length c') ∧ SetAt w a' (cs.getD k []) := by
  rcases h.2 with h | ⟨b, o, ha, hSb, hA⟩
  · subst h; simp at hk
  · obtain ⟨a', c', c0, hq⟩ := hA k hk
    exact ⟨b, o, a', c', ha, (hb.cell (p := ⟨b, o + k, none⟩) hSb).trans c0, hq⟩
theorem refB_mid {cs ps : List (List Int)} {k : Nat} (hk : k < ps.length) (h : refB cs (ps.take k) = true) : refB cs (ps.take (k + 1)) = confB (cs ++ ps.take k) (noL (ps.getD k [])) := by
  rw [take_more ps hk, refB_append, h, Bool.true_and, refB, refB, Bool.and_true]
theorem refB_head {cs ps : List (List Int)} (k : Nat) (h : refB cs (ps.take k) = false) : refB cs ps = false := by
  rw [← List.take_append_drop k ps, refB_append, h, Bool.false_and]
theorem app_take {cs ps : List (List Int)} {k : Nat} (hk : k < ps.length) : cs ++ ps.take (k + 1) = cs ++ ps.take k ++ [ps.getD k []] := by
  rw [take_more ps hk, List.append_assoc]
set_option maxRecDepth 100000 in
set_option maxHeartbeats 8000000 in
theorem implSatProof_any (vars : Int) (a : Option Addr) (cs : List (List Int)) (cap : Nat) (pa : Option Addr) (ps : List (List Int)) (pc : Nat) (hpc : ps.length ≤ pc) (w : World) (h : ClsAt w a cs) (hp : ClsAt w pa ps) :
    Calls Try.prog 17 #[.agg #[.int .i64 vars, .slice a cs.length cap], .slice pa ps.length pc] w fun e w' => e = .returned (.bool (proofZ vars cs ps)) ∧ Below w.heap.size w w' := by
  have b1 := (Below.refl w.heap.size w).alloc (Nat.le_refl _) (.cells #[.int .i64 vars, .slice a cs.length cap] 41)
  have HC := hide (implCnfOk_any vars a cs cap _ (h.on b1))
  have HA := hide h
  have HP := hide hp
  have hpl := hp.1
  clear h hp
  go_enter Try.func17, Try.ntmps17
  go_upto_region 1 with fail
  obtain ⟨w1, hw1⟩ : ∃ w1, w1 = w.alloc (.cells #[.int .i64 vars, .slice a cs.length cap] 41) := ⟨_, rfl⟩
  have x0 : w1.cell? ⟨w.heap.size, 0, none⟩ = some (.int .i64 vars) := by rw [hw1]; simp
  have x1 : w1.cell? ⟨w.heap.size, 1, none⟩ = some (.slice a cs.length cap) := by rw [hw1]; simp
  have z1 : w.heap.size < w1.heap.size := by rw [hw1]; simp
  rw [← hw1] at b1 HC ⊢
  clear hw1
  have HPZ := hide (proofZ_may (vars := vars) (cs := cs) (proof := ps))
  cases hok : cnfB vars cs with
  | false =>
    rw [hok] at HC
    have HE := hide (show proofZ vars cs ps = false by rw [unhide HPZ, hok, Bool.false_and])
    have HB1 := hide b1
    clear b1
    go_wp2_with fail
    refine (unhide HC).mono ?_
    rintro e w2 ⟨rfl, b2⟩
    have HB2 := hide ((unhide HB1).trans (b2.mono (unhide HB1).size))
    clear b2 HC
    go_wp2_with fail
    go_ret
    exact ⟨by rw [unhide HE]; rfl, unhide HB2⟩
  | true =>
    rw [hok] at HC
    obtain ⟨hv0, hv1⟩ := cnf_vars hok
    have HAL := hide (fun W (hW : Below w.heap.size w W) => mayRefute_any vars hv0 hv1 (.slice a cs.length cap) pa ps pc W ((unhide HP).on hW))
    have HB1 := hide b1
    have HOK := hide hok
    clear b1 hok
    go_wp2_with fail
    refine (unhide HC).mono ?_
    rintro e w2 ⟨rfl, b2⟩
    have HB2 := hide ((unhide HB1).trans (b2.mono (unhide HB1).size))
    rw [← b2.cell (p := ⟨w.heap.size, _, none⟩) z1] at x0 x1
    have z2 := Nat.lt_of_lt_of_le z1 b2.size
    clear b2 HC HB1 z1
    go_wp2_with fail
    refine (unhide HAL _ (unhide HB2)).mono ?_
    rintro e w3 ⟨rfl, b3⟩
    have HB3 := hide ((unhide HB2).trans (b3.mono (unhide HB2).size))
    rw [← b3.cell (p := ⟨w.heap.size, _, none⟩) z2] at x0 x1
    have z3 := Nat.lt_of_lt_of_le z2 b3.size
    clear b3 HAL HB2 z2
    cases hlk : mayB vars ps with
    | false =>
      have HE := hide (show proofZ vars cs ps = false by rw [unhide HPZ, hlk, Bool.false_and, Bool.and_false])
      go_wp2_with fail
      go_ret
      exact ⟨by rw [unhide HE]; rfl, unhide HB3⟩
    | true =>
      have HLK := hide hlk
      have HUZ := hide (show proofZ vars cs ps = refB cs ps by rw [unhide HPZ, unhide HOK, hlk, Bool.true_and, Bool.true_and])
      obtain ⟨vn, hvn⟩ : ∃ vn : Nat, vars = (vn : Int) := ⟨vars.toNat, by omega⟩
      subst hvn
      have hvn4 : vn ≤ 400 := by omega
      have hcl : cs.length ≤ 6000 := by
        have := unhide HOK
        simp only [cnfB, Bool.and_eq_true, decide_eq_true_eq] at this
        exact this.2.1
      have hmay := hlk
      unfold mayB at hmay
      simp only [Bool.and_eq_true, decide_eq_true_eq] at hmay
      obtain ⟨⟨hl1, hl2⟩, hlast, hall⟩ := hmay
      obtain ⟨n, hn⟩ : ∃ n, n = ps.length - 1 := ⟨_, rfl⟩
      rw [← hn] at hlast
      have hwn : IntKind.i64.wrap ((ps.length : Int) - 1) = (n : Int) := by rw [IntKind.wrap_i64]; omega
      have hsl := fun W => run_slice_head W pa ps.length pc n (by omega) (by omega)
      have HSP := hide (show ps = ps.take n ++ [[]] by
        have h1 := List.take_append_drop n ps
        rw [List.drop_eq_getElem_cons (show n < ps.length by omega), List.drop_eq_nil_of_le (show ps.length ≤ n + 1 by omega)] at h1
        rw [show ps[n]'(by omega) = [] by rw [← hlast]; simp [List.getD, show n < ps.length by omega]] at h1
        exact h1.symm)
      have HALL := hide (fun c (hc : c ∈ ps) => (List.all_eq_true.1 hall) c hc)
      have hnl : n < ps.length := by omega
      have hn6 : n ≤ 6000 := by omega
      clear hlk hlast hall hn hl1 hl2
      go_upto_region 4 with fail
      obtain ⟨w4, hw4⟩ : ∃ w4, w4 = w3.alloc (.cells Try.zeroCells89 89) := ⟨_, rfl⟩
      have hF4 := facts_start w3 w.heap.size (by omega)
      have b4 : Below w3.heap.size w3 w4 := by rw [hw4]; exact (Below.refl _ _).alloc (Nat.le_refl _) _
      rw [← hw4] at hF4 ⊢
      clear hw4
      have HB4 := hide ((unhide HB3).trans (b4.mono (unhide HB3).size))
      rw [← b4.cell (p := ⟨w.heap.size, _, none⟩) z3] at x1
      obtain ⟨F, hF⟩ : ∃ F, F = w3.heap.size := ⟨_, rfl⟩
      rw [← hF] at hF4 ⊢
      have HF4 := hide hF4
      have HAA := hide (addAll_any vn hvn4 cs [] (unhide HOK) w w4 F (rl0 F) st0 fv0 hF4 (unhide HB4) .start (fun d hd => by cases hd) a cap (unhide HA))
      clear x0 b4 HB3 z3 hF hF4
      go_wp2_with fail
      refine (unhide HAA).mono ?_
      rintro e w5 ⟨rl5, S5, V5, hF5, hK5, hor⟩
      have key : ∃ b5, e = .returned (.bool b5) ∧ (b5 = false → Conf cs []) ∧ (b5 = true → InvU vn cs [] [] S5.tr.length S5 ∧ WatK S5.cl (S5.tr.take S5.ask) S5.tr) := by
        rcases hor with ⟨rfl, hcf⟩ | ⟨rfl, hI5, hW5⟩
        · exact ⟨false, rfl, fun _ => hcf, fun h => (by cases h)⟩
        · exact ⟨true, rfl, fun h => (by cases h), fun _ => ⟨hI5, hW5⟩⟩
      clear hor
      obtain ⟨b5, rfl, hcf5, hok5⟩ := key
      have HK5 := hide hK5
      have HF5 := hide hF5
      clear hF5 hK5
      cases b5 with
      | false =>
        have HST : Hid (PrS vn cs ps w4 w.heap.size F (rl0 F) 0 false w5) := ⟨by rw [List.take_zero]; rfl, rl5, S5, V5, unhide HF5, unhide HK5, .inr ⟨rfl, by rw [List.take_zero, List.append_nil]; exact hcf5 rfl⟩⟩
        clear hcf5 hok5 HAA
        go_wp2_with fail
        go_loopw [6, 30] (fun cv kv wr => ∃ (can : Bool) (k : Nat), k ≤ n ∧ cv = .bool can ∧ kv = .int .i64 k ∧ Hid (PrS vn cs ps w4 w.heap.size F (rl0 F) k can wr)) (fun _ k _ => n - (intOf k).toNat)
        case atStart => exact ⟨_, 0, Nat.zero_le _, rfl, rfl, HST⟩
        case round =>
          rename World => wo
          obtain ⟨can, k, hk, rfl, rfl, HS⟩ := hrel
          obtain ⟨hre, rl1, S1, Vq1, hF1, hK1, hst⟩ := unhide HS
          have hbo := (unhide HB4).trans hK1.below
          by_cases hlt : k < n
          · have j1 : (k : Int) < (n : Int) := by omega
            have j0 : (0 : Int) ≤ (k : Int) := by omega
            have hkl : k < ps.length := by omega
            obtain ⟨b, o, a', c', rfl, c0, hq⟩ := cls_cell (unhide HP) hbo hkl
            have hmid := refB_mid hkl hre
            have happ := app_take (cs := cs) hkl
            have hmem := getD_mem (d := ([] : List Int)) hkl
            generalize ps.getD k [] = c at c0 hq hmid happ hmem
            have hli := unhide HALL c hmem
            have hc4 : c.length ≤ 400 := by
              simp only [litsB, Bool.and_eq_true, decide_eq_true_eq] at hli
              exact hli.1
            have hnz : NzC (cs ++ ps.take k) := fun d hd => by
              rcases List.mem_append.1 hd with hd | hd
              · exact cnf_nz (unhide HOK) d hd
              · exact lits_nz (unhide HALL d (List.mem_of_mem_take hd))
            have hcl2 : (cs ++ ps.take k).length ≤ 12000 := by simp; omega
            rcases hst with ⟨rfl, hI1, hask1, hW1⟩ | ⟨rfl, hcf1⟩
            · have HFC := hide (forces_any vn hvn4 (cs ++ ps.take k) hnz (by omega) S1.tr.length w wo F rl1 S1 Vq1 hbo hF1 hI1 hask1 hW1 a' c c' hc4 (lits_in hli) hq)
              have HK1 := hide hK1
              have HMID := hide hmid
              have HAPP := hide happ
              have HNZ := hide hnz
              have HLI := hide hli
              have HQ := hide hq
              have hvac := hI1.few
              clear hF1 hK1 hI1 hask1 hW1 hre hq hmid happ hmem hli hnz hbo HS hvac
              go_wp2_with fail
              refine (unhide HFC).mono ?_
              rintro e w2 ⟨rl2, S2, Vq2, hF2, hK2, hI2, htr2, hask2, hW2, rfl⟩
              have hk2 := (unhide HK1).trans hK2
              rw [← unhide HMID]
              cases hfc : refB cs (ps.take (k + 1)) with
              | false =>
                have HR := hide (refB_head (k + 1) hfc)
                have HB := hide ((unhide HB4).trans hk2.below)
                clear hF2 hK2 hI2 htr2 hask2 hW2 hk2 hfc
                go_wp2_with fail
                go_ret
                exact ⟨by rw [unhide HUZ, unhide HR]; rfl, unhide HB⟩
              | true =>
                have HADD := hide (add_any vn hvn4 (cs ++ ps.take k) [] (unhide HNZ) (by omega) w2 w.heap.size F rl2 S2 Vq2 hF2 (by rw [htr2]; exact hI2) (by rw [hask2, htr2, List.take_length, ← htr2]; exact hW2) a' c c' hc4 (lits_in (unhide HLI)) ((unhide HQ).on ((unhide HB4).trans hk2.below)))
                have HK2 := hide hk2
                have HFC2 := hide hfc
                clear hF2 hK2 hI2 htr2 hask2 hW2 hk2 hfc HFC
                go_wp2_with fail
                refine (unhide HADD).mono ?_
                rintro e w6 ⟨rl6, S6, V6, hF6, hK6, hor6⟩
                have hk6 := (unhide HK2).trans hK6
                rw [← unhide HAPP] at hor6
                rcases hor6 with ⟨rfl, hcf6⟩ | ⟨rfl, hI6, hW6, _⟩
                · have HSN : Hid (PrS vn cs ps w4 w.heap.size F (rl0 F) (k + 1) false w6) := ⟨unhide HFC2, rl6, S6, V6, hF6, hk6, .inr ⟨rfl, hcf6⟩⟩
                  clear hF6 hK6 hk6 hcf6 HADD
                  go_wp2_with fail
                  go_roundw
                  case rel => exact ⟨false, k + 1, by omega, rfl, by go_num, HSN⟩
                  case measure => simp [intOf]; omega
                · have HFL := hide (follow_any vn hvn4 (cs ++ ps.take (k + 1)) [] (fun d hd => by
                    rw [unhide HAPP] at hd
                    rcases List.mem_append.1 hd with hd | hd
                    · exact unhide HNZ d hd
                    · rw [List.mem_singleton] at hd
                      rw [hd]
                      exact lits_nz (unhide HLI)) (by rw [unhide HAPP, List.length_append]; simp; simp at hcl2; omega) [] S6.tr.length w6 w.heap.size F rl6 S6 V6 hF6 hI6 hW6)
                  have HK6 := hide hk6
                  clear hF6 hK6 hI6 hW6 hk6 HADD
                  go_wp2_with fail
                  refine (unhide HFL).mono ?_
                  rintro e w7 ⟨rl7, S7, V7, hF7, hK7, hI7, htr7, hor7⟩
                  have hk7 := (unhide HK6).trans hK7
                  rcases hor7 with ⟨rfl, hask7, hW7⟩ | ⟨rfl, hcf7⟩
                  · have HSN : Hid (PrS vn cs ps w4 w.heap.size F (rl0 F) (k + 1) true w7) := ⟨unhide HFC2, rl7, S7, V7, hF7, hk7, .inl ⟨rfl, hI7.refix, hask7, hW7⟩⟩
                    clear hF7 hK7 hI7 htr7 hask7 hW7 hk7 HFL
                    go_wp2_with fail
                    go_roundw
                    case rel => exact ⟨true, k + 1, by omega, rfl, by go_num, HSN⟩
                    case measure => simp [intOf]; omega
                  · have HSN : Hid (PrS vn cs ps w4 w.heap.size F (rl0 F) (k + 1) false w7) := ⟨unhide HFC2, rl7, S7, V7, hF7, hk7, .inr ⟨rfl, hcf7⟩⟩
                    clear hF7 hK7 hI7 htr7 hcf7 hk7 HFL
                    go_wp2_with fail
                    go_roundw
                    case rel => exact ⟨false, k + 1, by omega, rfl, by go_num, HSN⟩
                    case measure => simp [intOf]; omega
            · have HR := hide (show refB cs ps = true by
                rw [← List.take_append_drop k ps, refB_append, hre, Bool.true_and]
                exact refB_conf hcf1 _)
              have HB := hide hbo
              clear hF1 hK1 hcf1 hre hq hmid happ hmem hli hnz hbo HS
              go_wp2_with fail
              go_ret
              exact ⟨by rw [unhide HUZ, unhide HR]; rfl, unhide HB⟩
          · have j1 : ¬ (k : Int) < (n : Int) := by omega
            have hkn : k = n := by omega
            subst hkn
            have HR := hide (show refB cs ps = !can by
              have h1 : refB cs ps = confB (cs ++ ps.take k) [] := by
                have h2 := unhide HSP
                have h3 : refB cs ps = refB cs (ps.take k ++ [[]]) := congrArg (refB cs) h2
                rw [h3, refB_append, hre, Bool.true_and, refB, refB, Bool.and_true]
                rfl
              rw [h1]
              rcases hst with ⟨rfl, hI1, hask1, hW1⟩ | ⟨rfl, hcf1⟩
              · have hnz : NzC (cs ++ ps.take k) := fun d hd => by
                  rcases List.mem_append.1 hd with hd | hd
                  · exact cnf_nz (unhide HOK) d hd
                  · exact lits_nz (unhide HALL d (List.mem_of_mem_take hd))
                exact confB_false ((hI1.fullK hW1 (fun x hx => by cases hx)).fine hnz (fun x hx => by cases hx))
              · exact confB_true hcf1)
            have HB := hide hbo
            clear hF1 hK1 hst hre hbo HS
            go_wp2_with fail
            go_ret
            exact ⟨by rw [unhide HUZ, unhide HR]; first | rfl | simp, unhide HB⟩
      | true =>
        obtain ⟨hI5, hW5⟩ := hok5 rfl
        have HFL := hide (follow_any vn hvn4 cs [] (cnf_nz (unhide HOK)) (by omega) [] S5.tr.length w5 w.heap.size F rl5 S5 V5 (unhide HF5) hI5 hW5)
        clear hcf5 hok5 HAA hI5 hW5
        go_wp2_with fail
        refine (unhide HFL).mono ?_
        rintro e w7 ⟨rl7, S7, V7, hF7, hK7, hI7, htr7, hor7⟩
        have hk7 := (unhide HK5).trans hK7
        rcases hor7 with ⟨rfl, hask7, hW7⟩ | ⟨rfl, hcf7⟩
        · have HST : Hid (PrS vn cs ps w4 w.heap.size F (rl0 F) 0 true w7) := ⟨by rw [List.take_zero]; rfl, rl7, S7, V7, hF7, hk7, .inl ⟨rfl, by rw [List.take_zero, List.append_nil]; exact hI7.refix, hask7, hW7⟩⟩
          clear hF7 hK7 hI7 htr7 hask7 hW7 hk7 HFL
          go_wp2_with fail
          go_loopw [6, 30] (fun cv kv wr => ∃ (can : Bool) (k : Nat), k ≤ n ∧ cv = .bool can ∧ kv = .int .i64 k ∧ Hid (PrS vn cs ps w4 w.heap.size F (rl0 F) k can wr)) (fun _ k _ => n - (intOf k).toNat)
          case atStart => exact ⟨_, 0, Nat.zero_le _, rfl, rfl, HST⟩
          case round =>
            rename World => wo
            obtain ⟨can, k, hk, rfl, rfl, HS⟩ := hrel
            obtain ⟨hre, rl1, S1, Vq1, hF1, hK1, hst⟩ := unhide HS
            have hbo := (unhide HB4).trans hK1.below
            by_cases hlt : k < n
            · have j1 : (k : Int) < (n : Int) := by omega
              have j0 : (0 : Int) ≤ (k : Int) := by omega
              have hkl : k < ps.length := by omega
              obtain ⟨b, o, a', c', rfl, c0, hq⟩ := cls_cell (unhide HP) hbo hkl
              have hmid := refB_mid hkl hre
              have happ := app_take (cs := cs) hkl
              have hmem := getD_mem (d := ([] : List Int)) hkl
              generalize ps.getD k [] = c at c0 hq hmid happ hmem
              have hli := unhide HALL c hmem
              have hc4 : c.length ≤ 400 := by
                simp only [litsB, Bool.and_eq_true, decide_eq_true_eq] at hli
                exact hli.1
              have hnz : NzC (cs ++ ps.take k) := fun d hd => by
                rcases List.mem_append.1 hd with hd | hd
                · exact cnf_nz (unhide HOK) d hd
                · exact lits_nz (unhide HALL d (List.mem_of_mem_take hd))
              have hcl2 : (cs ++ ps.take k).length ≤ 12000 := by simp; omega
              rcases hst with ⟨rfl, hI1, hask1, hW1⟩ | ⟨rfl, hcf1⟩
              · have HFC := hide (forces_any vn hvn4 (cs ++ ps.take k) hnz (by omega) S1.tr.length w wo F rl1 S1 Vq1 hbo hF1 hI1 hask1 hW1 a' c c' hc4 (lits_in hli) hq)
                have HK1 := hide hK1
                have HMID := hide hmid
                have HAPP := hide happ
                have HNZ := hide hnz
                have HLI := hide hli
                have HQ := hide hq
                have hvac := hI1.few
                clear hF1 hK1 hI1 hask1 hW1 hre hq hmid happ hmem hli hnz hbo HS hvac
                go_wp2_with fail
                refine (unhide HFC).mono ?_
                rintro e w2 ⟨rl2, S2, Vq2, hF2, hK2, hI2, htr2, hask2, hW2, rfl⟩
                have hk2 := (unhide HK1).trans hK2
                rw [← unhide HMID]
                cases hfc : refB cs (ps.take (k + 1)) with
                | false =>
                  have HR := hide (refB_head (k + 1) hfc)
                  have HB := hide ((unhide HB4).trans hk2.below)
                  clear hF2 hK2 hI2 htr2 hask2 hW2 hk2 hfc
                  go_wp2_with fail
                  go_ret
                  exact ⟨by rw [unhide HUZ, unhide HR]; rfl, unhide HB⟩
                | true =>
                  have HADD := hide (add_any vn hvn4 (cs ++ ps.take k) [] (unhide HNZ) (by omega) w2 w.heap.size F rl2 S2 Vq2 hF2 (by rw [htr2]; exact hI2) (by rw [hask2, htr2, List.take_length, ← htr2]; exact hW2) a' c c' hc4 (lits_in (unhide HLI)) ((unhide HQ).on ((unhide HB4).trans hk2.below)))
                  have HK2 := hide hk2
                  have HFC2 := hide hfc
                  clear hF2 hK2 hI2 htr2 hask2 hW2 hk2 hfc HFC
                  go_wp2_with fail
                  refine (unhide HADD).mono ?_
                  rintro e w6 ⟨rl6, S6, V6, hF6, hK6, hor6⟩
                  have hk6 := (unhide HK2).trans hK6
                  rw [← unhide HAPP] at hor6
                  rcases hor6 with ⟨rfl, hcf6⟩ | ⟨rfl, hI6, hW6, _⟩
                  · have HSN : Hid (PrS vn cs ps w4 w.heap.size F (rl0 F) (k + 1) false w6) := ⟨unhide HFC2, rl6, S6, V6, hF6, hk6, .inr ⟨rfl, hcf6⟩⟩
                    clear hF6 hK6 hk6 hcf6 HADD
                    go_wp2_with fail
                    go_roundw
                    case rel => exact ⟨false, k + 1, by omega, rfl, by go_num, HSN⟩
                    case measure => simp [intOf]; omega
                  · have HFL := hide (follow_any vn hvn4 (cs ++ ps.take (k + 1)) [] (fun d hd => by
                      rw [unhide HAPP] at hd
                      rcases List.mem_append.1 hd with hd | hd
                      · exact unhide HNZ d hd
                      · rw [List.mem_singleton] at hd
                        rw [hd]
                        exact lits_nz (unhide HLI)) (by rw [unhide HAPP, List.length_append]; simp; simp at hcl2; omega) [] S6.tr.length w6 w.heap.size F rl6 S6 V6 hF6 hI6 hW6)
                    have HK6 := hide hk6
                    clear hF6 hK6 hI6 hW6 hk6 HADD
                    go_wp2_with fail
                    refine (unhide HFL).mono ?_
                    rintro e w7 ⟨rl7, S7, V7, hF7, hK7, hI7, htr7, hor7⟩
                    have hk7 := (unhide HK6).trans hK7
                    rcases hor7 with ⟨rfl, hask7, hW7⟩ | ⟨rfl, hcf7⟩
                    · have HSN : Hid (PrS vn cs ps w4 w.heap.size F (rl0 F) (k + 1) true w7) := ⟨unhide HFC2, rl7, S7, V7, hF7, hk7, .inl ⟨rfl, hI7.refix, hask7, hW7⟩⟩
                      clear hF7 hK7 hI7 htr7 hask7 hW7 hk7 HFL
                      go_wp2_with fail
                      go_roundw
                      case rel => exact ⟨true, k + 1, by omega, rfl, by go_num, HSN⟩
                      case measure => simp [intOf]; omega
                    · have HSN : Hid (PrS vn cs ps w4 w.heap.size F (rl0 F) (k + 1) false w7) := ⟨unhide HFC2, rl7, S7, V7, hF7, hk7, .inr ⟨rfl, hcf7⟩⟩
                      clear hF7 hK7 hI7 htr7 hcf7 hk7 HFL
                      go_wp2_with fail
                      go_roundw
                      case rel => exact ⟨false, k + 1, by omega, rfl, by go_num, HSN⟩
                      case measure => simp [intOf]; omega
              · have HR := hide (show refB cs ps = true by
                  rw [← List.take_append_drop k ps, refB_append, hre, Bool.true_and]
                  exact refB_conf hcf1 _)
                have HB := hide hbo
                clear hF1 hK1 hcf1 hre hq hmid happ hmem hli hnz hbo HS
                go_wp2_with fail
                go_ret
                exact ⟨by rw [unhide HUZ, unhide HR]; rfl, unhide HB⟩
            · have j1 : ¬ (k : Int) < (n : Int) := by omega
              have hkn : k = n := by omega
              subst hkn
              have HR := hide (show refB cs ps = !can by
                have h1 : refB cs ps = confB (cs ++ ps.take k) [] := by
                  have h2 := unhide HSP
                  have h3 : refB cs ps = refB cs (ps.take k ++ [[]]) := congrArg (refB cs) h2
                  rw [h3, refB_append, hre, Bool.true_and, refB, refB, Bool.and_true]
                  rfl
                rw [h1]
                rcases hst with ⟨rfl, hI1, hask1, hW1⟩ | ⟨rfl, hcf1⟩
                · have hnz : NzC (cs ++ ps.take k) := fun d hd => by
                    rcases List.mem_append.1 hd with hd | hd
                    · exact cnf_nz (unhide HOK) d hd
                    · exact lits_nz (unhide HALL d (List.mem_of_mem_take hd))
                  exact confB_false ((hI1.fullK hW1 (fun x hx => by cases hx)).fine hnz (fun x hx => by cases hx))
                · exact confB_true hcf1)
              have HB := hide hbo
              clear hF1 hK1 hst hre hbo HS
              go_wp2_with fail
              go_ret
              exact ⟨by rw [unhide HUZ, unhide HR]; first | rfl | simp, unhide HB⟩
        · have HST : Hid (PrS vn cs ps w4 w.heap.size F (rl0 F) 0 false w7) := ⟨by rw [List.take_zero]; rfl, rl7, S7, V7, hF7, hk7, .inr ⟨rfl, by rw [List.take_zero, List.append_nil]; exact hcf7⟩⟩
          clear hF7 hK7 hI7 htr7 hcf7 hk7 HFL
          go_wp2_with fail
          go_loopw [6, 30] (fun cv kv wr => ∃ (can : Bool) (k : Nat), k ≤ n ∧ cv = .bool can ∧ kv = .int .i64 k ∧ Hid (PrS vn cs ps w4 w.heap.size F (rl0 F) k can wr)) (fun _ k _ => n - (intOf k).toNat)
          case atStart => exact ⟨_, 0, Nat.zero_le _, rfl, rfl, HST⟩
          case round =>
            rename World => wo
            obtain ⟨can, k, hk, rfl, rfl, HS⟩ := hrel
            obtain ⟨hre, rl1, S1, Vq1, hF1, hK1, hst⟩ := unhide HS
            have hbo := (unhide HB4).trans hK1.below
            by_cases hlt : k < n
            · have j1 : (k : Int) < (n : Int) := by omega
              have j0 : (0 : Int) ≤ (k : Int) := by omega
              have hkl : k < ps.length := by omega
              obtain ⟨b, o, a', c', rfl, c0, hq⟩ := cls_cell (unhide HP) hbo hkl
              have hmid := refB_mid hkl hre
              have happ := app_take (cs := cs) hkl
              have hmem := getD_mem (d := ([] : List Int)) hkl
              generalize ps.getD k [] = c at c0 hq hmid happ hmem
              have hli := unhide HALL c hmem
              have hc4 : c.length ≤ 400 := by
                simp only [litsB, Bool.and_eq_true, decide_eq_true_eq] at hli
                exact hli.1
              have hnz : NzC (cs ++ ps.take k) := fun d hd => by
                rcases List.mem_append.1 hd with hd | hd
                · exact cnf_nz (unhide HOK) d hd
                · exact lits_nz (unhide HALL d (List.mem_of_mem_take hd))
              have hcl2 : (cs ++ ps.take k).length ≤ 12000 := by simp; omega
              rcases hst with ⟨rfl, hI1, hask1, hW1⟩ | ⟨rfl, hcf1⟩
              · have HFC := hide (forces_any vn hvn4 (cs ++ ps.take k) hnz (by omega) S1.tr.length w wo F rl1 S1 Vq1 hbo hF1 hI1 hask1 hW1 a' c c' hc4 (lits_in hli) hq)
                have HK1 := hide hK1
                have HMID := hide hmid
                have HAPP := hide happ
                have HNZ := hide hnz
                have HLI := hide hli
                have HQ := hide hq
                have hvac := hI1.few
                clear hF1 hK1 hI1 hask1 hW1 hre hq hmid happ hmem hli hnz hbo HS hvac
                go_wp2_with fail
                refine (unhide HFC).mono ?_
                rintro e w2 ⟨rl2, S2, Vq2, hF2, hK2, hI2, htr2, hask2, hW2, rfl⟩
                have hk2 := (unhide HK1).trans hK2
                rw [← unhide HMID]
                cases hfc : refB cs (ps.take (k + 1)) with
                | false =>
                  have HR := hide (refB_head (k + 1) hfc)
                  have HB := hide ((unhide HB4).trans hk2.below)
                  clear hF2 hK2 hI2 htr2 hask2 hW2 hk2 hfc
                  go_wp2_with fail
                  go_ret
                  exact ⟨by rw [unhide HUZ, unhide HR]; rfl, unhide HB⟩
                | true =>
                  have HADD := hide (add_any vn hvn4 (cs ++ ps.take k) [] (unhide HNZ) (by omega) w2 w.heap.size F rl2 S2 Vq2 hF2 (by rw [htr2]; exact hI2) (by rw [hask2, htr2, List.take_length, ← htr2]; exact hW2) a' c c' hc4 (lits_in (unhide HLI)) ((unhide HQ).on ((unhide HB4).trans hk2.below)))
                  have HK2 := hide hk2
                  have HFC2 := hide hfc
                  clear hF2 hK2 hI2 htr2 hask2 hW2 hk2 hfc HFC
                  go_wp2_with fail
                  refine (unhide HADD).mono ?_
                  rintro e w6 ⟨rl6, S6, V6, hF6, hK6, hor6⟩
                  have hk6 := (unhide HK2).trans hK6
                  rw [← unhide HAPP] at hor6
                  rcases hor6 with ⟨rfl, hcf6⟩ | ⟨rfl, hI6, hW6, _⟩
                  · have HSN : Hid (PrS vn cs ps w4 w.heap.size F (rl0 F) (k + 1) false w6) := ⟨unhide HFC2, rl6, S6, V6, hF6, hk6, .inr ⟨rfl, hcf6⟩⟩
                    clear hF6 hK6 hk6 hcf6 HADD
                    go_wp2_with fail
                    go_roundw
                    case rel => exact ⟨false, k + 1, by omega, rfl, by go_num, HSN⟩
                    case measure => simp [intOf]; omega
                  · have HFL := hide (follow_any vn hvn4 (cs ++ ps.take (k + 1)) [] (fun d hd => by
                      rw [unhide HAPP] at hd
                      rcases List.mem_append.1 hd with hd | hd
                      · exact unhide HNZ d hd
                      · rw [List.mem_singleton] at hd
                        rw [hd]
                        exact lits_nz (unhide HLI)) (by rw [unhide HAPP, List.length_append]; simp; simp at hcl2; omega) [] S6.tr.length w6 w.heap.size F rl6 S6 V6 hF6 hI6 hW6)
                    have HK6 := hide hk6
                    clear hF6 hK6 hI6 hW6 hk6 HADD
                    go_wp2_with fail
                    refine (unhide HFL).mono ?_
                    rintro e w7 ⟨rl7, S7, V7, hF7, hK7, hI7, htr7, hor7⟩
                    have hk7 := (unhide HK6).trans hK7
                    rcases hor7 with ⟨rfl, hask7, hW7⟩ | ⟨rfl, hcf7⟩
                    · have HSN : Hid (PrS vn cs ps w4 w.heap.size F (rl0 F) (k + 1) true w7) := ⟨unhide HFC2, rl7, S7, V7, hF7, hk7, .inl ⟨rfl, hI7.refix, hask7, hW7⟩⟩
                      clear hF7 hK7 hI7 htr7 hask7 hW7 hk7 HFL
                      go_wp2_with fail
                      go_roundw
                      case rel => exact ⟨true, k + 1, by omega, rfl, by go_num, HSN⟩
                      case measure => simp [intOf]; omega
                    · have HSN : Hid (PrS vn cs ps w4 w.heap.size F (rl0 F) (k + 1) false w7) := ⟨unhide HFC2, rl7, S7, V7, hF7, hk7, .inr ⟨rfl, hcf7⟩⟩
                      clear hF7 hK7 hI7 htr7 hcf7 hk7 HFL
                      go_wp2_with fail
                      go_roundw
                      case rel => exact ⟨false, k + 1, by omega, rfl, by go_num, HSN⟩
                      case measure => simp [intOf]; omega
              · have HR := hide (show refB cs ps = true by
                  rw [← List.take_append_drop k ps, refB_append, hre, Bool.true_and]
                  exact refB_conf hcf1 _)
                have HB := hide hbo
                clear hF1 hK1 hcf1 hre hq hmid happ hmem hli hnz hbo HS
                go_wp2_with fail
                go_ret
                exact ⟨by rw [unhide HUZ, unhide HR]; rfl, unhide HB⟩
            · have j1 : ¬ (k : Int) < (n : Int) := by omega
              have hkn : k = n := by omega
              subst hkn
              have HR := hide (show refB cs ps = !can by
                have h1 : refB cs ps = confB (cs ++ ps.take k) [] := by
                  have h2 := unhide HSP
                  have h3 : refB cs ps = refB cs (ps.take k ++ [[]]) := congrArg (refB cs) h2
                  rw [h3, refB_append, hre, Bool.true_and, refB, refB, Bool.and_true]
                  rfl
                rw [h1]
                rcases hst with ⟨rfl, hI1, hask1, hW1⟩ | ⟨rfl, hcf1⟩
                · have hnz : NzC (cs ++ ps.take k) := fun d hd => by
                    rcases List.mem_append.1 hd with hd | hd
                    · exact cnf_nz (unhide HOK) d hd
                    · exact lits_nz (unhide HALL d (List.mem_of_mem_take hd))
                  exact confB_false ((hI1.fullK hW1 (fun x hx => by cases hx)).fine hnz (fun x hx => by cases hx))
                · exact confB_true hcf1)
              have HB := hide hbo
              clear hF1 hK1 hst hre hbo HS
              go_wp2_with fail
              go_ret
              exact ⟨by rw [unhide HUZ, unhide HR]; first | rfl | simp, unhide HB⟩
end Go.Proofs.Ythkhaemlcmkkjar
