/- The first model, or a refutation: the program's SatFind. -/
import Derived.Test.YthkhaemlcmkkjarGFs
import Derived.Test.YthkhaemlcmkkjarGDcn
namespace Go.Proofs.Ythkhaemlcmkkjar
set_option linter.unusedVariables false
set_option linter.unusedSimpArgs false
open Go.RowKit Go.Deep

theorem searchZ : Try.zeroCells92 = (List.replicate 401 (Value.int .i8 0) ++ [Value.slice none 0 0, .int .i64 0, .slice none 0 0] ++ List.replicate 803 (Value.slice none 0 0)).toArray := by kernel_rfl
/-- A search in memory, as it begins. -/
theorem search_start {w0 w : World} (hB : Below w0.heap.size w0 w) {cb : Nat} {C : Array Value} (hc : w.heap[cb]? = some (.cells C 41 (0, 0))) : SS w0 cb C (w.alloc (.cells Try.zeroCells92 92)) w.heap.size (rl0 w.heap.size) st0 fv0 [] [] := by
  have hb := blk_alloc_new w (.cells Try.zeroCells92 92)
  obtain ⟨h1, h2, h3, h4, h5⟩ := three_at 401 803 (.int .i8 0) (.slice none 0 0) (.int .i64 0) (.slice none 0 0) (.slice none 0 0)
  rw [← searchZ] at h1 h2 h3 h4 h5
  have hlt : cb < w.heap.size := (Array.getElem?_eq_some_iff.1 hc).1
  have b1 := (Below.refl w.heap.size w).alloc (Nat.le_refl _) (.cells Try.zeroCells92 92)
  have hcell : ∀ i, (w.alloc (.cells Try.zeroCells92 92)).cell? ⟨w.heap.size, i, none⟩ = Try.zeroCells92[i]? := fun i => cell_of_row _ _ _ _ _ _ hb
  refine ⟨FAt.start hb hB.size (fun v hv => h1 v (by omega)) h2 h3 h4 (fun q hq => h5 q (by omega)), hB.trans (b1.mono hB.size), ⟨(b1.block cb hlt).trans hc, by unfold rl0; rw [if_neg (by omega)]⟩, ⟨none, 0, (hcell 1205).trans (h5 801 (by omega)), World.ownsRow_nil _ _ _ _, fun g e => by cases e⟩, fun d hd => (by cases hd), .slice none 0 0, [], (hcell 1206).trans (h5 802 (by omega)), LstI.zero _ _, (fun g e => by cases e), fun i g hi => (by cases hi)⟩
/-- What SatFind answers, in memory. -/
def SatOut (B : Nat) (w' : World) (R : SatR) (e : Ending) : Prop := ∃ mv pv vs, e = .returned (.tuple #[.int .i64 R.1, mv, pv]) ∧ w'.ownsRow B 4 1 mv R.2.1.length (bV R.2.1) ∧ LstI B w' pv R.2.2 vs
theorem SatOut.none {B : Nat} {w' : World} {R : SatR} {k : Int} (h : R = (k, [], [])) : SatOut B w' R (.returned (.tuple #[.int .i64 k, .slice none 0 0, .slice none 0 0])) := by
  subst h
  exact ⟨_, _, [], rfl, World.ownsRow_nil _ _ _ _, LstI.zero _ _⟩
theorem lst_base {B B' : Nat} {w : World} {v : Value} {l : List (List Int)} {vs : List Value} (h : LstI B w v l vs) (hb : B' ≤ B) : LstI B' w v l vs := ⟨h.len, own_mono h.own hb, fun i hi => own_mono (h.row i hi) hb, h.apart⟩
/-- A search under way. -/
def FindS (vars : Nat) (cs : List (List Int)) (most made : Nat) (R : SatR) (fix : Nat) (w0 : World) (cb : Nat) (C : Array Value) (F : Nat) (can : Bool) (wr : World) : Prop :=
  (can = true ∧ CanS vars cs most made R fix w0 cb C F wr) ∨ (can = false ∧ TurnS vars cs most made R fix w0 cb C F wr)
/-- The first choice of a variable. -/
theorem good_more {vars : Nat} {st : List Int} {K : Nat → Int} {tr : List Int} (h : GoodC vars st) (ht : TrailK vars K tr) (hs : ∀ x, x ∈ st → x ∈ tr) {v : Nat} (hv0 : v ≠ 0) (hv : v ≤ vars) (hk : K v = 0) : GoodC vars (-(v : Int) :: st) := by
  refine ⟨?_, fun x hx => ?_⟩
  · rw [List.map_cons, List.nodup_cons]
    refine ⟨fun hm => ?_, h.1⟩
    obtain ⟨x, hx, e⟩ := List.mem_map.1 hm
    rw [Int.natAbs_neg, Int.natAbs_natCast] at e
    have hxm := hs x hx
    have h1 := (ht.mem x (ht.rng x hxm).1).2 hxm
    unfold valK at h1
    rw [e, hk] at h1
    split at h1 <;> omega
  · rcases List.mem_cons.1 hx with rfl | hx
    · omega
    · exact h.2 x hx

set_option maxRecDepth 100000 in
set_option maxHeartbeats 16000000 in
theorem implSatFind_any (vars : Int) (a : Option Addr) (cs : List (List Int)) (cap : Nat) (most : Int) (w : World) (h : ClsAt w a cs) :
    Calls Try.prog 13 #[.agg #[.int .i64 vars, .slice a cs.length cap], .int .i64 most] w fun e w' => SatOut w.heap.size w' (satZ vars cs most) e ∧ Below w.heap.size w w' := by
  have b1 := (Below.refl w.heap.size w).alloc (Nat.le_refl _) (.cells #[.int .i64 vars, .slice a cs.length cap] 41)
  have HC := hide (implCnfOk_any vars a cs cap _ (h.on b1))
  have HA := hide h
  clear h
  go_enter Try.func13, Try.ntmps13
  go_upto_region 1 with fail
  obtain ⟨w1, hw1⟩ : ∃ w1, w1 = w.alloc (.cells #[.int .i64 vars, .slice a cs.length cap] 41) := ⟨_, rfl⟩
  have x0 : w1.cell? ⟨w.heap.size, 0, none⟩ = some (.int .i64 vars) := by rw [hw1]; simp
  have x1 : w1.cell? ⟨w.heap.size, 1, none⟩ = some (.slice a cs.length cap) := by rw [hw1]; simp
  have xb : w1.heap[w.heap.size]? = some (.cells #[.int .i64 vars, .slice a cs.length cap] 41 (0, 0)) := by rw [hw1]; exact blk_alloc_new _ _
  have z1 : w.heap.size < w1.heap.size := by rw [hw1]; simp
  rw [← hw1] at b1 HC ⊢
  clear hw1
  cases hok : cnfB vars cs with
  | false =>
    rw [hok] at HC
    have HE := hide (show satZ vars cs most = (9, [], []) by unfold satZ; rw [hok, Bool.false_and, if_neg (by decide)])
    have HB1 := hide b1
    clear b1 xb
    go_wp2_with fail
    refine (unhide HC).mono ?_
    rintro e w2 ⟨rfl, b2⟩
    have HB2 := hide ((unhide HB1).trans (b2.mono (unhide HB1).size))
    clear b2 HC
    go_wp2_with fail
    exact bodyPost_ret (v := .tuple #[.int .i64 9, .slice none 0 0, .slice none 0 0]) (by simp [results, Try.results13, go_sem]) rfl ⟨SatOut.none (unhide HE), unhide HB2⟩
  | true =>
    rw [hok] at HC
    obtain ⟨hv0, hv1⟩ := cnf_vars hok
    have HB1 := hide b1
    have HOK := hide hok
    clear b1 hok
    go_wp2_with fail
    refine (unhide HC).mono ?_
    rintro e w2 ⟨rfl, b2⟩
    have HB2 := hide ((unhide HB1).trans (b2.mono (unhide HB1).size))
    rw [← b2.cell (p := ⟨w.heap.size, _, none⟩) z1] at x0 x1
    have xb2 := (b2.block _ z1).trans xb
    have z2 := Nat.lt_of_lt_of_le z1 b2.size
    clear b2 HC HB1 z1 xb
    cases hmo : inB most 0 3000 with
    | false =>
      have HE := hide (show satZ vars cs most = (9, [], []) by unfold satZ; rw [hmo, Bool.and_false, if_neg (by decide)])
      have HMO := hide hmo
      clear hmo xb2
      go_wp2_with fail
      refine (within_any _ _ _ _).mono ?_
      rintro e w3 ⟨rfl, rfl⟩
      rw [unhide HMO]
      go_wp2_with fail
      exact bodyPost_ret (v := .tuple #[.int .i64 9, .slice none 0 0, .slice none 0 0]) (by simp [results, Try.results13, go_sem]) rfl ⟨SatOut.none (unhide HE), unhide HB2⟩
    | true =>
      have HMO := hide hmo
      have HUZ := hide (show satZ vars cs most = topC cs vars.toNat most.toNat [] 0 [] by unfold satZ; rw [hmo, unhide HOK, Bool.and_self, if_pos rfl])
      obtain ⟨vn, hvn⟩ : ∃ vn : Nat, vars = (vn : Int) := ⟨vars.toNat, by omega⟩
      have hmr : 0 ≤ most ∧ most ≤ 3000 := by simpa [inB] using hmo
      obtain ⟨mn, hmn⟩ : ∃ mn : Nat, most = (mn : Int) := ⟨most.toNat, by omega⟩
      subst hvn
      subst hmn
      have hvn4 : vn ≤ 400 := by omega
      have hmn4 : mn ≤ 3000 := by omega
      have hcl : cs.length ≤ 6000 := by
        have := unhide HOK
        simp only [cnfB, Bool.and_eq_true, decide_eq_true_eq] at this
        exact this.2.1
      obtain ⟨R, hR⟩ : ∃ R, R = satZ (vn : Int) cs (mn : Int) := ⟨_, rfl⟩
      have hT0 : topC cs vn mn [] 0 [] = R := by rw [hR, unhide HUZ, Int.toNat_natCast, Int.toNat_natCast]
      have HRZ := hide hR
      clear hmo hR HUZ hmr
      go_wp2_with fail
      refine (within_any _ _ _ _).mono ?_
      rintro e w3 ⟨rfl, hww⟩
      have hww := hww.symm
      subst hww
      rw [unhide HMO]
      go_upto_region 4 with fail
      obtain ⟨w4, hw4⟩ : ∃ w4, w4 = w2.alloc (.cells Try.zeroCells92 92) := ⟨_, rfl⟩
      have hS4 := search_start (unhide HB2) xb2
      have b4 : Below w2.heap.size w2 w4 := by rw [hw4]; exact (Below.refl _ _).alloc (Nat.le_refl _) _
      rw [← hw4] at hS4 ⊢
      clear hw4
      rw [← b4.cell (p := ⟨w.heap.size, _, none⟩) z2] at x0 x1
      obtain ⟨F, hF⟩ : ∃ F, F = w2.heap.size := ⟨_, rfl⟩
      rw [← hF] at hS4 ⊢
      have HS4 := hide hS4
      have HT0 := hide hT0
      have HAA := hide (addAll_any vn hvn4 cs [] (unhide HOK) w w4 F (rl0 F) st0 fv0 hS4.fat hS4.bel .start (fun d hd => by cases hd) a cap (unhide HA))
      clear x0 b4 z2 hF hS4 xb2 hT0
      go_wp2_with fail
      refine (unhide HAA).mono ?_
      rintro e w5 ⟨rl5, S5, V5, hF5, hK5, hor⟩
      have hS5 := (unhide HS4).kept hK5 hF5
      rcases hor with ⟨rfl, hcf⟩ | ⟨rfl, hI5, hW5⟩
      · have HST : Hid (FindS vn cs mn 0 R 0 w w.heap.size #[.int .i64 (vn : Int), .slice a cs.length cap] F false w5) := .inr ⟨rfl, rl5, S5, V5, [], [], hS5, fun h => absurd rfl h, ⟨List.nodup_nil, fun x hx => by cases hx⟩, Nat.le_refl _, by
          rw [← unhide HT0]
          exact (top_conf (st := []) (by simp) (confB_true hcf)).symm⟩
        clear hF5 hK5 hS5 hcf HAA
        go_wp2_with fail
        go_loopw [8, 9] (fun cv mv wr => ∃ (can : Bool) (made : Nat), made ≤ mn ∧ cv = .bool can ∧ mv = .int .i64 made ∧ Hid (FindS vn cs mn made R 0 w w.heap.size #[.int .i64 (vn : Int), .slice a cs.length cap] F can wr)) (fun _ mv _ => mn - (intOf mv).toNat)
        case atStart => exact ⟨_, 0, Nat.zero_le _, rfl, rfl, HST⟩
        case round =>
          rename World => wo
          obtain ⟨can, made, hmd, rfl, rfl, HS⟩ := hrel
          rcases unhide HS with ⟨rfl, hcan⟩ | ⟨rfl, hturn⟩
          · have HCAN := hide hcan
            clear hcan HS
            obtain ⟨rl1, S1, Vq1, r1, P1, hS1, hI1, ha1, hW1, hL1, hG1, hl1, hT1⟩ := unhide HCAN
            have hup : ∀ v, v ≠ 0 → S1.K v = upK cs (litsOf r1).reverse v := fun v hv => by
              rw [← lits_rev]
              exact full_is (cnf_nz (unhide HOK)) hI1.trail.tri hI1.soundK (hI1.fullK hW1 hL1) v hv
            have hncf : confB cs (litsOf r1).reverse = false := by
              rw [← lits_rev]
              exact confB_false ((hI1.fullK hW1 hL1).fine (cnf_nz (unhide HOK)) (fun x hx => (hI1.trail.rng x (hL1 x hx)).1))
            have hop : openV S1.K vn = openV (upK cs (litsOf r1).reverse) vn := openF_same vn 1 (by omega) hup
            have hmod : modelK S1.K vn = modelK (upK cs (litsOf r1).reverse) vn := by
              unfold modelK
              refine List.map_congr_left fun i _ => ?_
              rw [hup (i + 1) (by omega)]
            have hgl := hG1.len
            have y0 : wo.cell? ⟨w.heap.size, 0, none⟩ = some (.int .i64 (vn : Int)) := by rw [cell_of_row wo _ 0 _ _ _ hS1.box.1]; rfl
            have yF := hS1.fat.lt
            have hfo := firstOpen_any F S1.K vn hvn4 wo hS1.fat.cells.kn
            have hov1 := openF_ge S1.K vn 1
            have hov2 := openF_le S1.K vn 1
            obtain ⟨v, hv⟩ : ∃ v, v = openV S1.K vn := ⟨_, rfl⟩
            rw [← hv] at hfo
            have hv1 : 1 ≤ v := by rw [hv]; exact hov1
            have hv2 : v ≤ 1 + vn := by rw [hv]; exact hov2
            have hvK : v ≤ vn → S1.K v = 0 := fun h => by
              rw [hv]
              exact openF_at S1.K vn 1 (by show openV S1.K vn < _; rw [← hv]; omega)
            have HFO := hide hfo
            have HOP := hide (show v = openV (upK cs (litsOf r1).reverse) vn from hv.trans hop)
            clear hfo hov1 hov2 hv hop hup
            by_cases hyes : vn < v
            · have hyi : (vn : Int) < (v : Int) := by omega
              have HE := hide (show R = (1, modelK S1.K vn, []) by
                rw [← hT1, top_yes (by omega) hncf (by rw [← unhide HOP]; exact hyes), hmod])
              have HMD := hide (model_any F S1.K vn hvn4 wo yF hS1.fat.cells.kn)
              have HB := hide hS1.bel
              clear hS1 hI1 ha1 hW1 hL1 hG1 hl1 hT1 hncf hmod hvK hgl HCAN
              go_wp2_with fail
              refine (unhide HFO).mono ?_
              rintro e w8 ⟨rfl, hww⟩
              have hww := hww.symm
              subst hww
              clear HFO
              go_wp2_with fail
              refine (unhide HMD).mono ?_
              rintro e w9 ⟨⟨mv, rfl, hrow⟩, b9⟩
              have HB9 := hide ((unhide HB).trans (b9.mono (unhide HB).size))
              have HROW := hide (own_mono hrow (unhide HB).size)
              obtain ⟨ma, mc, hmv⟩ := own_shape hrow
              subst hmv
              clear hrow b9 HMD
              go_wp2_with fail
              refine bodyPost_ret (v := .tuple #[.int .i64 1, .slice ma vn mc, .slice none 0 0]) (by simp [results, Try.results13, go_sem]) rfl ⟨?_, unhide HB9⟩
              rw [← unhide HRZ, unhide HE]
              exact ⟨_, _, [], rfl, by rw [modelK_len]; exact unhide HROW, LstI.zero _ _⟩
            · have hyi : ¬ (vn : Int) < (v : Int) := by omega
              have hv3 : v ≤ vn := by omega
              by_cases hmm : made = mn
              · have HE := hide (show R = (3, [], []) by
                  rw [← hT1, top_long (by omega) hncf (by rw [← unhide HOP]; exact hyes) (by omega)])
                have hmi : ((made : Int) == (mn : Int)) = true := by rw [beq_iff_eq]; omega
                have HB := hide hS1.bel
                clear hS1 hI1 ha1 hW1 hL1 hG1 hl1 hT1 hncf hmod hvK hgl HCAN
                go_wp2_with fail
                refine (unhide HFO).mono ?_
                rintro e w8 ⟨rfl, hww⟩
                have hww := hww.symm
                subst hww
                clear HFO
                go_wp2_with fail
                exact bodyPost_ret (v := .tuple #[.int .i64 3, .slice none 0 0, .slice none 0 0]) (by simp [results, Try.results13, go_sem]) rfl ⟨SatOut.none ((unhide HRZ).symm.trans (unhide HE)), unhide HB⟩
              · have hmi : ((made : Int) == (mn : Int)) = false := by rw [beq_eq_false_iff_ne]; omega
                have hneg : IntKind.i64.wrap (-(v : Int)) = -(v : Int) := by rw [IntKind.wrap_i64]; omega
                have hG2 : GoodC vn (-(v : Int) :: litsOf r1) := good_more hG1 hI1.trail (fun x hx => hL1 x (by rw [lits_rev]; exact List.mem_reverse.2 hx)) (by omega) hv3 (hvK hv3)
                have hgl2 := hG2.len
                have hTS : topC cs vn mn (-(v : Int) :: litsOf r1) (made + 1) P1 = R := by
                  rw [← hT1]
                  exact (top_step (by simp at hgl2; omega) hncf (unhide HOP) (by omega) (by omega) (by omega)).symm
                have HCH := hide (choose_any vn hvn4 cs (cnf_nz (unhide HOK)) (by omega) 0 w w.heap.size #[.int .i64 (vn : Int), .slice a cs.length cap] wo F rl1 S1 Vq1 r1 P1 hS1 (by rw [lits_len] at hgl; omega) hI1 ha1 hW1 hL1 (-(v : Int)) (by omega) (by omega) (by omega))
                have HG2 := hide hG2
                have HTS := hide hTS
                have HL1 := hide hl1
                clear hS1 hI1 ha1 hW1 hL1 hG1 hl1 hT1 hncf hmod hvK hgl HCAN hG2 hgl2 hTS
                go_wp2_with fail
                refine (unhide HFO).mono ?_
                rintro e w8 ⟨rfl, hww⟩
                have hww := hww.symm
                subst hww
                clear HFO
                go_wp2_with fail
                refine (unhide HCH).mono ?_
                rintro e w9 ⟨rl9, S9, Vq9, d9, hd9, hS9, hI9, hor9⟩
                have hl9 : litsOf (d9 :: r1) = -(v : Int) :: litsOf r1 := by rw [← hd9]; rfl
                have hG9 : GoodC vn (litsOf (d9 :: r1)) := by rw [hl9]; exact unhide HG2
                have hn9 : P1.length + wtS (litsOf (d9 :: r1)) ≤ 2 * (made + 1) := by
                  have h1 := unhide HL1
                  have h2 : wt1 (-(v : Int)) = 2 := by unfold wt1; rw [if_pos (by omega)]
                  rw [hl9, wtS_cons, h2]
                  omega
                have hT9 : topC cs vn mn (litsOf (d9 :: r1)) (made + 1) P1 = R := by rw [hl9]; exact unhide HTS
                obtain ⟨b9, rfl, HSN⟩ : ∃ b9, e = .returned (.bool b9) ∧ Hid (FindS vn cs mn (made + 1) R 0 w w.heap.size #[.int .i64 (vn : Int), .slice a cs.length cap] F b9 w9) := by
                  rcases hor9 with ⟨rfl, ha9, hW9, hL9⟩ | ⟨rfl, hcf9⟩
                  · exact ⟨true, rfl, .inl ⟨rfl, rl9, S9, Vq9, d9 :: r1, P1, hS9, hI9, ha9, hW9, hL9, hG9, hn9, hT9⟩⟩
                  · refine ⟨false, rfl, .inr ⟨rfl, rl9, S9, Vq9, d9 :: r1, P1, hS9, fun _ => hI9, hG9, hn9, ?_⟩⟩
                    rw [← hT9]
                    have h1 := hG9.len
                    exact (top_conf (by omega) (by rw [← lits_rev]; exact confB_true hcf9)).symm
                clear hd9 hS9 hI9 hor9 hl9 hG9 hn9 hT9 HCH
                go_wp2_with fail
                go_roundw
                case rel => exact ⟨b9, made + 1, by omega, rfl, by go_num, HSN⟩
                case measure => simp [intOf]; omega
          · have HTU := hide (turn_any vn hvn4 cs (cnf_nz (unhide HOK)) (by omega) mn made (by omega) R 0 w w.heap.size #[.int .i64 (vn : Int), .slice a cs.length cap] wo F hturn)
            clear hturn HS
            go_wp2_with fail
            refine (unhide HTU).mono ?_
            rename_i wq
            rintro e wo (⟨rfl, hcan⟩ | ⟨rfl, rl1, S1, Vq1, P1, hS1, hE1⟩)
            · have HCAN := hide hcan
              clear hcan HTU
              obtain ⟨rl1, S1, Vq1, r1, P1, hS1, hI1, ha1, hW1, hL1, hG1, hl1, hT1⟩ := unhide HCAN
              have hup : ∀ v, v ≠ 0 → S1.K v = upK cs (litsOf r1).reverse v := fun v hv => by
                rw [← lits_rev]
                exact full_is (cnf_nz (unhide HOK)) hI1.trail.tri hI1.soundK (hI1.fullK hW1 hL1) v hv
              have hncf : confB cs (litsOf r1).reverse = false := by
                rw [← lits_rev]
                exact confB_false ((hI1.fullK hW1 hL1).fine (cnf_nz (unhide HOK)) (fun x hx => (hI1.trail.rng x (hL1 x hx)).1))
              have hop : openV S1.K vn = openV (upK cs (litsOf r1).reverse) vn := openF_same vn 1 (by omega) hup
              have hmod : modelK S1.K vn = modelK (upK cs (litsOf r1).reverse) vn := by
                unfold modelK
                refine List.map_congr_left fun i _ => ?_
                rw [hup (i + 1) (by omega)]
              have hgl := hG1.len
              have y0 : wo.cell? ⟨w.heap.size, 0, none⟩ = some (.int .i64 (vn : Int)) := by rw [cell_of_row wo _ 0 _ _ _ hS1.box.1]; rfl
              have yF := hS1.fat.lt
              have hfo := firstOpen_any F S1.K vn hvn4 wo hS1.fat.cells.kn
              have hov1 := openF_ge S1.K vn 1
              have hov2 := openF_le S1.K vn 1
              obtain ⟨v, hv⟩ : ∃ v, v = openV S1.K vn := ⟨_, rfl⟩
              rw [← hv] at hfo
              have hv1 : 1 ≤ v := by rw [hv]; exact hov1
              have hv2 : v ≤ 1 + vn := by rw [hv]; exact hov2
              have hvK : v ≤ vn → S1.K v = 0 := fun h => by
                rw [hv]
                exact openF_at S1.K vn 1 (by show openV S1.K vn < _; rw [← hv]; omega)
              have HFO := hide hfo
              have HOP := hide (show v = openV (upK cs (litsOf r1).reverse) vn from hv.trans hop)
              clear hfo hov1 hov2 hv hop hup
              by_cases hyes : vn < v
              · have hyi : (vn : Int) < (v : Int) := by omega
                have HE := hide (show R = (1, modelK S1.K vn, []) by
                  rw [← hT1, top_yes (by omega) hncf (by rw [← unhide HOP]; exact hyes), hmod])
                have HMD := hide (model_any F S1.K vn hvn4 wo yF hS1.fat.cells.kn)
                have HB := hide hS1.bel
                clear hS1 hI1 ha1 hW1 hL1 hG1 hl1 hT1 hncf hmod hvK hgl HCAN
                go_wp2_with fail
                refine (unhide HFO).mono ?_
                rintro e w8 ⟨rfl, hww⟩
                have hww := hww.symm
                subst hww
                clear HFO
                go_wp2_with fail
                refine (unhide HMD).mono ?_
                rintro e w9 ⟨⟨mv, rfl, hrow⟩, b9⟩
                have HB9 := hide ((unhide HB).trans (b9.mono (unhide HB).size))
                have HROW := hide (own_mono hrow (unhide HB).size)
                obtain ⟨ma, mc, hmv⟩ := own_shape hrow
                subst hmv
                clear hrow b9 HMD
                go_wp2_with fail
                refine bodyPost_ret (v := .tuple #[.int .i64 1, .slice ma vn mc, .slice none 0 0]) (by simp [results, Try.results13, go_sem]) rfl ⟨?_, unhide HB9⟩
                rw [← unhide HRZ, unhide HE]
                exact ⟨_, _, [], rfl, by rw [modelK_len]; exact unhide HROW, LstI.zero _ _⟩
              · have hyi : ¬ (vn : Int) < (v : Int) := by omega
                have hv3 : v ≤ vn := by omega
                by_cases hmm : made = mn
                · have HE := hide (show R = (3, [], []) by
                    rw [← hT1, top_long (by omega) hncf (by rw [← unhide HOP]; exact hyes) (by omega)])
                  have hmi : ((made : Int) == (mn : Int)) = true := by rw [beq_iff_eq]; omega
                  have HB := hide hS1.bel
                  clear hS1 hI1 ha1 hW1 hL1 hG1 hl1 hT1 hncf hmod hvK hgl HCAN
                  go_wp2_with fail
                  refine (unhide HFO).mono ?_
                  rintro e w8 ⟨rfl, hww⟩
                  have hww := hww.symm
                  subst hww
                  clear HFO
                  go_wp2_with fail
                  exact bodyPost_ret (v := .tuple #[.int .i64 3, .slice none 0 0, .slice none 0 0]) (by simp [results, Try.results13, go_sem]) rfl ⟨SatOut.none ((unhide HRZ).symm.trans (unhide HE)), unhide HB⟩
                · have hmi : ((made : Int) == (mn : Int)) = false := by rw [beq_eq_false_iff_ne]; omega
                  have hneg : IntKind.i64.wrap (-(v : Int)) = -(v : Int) := by rw [IntKind.wrap_i64]; omega
                  have hG2 : GoodC vn (-(v : Int) :: litsOf r1) := good_more hG1 hI1.trail (fun x hx => hL1 x (by rw [lits_rev]; exact List.mem_reverse.2 hx)) (by omega) hv3 (hvK hv3)
                  have hgl2 := hG2.len
                  have hTS : topC cs vn mn (-(v : Int) :: litsOf r1) (made + 1) P1 = R := by
                    rw [← hT1]
                    exact (top_step (by simp at hgl2; omega) hncf (unhide HOP) (by omega) (by omega) (by omega)).symm
                  have HCH := hide (choose_any vn hvn4 cs (cnf_nz (unhide HOK)) (by omega) 0 w w.heap.size #[.int .i64 (vn : Int), .slice a cs.length cap] wo F rl1 S1 Vq1 r1 P1 hS1 (by rw [lits_len] at hgl; omega) hI1 ha1 hW1 hL1 (-(v : Int)) (by omega) (by omega) (by omega))
                  have HG2 := hide hG2
                  have HTS := hide hTS
                  have HL1 := hide hl1
                  clear hS1 hI1 ha1 hW1 hL1 hG1 hl1 hT1 hncf hmod hvK hgl HCAN hG2 hgl2 hTS
                  go_wp2_with fail
                  refine (unhide HFO).mono ?_
                  rintro e w8 ⟨rfl, hww⟩
                  have hww := hww.symm
                  subst hww
                  clear HFO
                  go_wp2_with fail
                  refine (unhide HCH).mono ?_
                  rintro e w9 ⟨rl9, S9, Vq9, d9, hd9, hS9, hI9, hor9⟩
                  have hl9 : litsOf (d9 :: r1) = -(v : Int) :: litsOf r1 := by rw [← hd9]; rfl
                  have hG9 : GoodC vn (litsOf (d9 :: r1)) := by rw [hl9]; exact unhide HG2
                  have hn9 : P1.length + wtS (litsOf (d9 :: r1)) ≤ 2 * (made + 1) := by
                    have h1 := unhide HL1
                    have h2 : wt1 (-(v : Int)) = 2 := by unfold wt1; rw [if_pos (by omega)]
                    rw [hl9, wtS_cons, h2]
                    omega
                  have hT9 : topC cs vn mn (litsOf (d9 :: r1)) (made + 1) P1 = R := by rw [hl9]; exact unhide HTS
                  obtain ⟨b9, rfl, HSN⟩ : ∃ b9, e = .returned (.bool b9) ∧ Hid (FindS vn cs mn (made + 1) R 0 w w.heap.size #[.int .i64 (vn : Int), .slice a cs.length cap] F b9 w9) := by
                    rcases hor9 with ⟨rfl, ha9, hW9, hL9⟩ | ⟨rfl, hcf9⟩
                    · exact ⟨true, rfl, .inl ⟨rfl, rl9, S9, Vq9, d9 :: r1, P1, hS9, hI9, ha9, hW9, hL9, hG9, hn9, hT9⟩⟩
                    · refine ⟨false, rfl, .inr ⟨rfl, rl9, S9, Vq9, d9 :: r1, P1, hS9, fun _ => hI9, hG9, hn9, ?_⟩⟩
                      rw [← hT9]
                      have h1 := hG9.len
                      exact (top_conf (by omega) (by rw [← lits_rev]; exact confB_true hcf9)).symm
                  clear hd9 hS9 hI9 hor9 hl9 hG9 hn9 hT9 HCH
                  go_wp2_with fail
                  go_roundw
                  case rel => exact ⟨b9, made + 1, by omega, rfl, by go_num, HSN⟩
                  case measure => simp [intOf]; omega
            · obtain ⟨pv, vs, p1, p2, p3, p4⟩ := hS1.prf
              obtain ⟨pa, pc, hpv⟩ : ∃ pa pc, pv = .slice pa P1.length pc := own_shape p2.own
              subst hpv
              have HE := hide hE1
              have HB := hide hS1.bel
              have HP2 := hide p2
              have yF := hS1.fat.lt
              clear hS1 p2 p3 p4 hE1 HTU
              go_wp2_with fail
              go_quiet (fail)
              have bq : Below wo.heap.size wo (wo.drewN nq) := ((Drawn.refl wo).more nq).below _
              have HB2 := hide ((unhide HB).trans (bq.mono (unhide HB).size))
              have HP3 := hide ((unhide HP2).on bq)
              clear bq
              go_wp2_with fail
              refine bodyPost_ret (v := .tuple #[.int .i64 2, .slice none 0 0, .slice pa P1.length pc]) (by simp [results, Try.results13, go_sem]) rfl ⟨?_, unhide HB2⟩
              rw [← unhide HRZ, unhide HE]
              exact ⟨_, _, vs, rfl, World.ownsRow_nil _ _ _ _, unhide HP3⟩
      · have HFL := hide (follow_any vn hvn4 cs [] (cnf_nz (unhide HOK)) (by omega) [] S5.tr.length w5 w.heap.size F rl5 S5 V5 hF5 hI5 hW5)
        have HS5 := hide hS5
        obtain ⟨fix, hfix⟩ : ∃ fix, fix = S5.tr.length := ⟨_, rfl⟩
        rw [← hfix] at HFL
        clear hF5 hK5 hS5 hI5 hW5 HAA hfix
        go_wp2_with fail
        refine (unhide HFL).mono ?_
        rintro e w7 ⟨rl7, S7, V7, hF7, hK7, hI7, htr7, hor7⟩
        have hS7 := (unhide HS5).kept hK7 hF7
        rcases hor7 with ⟨rfl, hask7, hW7⟩ | ⟨rfl, hcf7⟩
        · have HST : Hid (FindS vn cs mn 0 R fix w w.heap.size #[.int .i64 (vn : Int), .slice a cs.length cap] F true w7) := .inl ⟨rfl, rl7, S7, V7, [], [], hS7, hI7, hask7, hW7, (fun x hx => by cases hx), ⟨List.nodup_nil, fun x hx => by cases hx⟩, Nat.le_refl _, unhide HT0⟩
          clear hF7 hK7 hI7 htr7 hask7 hW7 hS7 HFL
          go_wp2_with fail
          go_loopw [8, 9] (fun cv mv wr => ∃ (can : Bool) (made : Nat), made ≤ mn ∧ cv = .bool can ∧ mv = .int .i64 made ∧ Hid (FindS vn cs mn made R fix w w.heap.size #[.int .i64 (vn : Int), .slice a cs.length cap] F can wr)) (fun _ mv _ => mn - (intOf mv).toNat)
          case atStart => exact ⟨_, 0, Nat.zero_le _, rfl, rfl, HST⟩
          case round =>
            rename World => wo
            obtain ⟨can, made, hmd, rfl, rfl, HS⟩ := hrel
            rcases unhide HS with ⟨rfl, hcan⟩ | ⟨rfl, hturn⟩
            · have HCAN := hide hcan
              clear hcan HS
              obtain ⟨rl1, S1, Vq1, r1, P1, hS1, hI1, ha1, hW1, hL1, hG1, hl1, hT1⟩ := unhide HCAN
              have hup : ∀ v, v ≠ 0 → S1.K v = upK cs (litsOf r1).reverse v := fun v hv => by
                rw [← lits_rev]
                exact full_is (cnf_nz (unhide HOK)) hI1.trail.tri hI1.soundK (hI1.fullK hW1 hL1) v hv
              have hncf : confB cs (litsOf r1).reverse = false := by
                rw [← lits_rev]
                exact confB_false ((hI1.fullK hW1 hL1).fine (cnf_nz (unhide HOK)) (fun x hx => (hI1.trail.rng x (hL1 x hx)).1))
              have hop : openV S1.K vn = openV (upK cs (litsOf r1).reverse) vn := openF_same vn 1 (by omega) hup
              have hmod : modelK S1.K vn = modelK (upK cs (litsOf r1).reverse) vn := by
                unfold modelK
                refine List.map_congr_left fun i _ => ?_
                rw [hup (i + 1) (by omega)]
              have hgl := hG1.len
              have y0 : wo.cell? ⟨w.heap.size, 0, none⟩ = some (.int .i64 (vn : Int)) := by rw [cell_of_row wo _ 0 _ _ _ hS1.box.1]; rfl
              have yF := hS1.fat.lt
              have hfo := firstOpen_any F S1.K vn hvn4 wo hS1.fat.cells.kn
              have hov1 := openF_ge S1.K vn 1
              have hov2 := openF_le S1.K vn 1
              obtain ⟨v, hv⟩ : ∃ v, v = openV S1.K vn := ⟨_, rfl⟩
              rw [← hv] at hfo
              have hv1 : 1 ≤ v := by rw [hv]; exact hov1
              have hv2 : v ≤ 1 + vn := by rw [hv]; exact hov2
              have hvK : v ≤ vn → S1.K v = 0 := fun h => by
                rw [hv]
                exact openF_at S1.K vn 1 (by show openV S1.K vn < _; rw [← hv]; omega)
              have HFO := hide hfo
              have HOP := hide (show v = openV (upK cs (litsOf r1).reverse) vn from hv.trans hop)
              clear hfo hov1 hov2 hv hop hup
              by_cases hyes : vn < v
              · have hyi : (vn : Int) < (v : Int) := by omega
                have HE := hide (show R = (1, modelK S1.K vn, []) by
                  rw [← hT1, top_yes (by omega) hncf (by rw [← unhide HOP]; exact hyes), hmod])
                have HMD := hide (model_any F S1.K vn hvn4 wo yF hS1.fat.cells.kn)
                have HB := hide hS1.bel
                clear hS1 hI1 ha1 hW1 hL1 hG1 hl1 hT1 hncf hmod hvK hgl HCAN
                go_wp2_with fail
                refine (unhide HFO).mono ?_
                rintro e w8 ⟨rfl, hww⟩
                have hww := hww.symm
                subst hww
                clear HFO
                go_wp2_with fail
                refine (unhide HMD).mono ?_
                rintro e w9 ⟨⟨mv, rfl, hrow⟩, b9⟩
                have HB9 := hide ((unhide HB).trans (b9.mono (unhide HB).size))
                have HROW := hide (own_mono hrow (unhide HB).size)
                obtain ⟨ma, mc, hmv⟩ := own_shape hrow
                subst hmv
                clear hrow b9 HMD
                go_wp2_with fail
                refine bodyPost_ret (v := .tuple #[.int .i64 1, .slice ma vn mc, .slice none 0 0]) (by simp [results, Try.results13, go_sem]) rfl ⟨?_, unhide HB9⟩
                rw [← unhide HRZ, unhide HE]
                exact ⟨_, _, [], rfl, by rw [modelK_len]; exact unhide HROW, LstI.zero _ _⟩
              · have hyi : ¬ (vn : Int) < (v : Int) := by omega
                have hv3 : v ≤ vn := by omega
                by_cases hmm : made = mn
                · have HE := hide (show R = (3, [], []) by
                    rw [← hT1, top_long (by omega) hncf (by rw [← unhide HOP]; exact hyes) (by omega)])
                  have hmi : ((made : Int) == (mn : Int)) = true := by rw [beq_iff_eq]; omega
                  have HB := hide hS1.bel
                  clear hS1 hI1 ha1 hW1 hL1 hG1 hl1 hT1 hncf hmod hvK hgl HCAN
                  go_wp2_with fail
                  refine (unhide HFO).mono ?_
                  rintro e w8 ⟨rfl, hww⟩
                  have hww := hww.symm
                  subst hww
                  clear HFO
                  go_wp2_with fail
                  exact bodyPost_ret (v := .tuple #[.int .i64 3, .slice none 0 0, .slice none 0 0]) (by simp [results, Try.results13, go_sem]) rfl ⟨SatOut.none ((unhide HRZ).symm.trans (unhide HE)), unhide HB⟩
                · have hmi : ((made : Int) == (mn : Int)) = false := by rw [beq_eq_false_iff_ne]; omega
                  have hneg : IntKind.i64.wrap (-(v : Int)) = -(v : Int) := by rw [IntKind.wrap_i64]; omega
                  have hG2 : GoodC vn (-(v : Int) :: litsOf r1) := good_more hG1 hI1.trail (fun x hx => hL1 x (by rw [lits_rev]; exact List.mem_reverse.2 hx)) (by omega) hv3 (hvK hv3)
                  have hgl2 := hG2.len
                  have hTS : topC cs vn mn (-(v : Int) :: litsOf r1) (made + 1) P1 = R := by
                    rw [← hT1]
                    exact (top_step (by simp at hgl2; omega) hncf (unhide HOP) (by omega) (by omega) (by omega)).symm
                  have HCH := hide (choose_any vn hvn4 cs (cnf_nz (unhide HOK)) (by omega) fix w w.heap.size #[.int .i64 (vn : Int), .slice a cs.length cap] wo F rl1 S1 Vq1 r1 P1 hS1 (by rw [lits_len] at hgl; omega) hI1 ha1 hW1 hL1 (-(v : Int)) (by omega) (by omega) (by omega))
                  have HG2 := hide hG2
                  have HTS := hide hTS
                  have HL1 := hide hl1
                  clear hS1 hI1 ha1 hW1 hL1 hG1 hl1 hT1 hncf hmod hvK hgl HCAN hG2 hgl2 hTS
                  go_wp2_with fail
                  refine (unhide HFO).mono ?_
                  rintro e w8 ⟨rfl, hww⟩
                  have hww := hww.symm
                  subst hww
                  clear HFO
                  go_wp2_with fail
                  refine (unhide HCH).mono ?_
                  rintro e w9 ⟨rl9, S9, Vq9, d9, hd9, hS9, hI9, hor9⟩
                  have hl9 : litsOf (d9 :: r1) = -(v : Int) :: litsOf r1 := by rw [← hd9]; rfl
                  have hG9 : GoodC vn (litsOf (d9 :: r1)) := by rw [hl9]; exact unhide HG2
                  have hn9 : P1.length + wtS (litsOf (d9 :: r1)) ≤ 2 * (made + 1) := by
                    have h1 := unhide HL1
                    have h2 : wt1 (-(v : Int)) = 2 := by unfold wt1; rw [if_pos (by omega)]
                    rw [hl9, wtS_cons, h2]
                    omega
                  have hT9 : topC cs vn mn (litsOf (d9 :: r1)) (made + 1) P1 = R := by rw [hl9]; exact unhide HTS
                  obtain ⟨b9, rfl, HSN⟩ : ∃ b9, e = .returned (.bool b9) ∧ Hid (FindS vn cs mn (made + 1) R fix w w.heap.size #[.int .i64 (vn : Int), .slice a cs.length cap] F b9 w9) := by
                    rcases hor9 with ⟨rfl, ha9, hW9, hL9⟩ | ⟨rfl, hcf9⟩
                    · exact ⟨true, rfl, .inl ⟨rfl, rl9, S9, Vq9, d9 :: r1, P1, hS9, hI9, ha9, hW9, hL9, hG9, hn9, hT9⟩⟩
                    · refine ⟨false, rfl, .inr ⟨rfl, rl9, S9, Vq9, d9 :: r1, P1, hS9, fun _ => hI9, hG9, hn9, ?_⟩⟩
                      rw [← hT9]
                      have h1 := hG9.len
                      exact (top_conf (by omega) (by rw [← lits_rev]; exact confB_true hcf9)).symm
                  clear hd9 hS9 hI9 hor9 hl9 hG9 hn9 hT9 HCH
                  go_wp2_with fail
                  go_roundw
                  case rel => exact ⟨b9, made + 1, by omega, rfl, by go_num, HSN⟩
                  case measure => simp [intOf]; omega
            · have HTU := hide (turn_any vn hvn4 cs (cnf_nz (unhide HOK)) (by omega) mn made (by omega) R fix w w.heap.size #[.int .i64 (vn : Int), .slice a cs.length cap] wo F hturn)
              clear hturn HS
              go_wp2_with fail
              refine (unhide HTU).mono ?_
              rename_i wq
              rintro e wo (⟨rfl, hcan⟩ | ⟨rfl, rl1, S1, Vq1, P1, hS1, hE1⟩)
              · have HCAN := hide hcan
                clear hcan HTU
                obtain ⟨rl1, S1, Vq1, r1, P1, hS1, hI1, ha1, hW1, hL1, hG1, hl1, hT1⟩ := unhide HCAN
                have hup : ∀ v, v ≠ 0 → S1.K v = upK cs (litsOf r1).reverse v := fun v hv => by
                  rw [← lits_rev]
                  exact full_is (cnf_nz (unhide HOK)) hI1.trail.tri hI1.soundK (hI1.fullK hW1 hL1) v hv
                have hncf : confB cs (litsOf r1).reverse = false := by
                  rw [← lits_rev]
                  exact confB_false ((hI1.fullK hW1 hL1).fine (cnf_nz (unhide HOK)) (fun x hx => (hI1.trail.rng x (hL1 x hx)).1))
                have hop : openV S1.K vn = openV (upK cs (litsOf r1).reverse) vn := openF_same vn 1 (by omega) hup
                have hmod : modelK S1.K vn = modelK (upK cs (litsOf r1).reverse) vn := by
                  unfold modelK
                  refine List.map_congr_left fun i _ => ?_
                  rw [hup (i + 1) (by omega)]
                have hgl := hG1.len
                have y0 : wo.cell? ⟨w.heap.size, 0, none⟩ = some (.int .i64 (vn : Int)) := by rw [cell_of_row wo _ 0 _ _ _ hS1.box.1]; rfl
                have yF := hS1.fat.lt
                have hfo := firstOpen_any F S1.K vn hvn4 wo hS1.fat.cells.kn
                have hov1 := openF_ge S1.K vn 1
                have hov2 := openF_le S1.K vn 1
                obtain ⟨v, hv⟩ : ∃ v, v = openV S1.K vn := ⟨_, rfl⟩
                rw [← hv] at hfo
                have hv1 : 1 ≤ v := by rw [hv]; exact hov1
                have hv2 : v ≤ 1 + vn := by rw [hv]; exact hov2
                have hvK : v ≤ vn → S1.K v = 0 := fun h => by
                  rw [hv]
                  exact openF_at S1.K vn 1 (by show openV S1.K vn < _; rw [← hv]; omega)
                have HFO := hide hfo
                have HOP := hide (show v = openV (upK cs (litsOf r1).reverse) vn from hv.trans hop)
                clear hfo hov1 hov2 hv hop hup
                by_cases hyes : vn < v
                · have hyi : (vn : Int) < (v : Int) := by omega
                  have HE := hide (show R = (1, modelK S1.K vn, []) by
                    rw [← hT1, top_yes (by omega) hncf (by rw [← unhide HOP]; exact hyes), hmod])
                  have HMD := hide (model_any F S1.K vn hvn4 wo yF hS1.fat.cells.kn)
                  have HB := hide hS1.bel
                  clear hS1 hI1 ha1 hW1 hL1 hG1 hl1 hT1 hncf hmod hvK hgl HCAN
                  go_wp2_with fail
                  refine (unhide HFO).mono ?_
                  rintro e w8 ⟨rfl, hww⟩
                  have hww := hww.symm
                  subst hww
                  clear HFO
                  go_wp2_with fail
                  refine (unhide HMD).mono ?_
                  rintro e w9 ⟨⟨mv, rfl, hrow⟩, b9⟩
                  have HB9 := hide ((unhide HB).trans (b9.mono (unhide HB).size))
                  have HROW := hide (own_mono hrow (unhide HB).size)
                  obtain ⟨ma, mc, hmv⟩ := own_shape hrow
                  subst hmv
                  clear hrow b9 HMD
                  go_wp2_with fail
                  refine bodyPost_ret (v := .tuple #[.int .i64 1, .slice ma vn mc, .slice none 0 0]) (by simp [results, Try.results13, go_sem]) rfl ⟨?_, unhide HB9⟩
                  rw [← unhide HRZ, unhide HE]
                  exact ⟨_, _, [], rfl, by rw [modelK_len]; exact unhide HROW, LstI.zero _ _⟩
                · have hyi : ¬ (vn : Int) < (v : Int) := by omega
                  have hv3 : v ≤ vn := by omega
                  by_cases hmm : made = mn
                  · have HE := hide (show R = (3, [], []) by
                      rw [← hT1, top_long (by omega) hncf (by rw [← unhide HOP]; exact hyes) (by omega)])
                    have hmi : ((made : Int) == (mn : Int)) = true := by rw [beq_iff_eq]; omega
                    have HB := hide hS1.bel
                    clear hS1 hI1 ha1 hW1 hL1 hG1 hl1 hT1 hncf hmod hvK hgl HCAN
                    go_wp2_with fail
                    refine (unhide HFO).mono ?_
                    rintro e w8 ⟨rfl, hww⟩
                    have hww := hww.symm
                    subst hww
                    clear HFO
                    go_wp2_with fail
                    exact bodyPost_ret (v := .tuple #[.int .i64 3, .slice none 0 0, .slice none 0 0]) (by simp [results, Try.results13, go_sem]) rfl ⟨SatOut.none ((unhide HRZ).symm.trans (unhide HE)), unhide HB⟩
                  · have hmi : ((made : Int) == (mn : Int)) = false := by rw [beq_eq_false_iff_ne]; omega
                    have hneg : IntKind.i64.wrap (-(v : Int)) = -(v : Int) := by rw [IntKind.wrap_i64]; omega
                    have hG2 : GoodC vn (-(v : Int) :: litsOf r1) := good_more hG1 hI1.trail (fun x hx => hL1 x (by rw [lits_rev]; exact List.mem_reverse.2 hx)) (by omega) hv3 (hvK hv3)
                    have hgl2 := hG2.len
                    have hTS : topC cs vn mn (-(v : Int) :: litsOf r1) (made + 1) P1 = R := by
                      rw [← hT1]
                      exact (top_step (by simp at hgl2; omega) hncf (unhide HOP) (by omega) (by omega) (by omega)).symm
                    have HCH := hide (choose_any vn hvn4 cs (cnf_nz (unhide HOK)) (by omega) fix w w.heap.size #[.int .i64 (vn : Int), .slice a cs.length cap] wo F rl1 S1 Vq1 r1 P1 hS1 (by rw [lits_len] at hgl; omega) hI1 ha1 hW1 hL1 (-(v : Int)) (by omega) (by omega) (by omega))
                    have HG2 := hide hG2
                    have HTS := hide hTS
                    have HL1 := hide hl1
                    clear hS1 hI1 ha1 hW1 hL1 hG1 hl1 hT1 hncf hmod hvK hgl HCAN hG2 hgl2 hTS
                    go_wp2_with fail
                    refine (unhide HFO).mono ?_
                    rintro e w8 ⟨rfl, hww⟩
                    have hww := hww.symm
                    subst hww
                    clear HFO
                    go_wp2_with fail
                    refine (unhide HCH).mono ?_
                    rintro e w9 ⟨rl9, S9, Vq9, d9, hd9, hS9, hI9, hor9⟩
                    have hl9 : litsOf (d9 :: r1) = -(v : Int) :: litsOf r1 := by rw [← hd9]; rfl
                    have hG9 : GoodC vn (litsOf (d9 :: r1)) := by rw [hl9]; exact unhide HG2
                    have hn9 : P1.length + wtS (litsOf (d9 :: r1)) ≤ 2 * (made + 1) := by
                      have h1 := unhide HL1
                      have h2 : wt1 (-(v : Int)) = 2 := by unfold wt1; rw [if_pos (by omega)]
                      rw [hl9, wtS_cons, h2]
                      omega
                    have hT9 : topC cs vn mn (litsOf (d9 :: r1)) (made + 1) P1 = R := by rw [hl9]; exact unhide HTS
                    obtain ⟨b9, rfl, HSN⟩ : ∃ b9, e = .returned (.bool b9) ∧ Hid (FindS vn cs mn (made + 1) R fix w w.heap.size #[.int .i64 (vn : Int), .slice a cs.length cap] F b9 w9) := by
                      rcases hor9 with ⟨rfl, ha9, hW9, hL9⟩ | ⟨rfl, hcf9⟩
                      · exact ⟨true, rfl, .inl ⟨rfl, rl9, S9, Vq9, d9 :: r1, P1, hS9, hI9, ha9, hW9, hL9, hG9, hn9, hT9⟩⟩
                      · refine ⟨false, rfl, .inr ⟨rfl, rl9, S9, Vq9, d9 :: r1, P1, hS9, fun _ => hI9, hG9, hn9, ?_⟩⟩
                        rw [← hT9]
                        have h1 := hG9.len
                        exact (top_conf (by omega) (by rw [← lits_rev]; exact confB_true hcf9)).symm
                    clear hd9 hS9 hI9 hor9 hl9 hG9 hn9 hT9 HCH
                    go_wp2_with fail
                    go_roundw
                    case rel => exact ⟨b9, made + 1, by omega, rfl, by go_num, HSN⟩
                    case measure => simp [intOf]; omega
              · obtain ⟨pv, vs, p1, p2, p3, p4⟩ := hS1.prf
                obtain ⟨pa, pc, hpv⟩ : ∃ pa pc, pv = .slice pa P1.length pc := own_shape p2.own
                subst hpv
                have HE := hide hE1
                have HB := hide hS1.bel
                have HP2 := hide p2
                have yF := hS1.fat.lt
                clear hS1 p2 p3 p4 hE1 HTU
                go_wp2_with fail
                go_quiet (fail)
                have bq : Below wo.heap.size wo (wo.drewN nq) := ((Drawn.refl wo).more nq).below _
                have HB2 := hide ((unhide HB).trans (bq.mono (unhide HB).size))
                have HP3 := hide ((unhide HP2).on bq)
                clear bq
                go_wp2_with fail
                refine bodyPost_ret (v := .tuple #[.int .i64 2, .slice none 0 0, .slice pa P1.length pc]) (by simp [results, Try.results13, go_sem]) rfl ⟨?_, unhide HB2⟩
                rw [← unhide HRZ, unhide HE]
                exact ⟨_, _, vs, rfl, World.ownsRow_nil _ _ _ _, unhide HP3⟩
        · have HST : Hid (FindS vn cs mn 0 R fix w w.heap.size #[.int .i64 (vn : Int), .slice a cs.length cap] F false w7) := .inr ⟨rfl, rl7, S7, V7, [], [], hS7, fun _ => hI7, ⟨List.nodup_nil, fun x hx => by cases hx⟩, Nat.le_refl _, by
            rw [← unhide HT0]
            exact (top_conf (st := []) (by simp) (confB_true hcf7)).symm⟩
          clear hF7 hK7 hI7 htr7 hcf7 hS7 HFL
          go_wp2_with fail
          go_loopw [8, 9] (fun cv mv wr => ∃ (can : Bool) (made : Nat), made ≤ mn ∧ cv = .bool can ∧ mv = .int .i64 made ∧ Hid (FindS vn cs mn made R fix w w.heap.size #[.int .i64 (vn : Int), .slice a cs.length cap] F can wr)) (fun _ mv _ => mn - (intOf mv).toNat)
          case atStart => exact ⟨_, 0, Nat.zero_le _, rfl, rfl, HST⟩
          case round =>
            rename World => wo
            obtain ⟨can, made, hmd, rfl, rfl, HS⟩ := hrel
            rcases unhide HS with ⟨rfl, hcan⟩ | ⟨rfl, hturn⟩
            · have HCAN := hide hcan
              clear hcan HS
              obtain ⟨rl1, S1, Vq1, r1, P1, hS1, hI1, ha1, hW1, hL1, hG1, hl1, hT1⟩ := unhide HCAN
              have hup : ∀ v, v ≠ 0 → S1.K v = upK cs (litsOf r1).reverse v := fun v hv => by
                rw [← lits_rev]
                exact full_is (cnf_nz (unhide HOK)) hI1.trail.tri hI1.soundK (hI1.fullK hW1 hL1) v hv
              have hncf : confB cs (litsOf r1).reverse = false := by
                rw [← lits_rev]
                exact confB_false ((hI1.fullK hW1 hL1).fine (cnf_nz (unhide HOK)) (fun x hx => (hI1.trail.rng x (hL1 x hx)).1))
              have hop : openV S1.K vn = openV (upK cs (litsOf r1).reverse) vn := openF_same vn 1 (by omega) hup
              have hmod : modelK S1.K vn = modelK (upK cs (litsOf r1).reverse) vn := by
                unfold modelK
                refine List.map_congr_left fun i _ => ?_
                rw [hup (i + 1) (by omega)]
              have hgl := hG1.len
              have y0 : wo.cell? ⟨w.heap.size, 0, none⟩ = some (.int .i64 (vn : Int)) := by rw [cell_of_row wo _ 0 _ _ _ hS1.box.1]; rfl
              have yF := hS1.fat.lt
              have hfo := firstOpen_any F S1.K vn hvn4 wo hS1.fat.cells.kn
              have hov1 := openF_ge S1.K vn 1
              have hov2 := openF_le S1.K vn 1
              obtain ⟨v, hv⟩ : ∃ v, v = openV S1.K vn := ⟨_, rfl⟩
              rw [← hv] at hfo
              have hv1 : 1 ≤ v := by rw [hv]; exact hov1
              have hv2 : v ≤ 1 + vn := by rw [hv]; exact hov2
              have hvK : v ≤ vn → S1.K v = 0 := fun h => by
                rw [hv]
                exact openF_at S1.K vn 1 (by show openV S1.K vn < _; rw [← hv]; omega)
              have HFO := hide hfo
              have HOP := hide (show v = openV (upK cs (litsOf r1).reverse) vn from hv.trans hop)
              clear hfo hov1 hov2 hv hop hup
              by_cases hyes : vn < v
              · have hyi : (vn : Int) < (v : Int) := by omega
                have HE := hide (show R = (1, modelK S1.K vn, []) by
                  rw [← hT1, top_yes (by omega) hncf (by rw [← unhide HOP]; exact hyes), hmod])
                have HMD := hide (model_any F S1.K vn hvn4 wo yF hS1.fat.cells.kn)
                have HB := hide hS1.bel
                clear hS1 hI1 ha1 hW1 hL1 hG1 hl1 hT1 hncf hmod hvK hgl HCAN
                go_wp2_with fail
                refine (unhide HFO).mono ?_
                rintro e w8 ⟨rfl, hww⟩
                have hww := hww.symm
                subst hww
                clear HFO
                go_wp2_with fail
                refine (unhide HMD).mono ?_
                rintro e w9 ⟨⟨mv, rfl, hrow⟩, b9⟩
                have HB9 := hide ((unhide HB).trans (b9.mono (unhide HB).size))
                have HROW := hide (own_mono hrow (unhide HB).size)
                obtain ⟨ma, mc, hmv⟩ := own_shape hrow
                subst hmv
                clear hrow b9 HMD
                go_wp2_with fail
                refine bodyPost_ret (v := .tuple #[.int .i64 1, .slice ma vn mc, .slice none 0 0]) (by simp [results, Try.results13, go_sem]) rfl ⟨?_, unhide HB9⟩
                rw [← unhide HRZ, unhide HE]
                exact ⟨_, _, [], rfl, by rw [modelK_len]; exact unhide HROW, LstI.zero _ _⟩
              · have hyi : ¬ (vn : Int) < (v : Int) := by omega
                have hv3 : v ≤ vn := by omega
                by_cases hmm : made = mn
                · have HE := hide (show R = (3, [], []) by
                    rw [← hT1, top_long (by omega) hncf (by rw [← unhide HOP]; exact hyes) (by omega)])
                  have hmi : ((made : Int) == (mn : Int)) = true := by rw [beq_iff_eq]; omega
                  have HB := hide hS1.bel
                  clear hS1 hI1 ha1 hW1 hL1 hG1 hl1 hT1 hncf hmod hvK hgl HCAN
                  go_wp2_with fail
                  refine (unhide HFO).mono ?_
                  rintro e w8 ⟨rfl, hww⟩
                  have hww := hww.symm
                  subst hww
                  clear HFO
                  go_wp2_with fail
                  exact bodyPost_ret (v := .tuple #[.int .i64 3, .slice none 0 0, .slice none 0 0]) (by simp [results, Try.results13, go_sem]) rfl ⟨SatOut.none ((unhide HRZ).symm.trans (unhide HE)), unhide HB⟩
                · have hmi : ((made : Int) == (mn : Int)) = false := by rw [beq_eq_false_iff_ne]; omega
                  have hneg : IntKind.i64.wrap (-(v : Int)) = -(v : Int) := by rw [IntKind.wrap_i64]; omega
                  have hG2 : GoodC vn (-(v : Int) :: litsOf r1) := good_more hG1 hI1.trail (fun x hx => hL1 x (by rw [lits_rev]; exact List.mem_reverse.2 hx)) (by omega) hv3 (hvK hv3)
                  have hgl2 := hG2.len
                  have hTS : topC cs vn mn (-(v : Int) :: litsOf r1) (made + 1) P1 = R := by
                    rw [← hT1]
                    exact (top_step (by simp at hgl2; omega) hncf (unhide HOP) (by omega) (by omega) (by omega)).symm
                  have HCH := hide (choose_any vn hvn4 cs (cnf_nz (unhide HOK)) (by omega) fix w w.heap.size #[.int .i64 (vn : Int), .slice a cs.length cap] wo F rl1 S1 Vq1 r1 P1 hS1 (by rw [lits_len] at hgl; omega) hI1 ha1 hW1 hL1 (-(v : Int)) (by omega) (by omega) (by omega))
                  have HG2 := hide hG2
                  have HTS := hide hTS
                  have HL1 := hide hl1
                  clear hS1 hI1 ha1 hW1 hL1 hG1 hl1 hT1 hncf hmod hvK hgl HCAN hG2 hgl2 hTS
                  go_wp2_with fail
                  refine (unhide HFO).mono ?_
                  rintro e w8 ⟨rfl, hww⟩
                  have hww := hww.symm
                  subst hww
                  clear HFO
                  go_wp2_with fail
                  refine (unhide HCH).mono ?_
                  rintro e w9 ⟨rl9, S9, Vq9, d9, hd9, hS9, hI9, hor9⟩
                  have hl9 : litsOf (d9 :: r1) = -(v : Int) :: litsOf r1 := by rw [← hd9]; rfl
                  have hG9 : GoodC vn (litsOf (d9 :: r1)) := by rw [hl9]; exact unhide HG2
                  have hn9 : P1.length + wtS (litsOf (d9 :: r1)) ≤ 2 * (made + 1) := by
                    have h1 := unhide HL1
                    have h2 : wt1 (-(v : Int)) = 2 := by unfold wt1; rw [if_pos (by omega)]
                    rw [hl9, wtS_cons, h2]
                    omega
                  have hT9 : topC cs vn mn (litsOf (d9 :: r1)) (made + 1) P1 = R := by rw [hl9]; exact unhide HTS
                  obtain ⟨b9, rfl, HSN⟩ : ∃ b9, e = .returned (.bool b9) ∧ Hid (FindS vn cs mn (made + 1) R fix w w.heap.size #[.int .i64 (vn : Int), .slice a cs.length cap] F b9 w9) := by
                    rcases hor9 with ⟨rfl, ha9, hW9, hL9⟩ | ⟨rfl, hcf9⟩
                    · exact ⟨true, rfl, .inl ⟨rfl, rl9, S9, Vq9, d9 :: r1, P1, hS9, hI9, ha9, hW9, hL9, hG9, hn9, hT9⟩⟩
                    · refine ⟨false, rfl, .inr ⟨rfl, rl9, S9, Vq9, d9 :: r1, P1, hS9, fun _ => hI9, hG9, hn9, ?_⟩⟩
                      rw [← hT9]
                      have h1 := hG9.len
                      exact (top_conf (by omega) (by rw [← lits_rev]; exact confB_true hcf9)).symm
                  clear hd9 hS9 hI9 hor9 hl9 hG9 hn9 hT9 HCH
                  go_wp2_with fail
                  go_roundw
                  case rel => exact ⟨b9, made + 1, by omega, rfl, by go_num, HSN⟩
                  case measure => simp [intOf]; omega
            · have HTU := hide (turn_any vn hvn4 cs (cnf_nz (unhide HOK)) (by omega) mn made (by omega) R fix w w.heap.size #[.int .i64 (vn : Int), .slice a cs.length cap] wo F hturn)
              clear hturn HS
              go_wp2_with fail
              refine (unhide HTU).mono ?_
              rename_i wq
              rintro e wo (⟨rfl, hcan⟩ | ⟨rfl, rl1, S1, Vq1, P1, hS1, hE1⟩)
              · have HCAN := hide hcan
                clear hcan HTU
                obtain ⟨rl1, S1, Vq1, r1, P1, hS1, hI1, ha1, hW1, hL1, hG1, hl1, hT1⟩ := unhide HCAN
                have hup : ∀ v, v ≠ 0 → S1.K v = upK cs (litsOf r1).reverse v := fun v hv => by
                  rw [← lits_rev]
                  exact full_is (cnf_nz (unhide HOK)) hI1.trail.tri hI1.soundK (hI1.fullK hW1 hL1) v hv
                have hncf : confB cs (litsOf r1).reverse = false := by
                  rw [← lits_rev]
                  exact confB_false ((hI1.fullK hW1 hL1).fine (cnf_nz (unhide HOK)) (fun x hx => (hI1.trail.rng x (hL1 x hx)).1))
                have hop : openV S1.K vn = openV (upK cs (litsOf r1).reverse) vn := openF_same vn 1 (by omega) hup
                have hmod : modelK S1.K vn = modelK (upK cs (litsOf r1).reverse) vn := by
                  unfold modelK
                  refine List.map_congr_left fun i _ => ?_
                  rw [hup (i + 1) (by omega)]
                have hgl := hG1.len
                have y0 : wo.cell? ⟨w.heap.size, 0, none⟩ = some (.int .i64 (vn : Int)) := by rw [cell_of_row wo _ 0 _ _ _ hS1.box.1]; rfl
                have yF := hS1.fat.lt
                have hfo := firstOpen_any F S1.K vn hvn4 wo hS1.fat.cells.kn
                have hov1 := openF_ge S1.K vn 1
                have hov2 := openF_le S1.K vn 1
                obtain ⟨v, hv⟩ : ∃ v, v = openV S1.K vn := ⟨_, rfl⟩
                rw [← hv] at hfo
                have hv1 : 1 ≤ v := by rw [hv]; exact hov1
                have hv2 : v ≤ 1 + vn := by rw [hv]; exact hov2
                have hvK : v ≤ vn → S1.K v = 0 := fun h => by
                  rw [hv]
                  exact openF_at S1.K vn 1 (by show openV S1.K vn < _; rw [← hv]; omega)
                have HFO := hide hfo
                have HOP := hide (show v = openV (upK cs (litsOf r1).reverse) vn from hv.trans hop)
                clear hfo hov1 hov2 hv hop hup
                by_cases hyes : vn < v
                · have hyi : (vn : Int) < (v : Int) := by omega
                  have HE := hide (show R = (1, modelK S1.K vn, []) by
                    rw [← hT1, top_yes (by omega) hncf (by rw [← unhide HOP]; exact hyes), hmod])
                  have HMD := hide (model_any F S1.K vn hvn4 wo yF hS1.fat.cells.kn)
                  have HB := hide hS1.bel
                  clear hS1 hI1 ha1 hW1 hL1 hG1 hl1 hT1 hncf hmod hvK hgl HCAN
                  go_wp2_with fail
                  refine (unhide HFO).mono ?_
                  rintro e w8 ⟨rfl, hww⟩
                  have hww := hww.symm
                  subst hww
                  clear HFO
                  go_wp2_with fail
                  refine (unhide HMD).mono ?_
                  rintro e w9 ⟨⟨mv, rfl, hrow⟩, b9⟩
                  have HB9 := hide ((unhide HB).trans (b9.mono (unhide HB).size))
                  have HROW := hide (own_mono hrow (unhide HB).size)
                  obtain ⟨ma, mc, hmv⟩ := own_shape hrow
                  subst hmv
                  clear hrow b9 HMD
                  go_wp2_with fail
                  refine bodyPost_ret (v := .tuple #[.int .i64 1, .slice ma vn mc, .slice none 0 0]) (by simp [results, Try.results13, go_sem]) rfl ⟨?_, unhide HB9⟩
                  rw [← unhide HRZ, unhide HE]
                  exact ⟨_, _, [], rfl, by rw [modelK_len]; exact unhide HROW, LstI.zero _ _⟩
                · have hyi : ¬ (vn : Int) < (v : Int) := by omega
                  have hv3 : v ≤ vn := by omega
                  by_cases hmm : made = mn
                  · have HE := hide (show R = (3, [], []) by
                      rw [← hT1, top_long (by omega) hncf (by rw [← unhide HOP]; exact hyes) (by omega)])
                    have hmi : ((made : Int) == (mn : Int)) = true := by rw [beq_iff_eq]; omega
                    have HB := hide hS1.bel
                    clear hS1 hI1 ha1 hW1 hL1 hG1 hl1 hT1 hncf hmod hvK hgl HCAN
                    go_wp2_with fail
                    refine (unhide HFO).mono ?_
                    rintro e w8 ⟨rfl, hww⟩
                    have hww := hww.symm
                    subst hww
                    clear HFO
                    go_wp2_with fail
                    exact bodyPost_ret (v := .tuple #[.int .i64 3, .slice none 0 0, .slice none 0 0]) (by simp [results, Try.results13, go_sem]) rfl ⟨SatOut.none ((unhide HRZ).symm.trans (unhide HE)), unhide HB⟩
                  · have hmi : ((made : Int) == (mn : Int)) = false := by rw [beq_eq_false_iff_ne]; omega
                    have hneg : IntKind.i64.wrap (-(v : Int)) = -(v : Int) := by rw [IntKind.wrap_i64]; omega
                    have hG2 : GoodC vn (-(v : Int) :: litsOf r1) := good_more hG1 hI1.trail (fun x hx => hL1 x (by rw [lits_rev]; exact List.mem_reverse.2 hx)) (by omega) hv3 (hvK hv3)
                    have hgl2 := hG2.len
                    have hTS : topC cs vn mn (-(v : Int) :: litsOf r1) (made + 1) P1 = R := by
                      rw [← hT1]
                      exact (top_step (by simp at hgl2; omega) hncf (unhide HOP) (by omega) (by omega) (by omega)).symm
                    have HCH := hide (choose_any vn hvn4 cs (cnf_nz (unhide HOK)) (by omega) fix w w.heap.size #[.int .i64 (vn : Int), .slice a cs.length cap] wo F rl1 S1 Vq1 r1 P1 hS1 (by rw [lits_len] at hgl; omega) hI1 ha1 hW1 hL1 (-(v : Int)) (by omega) (by omega) (by omega))
                    have HG2 := hide hG2
                    have HTS := hide hTS
                    have HL1 := hide hl1
                    clear hS1 hI1 ha1 hW1 hL1 hG1 hl1 hT1 hncf hmod hvK hgl HCAN hG2 hgl2 hTS
                    go_wp2_with fail
                    refine (unhide HFO).mono ?_
                    rintro e w8 ⟨rfl, hww⟩
                    have hww := hww.symm
                    subst hww
                    clear HFO
                    go_wp2_with fail
                    refine (unhide HCH).mono ?_
                    rintro e w9 ⟨rl9, S9, Vq9, d9, hd9, hS9, hI9, hor9⟩
                    have hl9 : litsOf (d9 :: r1) = -(v : Int) :: litsOf r1 := by rw [← hd9]; rfl
                    have hG9 : GoodC vn (litsOf (d9 :: r1)) := by rw [hl9]; exact unhide HG2
                    have hn9 : P1.length + wtS (litsOf (d9 :: r1)) ≤ 2 * (made + 1) := by
                      have h1 := unhide HL1
                      have h2 : wt1 (-(v : Int)) = 2 := by unfold wt1; rw [if_pos (by omega)]
                      rw [hl9, wtS_cons, h2]
                      omega
                    have hT9 : topC cs vn mn (litsOf (d9 :: r1)) (made + 1) P1 = R := by rw [hl9]; exact unhide HTS
                    obtain ⟨b9, rfl, HSN⟩ : ∃ b9, e = .returned (.bool b9) ∧ Hid (FindS vn cs mn (made + 1) R fix w w.heap.size #[.int .i64 (vn : Int), .slice a cs.length cap] F b9 w9) := by
                      rcases hor9 with ⟨rfl, ha9, hW9, hL9⟩ | ⟨rfl, hcf9⟩
                      · exact ⟨true, rfl, .inl ⟨rfl, rl9, S9, Vq9, d9 :: r1, P1, hS9, hI9, ha9, hW9, hL9, hG9, hn9, hT9⟩⟩
                      · refine ⟨false, rfl, .inr ⟨rfl, rl9, S9, Vq9, d9 :: r1, P1, hS9, fun _ => hI9, hG9, hn9, ?_⟩⟩
                        rw [← hT9]
                        have h1 := hG9.len
                        exact (top_conf (by omega) (by rw [← lits_rev]; exact confB_true hcf9)).symm
                    clear hd9 hS9 hI9 hor9 hl9 hG9 hn9 hT9 HCH
                    go_wp2_with fail
                    go_roundw
                    case rel => exact ⟨b9, made + 1, by omega, rfl, by go_num, HSN⟩
                    case measure => simp [intOf]; omega
              · obtain ⟨pv, vs, p1, p2, p3, p4⟩ := hS1.prf
                obtain ⟨pa, pc, hpv⟩ : ∃ pa pc, pv = .slice pa P1.length pc := own_shape p2.own
                subst hpv
                have HE := hide hE1
                have HB := hide hS1.bel
                have HP2 := hide p2
                have yF := hS1.fat.lt
                clear hS1 p2 p3 p4 hE1 HTU
                go_wp2_with fail
                go_quiet (fail)
                have bq : Below wo.heap.size wo (wo.drewN nq) := ((Drawn.refl wo).more nq).below _
                have HB2 := hide ((unhide HB).trans (bq.mono (unhide HB).size))
                have HP3 := hide ((unhide HP2).on bq)
                clear bq
                go_wp2_with fail
                refine bodyPost_ret (v := .tuple #[.int .i64 2, .slice none 0 0, .slice pa P1.length pc]) (by simp [results, Try.results13, go_sem]) rfl ⟨?_, unhide HB2⟩
                rw [← unhide HRZ, unhide HE]
                exact ⟨_, _, vs, rfl, World.ownsRow_nil _ _ _ _, unhide HP3⟩
end Go.Proofs.Ythkhaemlcmkkjar
