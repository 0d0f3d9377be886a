/- The specification's SatFind. -/
import Derived.Test.YthkhaemlcmkkjarGSe
import Derived.Test.YthkhaemlcmkkjarFSat
import Derived.Laws.AppendOwnNone
namespace Go.Proofs.Ythkhaemlcmkkjar
set_option linter.unusedVariables false
set_option linter.unusedSimpArgs false
open Go.RowKit Go.Deep Go.Sort

/-- An append of what a slice holds, nil or not. -/
theorem wpList_append_srcS {P : Program} {w : World} {ops : Array Oper} {rest : List Oper} {o : Oper} {a : Act} {Q : Exit → Act → World → Prop} (hgd : o.guard = none) (s x : Operand) (t : TypeId)
    (ho : o.op = .call { callee := .builtin .append, args := #[s, x], argTypes := #[t, t] })
    (base : Nat) (e : TypeId) (i : TypeInfo) (z : Value) (size bytes : Nat) (ht : P.underlying t = some (.slice e)) (hi : P.info? e = some i) (hz : i.zero = some z)
    (hsize : i.size = size) (hby : i.bytes = bytes) (hzs : z.cells.size = size) (hsz : 0 < size)
    (v : Value) (n : Nat) (xs : List Value) (hs : a.eval s = v) (hown : w.ownsRow base e size v n xs)
    (oa : Option Addr) (m c : Nat) (news : List Value) (hx : a.eval x = .slice oa m c) (hno : oa = none → m = 0 ∧ c = 0) (hl : news.length = m * size) (hnews : ∀ ad, oa = some ad → ∀ j u, news[j]? = some u → w.cell? (ad.add j) = some u) (h1 : ∀ u ∈ news, u.oneCell' = true)
    (h63 : n + m ≤ maxLen) (hbytes : (n + m) * bytes ≤ 140737488355328) (hbase : base ≤ w.heap.size)
    (h : ∀ v' w', w'.ownsRow base e size v' (n + m) (xs ++ news) → w.grownBy w' v.ownBlock → wpList P ops Q rest (a.put o.dst v') w') : wpList P ops Q (o :: rest) a w := by
  cases oa with
  | none =>
    obtain ⟨rfl, rfl⟩ := hno rfl
    have hn : news = [] := List.length_eq_zero_iff.1 (by rw [hl, Nat.zero_mul])
    subst hn
    refine wpList_append_own_none hgd s x t ho base e i size ht hi v n xs hs hown hx (h v w (by simpa using hown) ⟨rfl, rfl, rfl, Nat.le_refl _, fun _ _ _ => rfl⟩)
  | some ad => exact wpList_append_own w hgd s x t ho base e i z size bytes ht hi hz hsize hby hzs hsz v n xs hs hown ad m c news hx hl (hnews ad rfl) h1 h63 hbytes hbase (fun v' w' h2 h3 _ => h v' w' h2 h3)
theorem own_news {w : World} {B n : Nat} {e : TypeId} {oa : Option Addr} {c : Nat} {xs : List Value} (h : w.ownsRow B e 1 (.slice oa n c) n xs) : (oa = none → n = 0 ∧ c = 0) ∧ ∀ ad, oa = some ad → ∀ j u, xs[j]? = some u → w.cell? (ad.add j) = some u := by
  rcases h.2 with ⟨hv, h0⟩ | ⟨g, cap, cur, hv, _⟩
  · simp only [Value.slice.injEq] at hv
    obtain ⟨rfl, rfl, rfl⟩ := hv
    exact ⟨fun _ => ⟨rfl, rfl⟩, fun ad e => by cases e⟩
  · simp only [Value.slice.injEq] at hv
    obtain ⟨rfl, _, rfl⟩ := hv
    refine ⟨fun e => (by cases e), fun ad e j u hu => ?_⟩
    cases e
    exact World.ownsRow.cells h (g := g) rfl j u hu
theorem model_len {cs : List (List Int)} {vars most : Nat} : ∀ (k : Nat) (ch : List Int) (n : Nat), (findZ cs vars most k ch n).model.length ≤ vars ∧ ((findZ cs vars most k ch n).code ≠ 1 → (findZ cs vars most k ch n).model = [])
  | 0, ch, n => ⟨Nat.zero_le _, fun _ => rfl⟩
  | k + 1, ch, n => by
    cases hc : confB cs ch with
    | true => rw [find_conf hc]; exact ⟨Nat.zero_le _, fun _ => rfl⟩
    | false =>
      by_cases h1 : vars < openV (upK cs ch) vars
      · rw [find_yes hc h1]
        exact ⟨by simp [modelK], fun h => absurd rfl h⟩
      · by_cases h2 : most ≤ n
        · rw [find_long hc h1 h2]
          exact ⟨Nat.zero_le _, fun _ => rfl⟩
        · rw [find_step hc rfl h1 h2 rfl]
          split
          · split
            · exact ⟨Nat.zero_le _, fun _ => rfl⟩
            · exact model_len k _ _
          · exact model_len k _ _
theorem find_code {cs : List (List Int)} {vars most : Nat} : ∀ (k : Nat) (ch : List Int) (n : Nat), (findZ cs vars most k ch n).code = 1 ∨ (findZ cs vars most k ch n).code = 2 ∨ (findZ cs vars most k ch n).code = 3
  | 0, ch, n => .inr (.inr rfl)
  | k + 1, ch, n => by
    cases hc : confB cs ch with
    | true => rw [find_conf hc]; exact .inr (.inl rfl)
    | false =>
      by_cases h1 : vars < openV (upK cs ch) vars
      · rw [find_yes hc h1]; exact .inl rfl
      · by_cases h2 : most ≤ n
        · rw [find_long hc h1 h2]; exact .inr (.inr rfl)
        · rw [find_step hc rfl h1 h2 rfl]
          split
          · split
            · exact .inr (.inl rfl)
            · exact find_code k _ _
          · exact find_code k _ _

set_option maxRecDepth 100000 in
set_option maxHeartbeats 16000000 in
theorem specSatFind_any (vars : Int) (a : Option Addr) (cs : List (List Int)) (cap : Nat) (most : Int) (w : World) (h : ClsAt w a cs) :
    Calls Try.prog 12 #[.agg #[.int .i64 vars, .slice a cs.length cap], .int .i64 most] w fun e w' => SatOut w.heap.size w' (satZ vars cs most) e ∧ Below w.heap.size w w' := by
  obtain ⟨i1, hj, hy0, hy1, hy2⟩ := info_parts Try.infoIs
  obtain ⟨i2, hl, hx0, hx1, hx2⟩ := info_parts Try.infoBool
  obtain ⟨w1, hw1⟩ : ∃ w1, w1 = ((w.alloc (.cells #[.int .i64 vars, .slice a cs.length cap] 41)).alloc (.cells #[] 4)).alloc (.cells #[] 26) := ⟨_, rfl⟩
  have b1 : Below w.heap.size w w1 := by rw [hw1]; exact (((Below.refl _ _).alloc (Nat.le_refl _) _).alloc (by simp) _).alloc (by simp; omega) _
  have hbx : w1.heap[w.heap.size]? = some (.cells #[.int .i64 vars, .slice a cs.length cap] 41 (0, 0)) := by
    rw [hw1, Below.heap_alloc _ _ _ (by simp; omega), Below.heap_alloc _ _ _ (by simp)]
    exact blk_alloc_new _ _
  have x0 : w1.cell? ⟨w.heap.size, 0, none⟩ = some (.int .i64 vars) := by rw [cell_of_row w1 _ 0 _ _ _ hbx]; rfl
  have x1 : w1.cell? ⟨w.heap.size, 1, none⟩ = some (.slice a cs.length cap) := by rw [cell_of_row w1 _ 1 _ _ _ hbx]; rfl
  clear hbx
  have hm1 : w1.ownsRow w.heap.size 4 1 (.slice (some ⟨w.heap.size + 1, 0, none⟩) 0 0) 0 [] := by
    rw [hw1]
    have := World.ownsRow_made (base := w.heap.size) (e := 4) (size := 1) (w.alloc (.cells #[.int .i64 vars, .slice a cs.length cap] 41)) #[] 0 (by simp) (Nat.zero_le _) rfl
    simpa using this.alloc (.cells #[] 26)
  have hp1 : w1.ownsRow w.heap.size 26 1 (.slice (some ⟨w.heap.size + 1 + 1, 0, none⟩) 0 0) 0 [] := by
    rw [hw1]
    have := World.ownsRow_made (base := w.heap.size) (e := 26) (size := 1) ((w.alloc (.cells #[.int .i64 vars, .slice a cs.length cap] 41)).alloc (.cells #[] 4)) #[] 0 (by simp; omega) (Nat.zero_le _) rfl
    simpa using this
  have z1 : w.heap.size + 1 + 1 < w1.heap.size := by rw [hw1]; simp
  have HC := hide (specCnfOk_any vars a cs cap w1 (h.on b1))
  have HA := hide h
  have HW1 := hide hw1
  have HB1 := hide b1
  have HM1 := hide hm1
  have HP1 := hide hp1
  have UN : Hid (∀ (w' : World) (k : Int), Below w1.heap.size w1 w' → SatOut w.heap.size w' (k, [], []) (.returned (.tuple #[.int .i64 k, .slice (some ⟨w.heap.size + 1, 0, none⟩) 0 0, .slice (some ⟨w.heap.size + 1 + 1, 0, none⟩) 0 0]))) := fun w' k hb =>
    ⟨_, _, [], rfl, ownsRow_on hm1 hb, ⟨rfl, ownsRow_on hp1 hb, fun i hi => (by cases hi), fun i j _ hj => (by cases hj)⟩⟩
  clear h hw1 b1 hm1 hp1
  go_enter Try.func12, Try.ntmps12
  go_upto_region 3 with fail
  rw [← unhide HW1]
  clear HW1
  cases hok : cnfB vars cs with
  | false =>
    rw [hok] at HC
    have HE := hide (show satZ vars cs most = (9, [], []) by unfold satZ; rw [hok, Bool.false_and, if_neg (by decide)])
    go_wp2_with fail
    refine (unhide HC).mono ?_
    rintro e w2 ⟨rfl, b2⟩
    have HB2 := hide ((unhide HB1).trans (b2.mono (unhide HB1).size))
    have HR := hide (unhide UN w2 9 b2)
    clear b2 HC
    go_wp2_with fail
    exact bodyPost_ret (v := .tuple #[.int .i64 9, .slice (some ⟨w.heap.size + 1, 0, none⟩) 0 0, .slice (some ⟨w.heap.size + 1 + 1, 0, none⟩) 0 0]) (by simp [results, Try.results12, go_sem]) rfl ⟨by rw [unhide HE]; exact unhide HR, unhide HB2⟩
  | true =>
    rw [hok] at HC
    obtain ⟨hv0, hv1⟩ := cnf_vars hok
    have HOK := hide hok
    clear hok
    go_wp2_with fail
    refine (unhide HC).mono ?_
    rintro e w2 ⟨rfl, b2⟩
    have HB2 := hide ((unhide HB1).trans (b2.mono (unhide HB1).size))
    have HB12 := hide b2
    rw [← b2.cell (p := ⟨w.heap.size, _, none⟩) (by show w.heap.size < w1.heap.size; omega)] at x0 x1
    have z2 := Nat.lt_of_lt_of_le z1 b2.size
    clear b2 HC
    cases hmo : inB most 0 3000 with
    | false =>
      have HE := hide (show satZ vars cs most = (9, [], []) by unfold satZ; rw [hmo, Bool.and_false, if_neg (by decide)])
      have HMO := hide hmo
      have HR := hide (unhide UN w2 9 (unhide HB12))
      clear hmo
      go_wp2_with fail
      refine (l6In_any _ _ _ _).mono ?_
      rintro e w3 ⟨rfl, hww⟩
      have hww := hww.symm
      subst hww
      rw [unhide HMO]
      go_wp2_with fail
      exact bodyPost_ret (v := .tuple #[.int .i64 9, .slice (some ⟨w.heap.size + 1, 0, none⟩) 0 0, .slice (some ⟨w.heap.size + 1 + 1, 0, none⟩) 0 0]) (by simp [results, Try.results12, go_sem]) rfl ⟨by rw [unhide HE]; exact unhide HR, unhide HB2⟩
    | true =>
      have HMO := hide hmo
      have HUZ := hide (show satZ vars cs most = (findZ cs vars.toNat most.toNat 401 [] 0).fin by unfold satZ; rw [hmo, unhide HOK, Bool.and_self, if_pos rfl, top_nil])
      obtain ⟨vn, hvn⟩ : ∃ vn : Nat, vars = (vn : Int) := ⟨vars.toNat, by omega⟩
      have hmr : 0 ≤ most ∧ most ≤ 3000 := by simpa [inB] using hmo
      obtain ⟨mn, hmn⟩ : ∃ mn : Nat, most = (mn : Int) := ⟨most.toNat, by omega⟩
      subst hvn
      subst hmn
      have hmn3 : mn ≤ 3000 := by omega
      rw [Int.toNat_natCast, Int.toNat_natCast] at HUZ
      clear hmo hmr
      go_wp2_with fail
      refine (l6In_any _ _ _ _).mono ?_
      rintro e w3 ⟨rfl, hww⟩
      have hww := hww.symm
      subst hww
      rw [unhide HMO]
      go_upto_region 6 with fail
      obtain ⟨w3, hw3⟩ : ∃ w3, w3 = w2.alloc (.cells #[.int .i64 (vn : Int), .slice a cs.length cap, .int .i64 (mn : Int), .int .i64 0, .slice none 0 0, .slice none 0 0] 83) := ⟨_, rfl⟩
      have hbx3 : w3.heap[w2.heap.size]? = some (.cells #[.int .i64 (vn : Int), .slice a cs.length cap, .int .i64 (mn : Int), .int .i64 ((0 : Nat) : Int), .slice none 0 0, .slice none 0 0] 83 (0, 0)) := by rw [hw3]; exact blk_alloc_new _ _
      have b3 : Below w2.heap.size w2 w3 := by rw [hw3]; exact (Below.refl _ _).alloc (Nat.le_refl _) _
      rw [← hw3]
      have hz3 : w2.heap.size < w3.heap.size := by rw [hw3]; simp
      clear hw3
      have bA : Below w3.heap.size w3 (w3.alloc (.cells #[] 3)) := (Below.refl _ _).alloc (Nat.le_refl _) _
      have hFD : FdAt w2 w3 w2.heap.size vn (.slice a cs.length cap) mn 0 [] (.slice none 0 0) [] := ⟨b3, Nat.le_refl _, hbx3, LstI.zero _ _⟩
      have hownA : (w3.alloc (.cells #[] 3)).ownsRow w2.heap.size 3 1 (.slice (some ⟨w3.heap.size, 0, none⟩) ([] : List Int).length 0) ([] : List Int).length (iV []) := by
        have := World.ownsRow_made (base := w2.heap.size) (e := 3) (size := 1) w3 #[] 0 b3.size (Nat.zero_le _) rfl
        simpa [iV] using this
      have HFC := hide (find_any vn cs (unhide HOK) mn hmn3 w2 a cap ((unhide HA).on (unhide HB2)) w2.heap.size 401 [] rfl ⟨List.nodup_nil, fun x hx => by cases hx⟩ (w3.alloc (.cells #[] 3)) 0 (Nat.zero_le _) [] (.slice none 0 0) [] (Nat.le_refl _) (hFD.on bA) w3.heap.size 0 hownA)
      have HKA := hide ((unhide HB12).trans (b3.mono (unhide HB12).size))
      have hmd := (model_len (cs := cs) (vars := vn) (most := mn) 401 [] 0)
      have hcd := (find_code (cs := cs) (vars := vn) (most := mn) 401 [] 0)
      have hfl := (find_len (cs := cs) (vars := vn) (most := mn) 401 [] 0 (Nat.zero_le _))
      obtain ⟨R, hR⟩ : ∃ R, R = findZ cs vn mn 401 [] 0 := ⟨_, rfl⟩
      rw [← hR] at HFC HUZ hmd hcd hfl
      have HMD := hide hmd
      have HRE := hide hR
      have HFL := hide hfl
      have hvn4 : vn ≤ 400 := by omega
      have HGN := hide (show w.heap.size + 1 + 1 < w2.heap.size from z2)
      have HM2 := hide (ownsRow_on (unhide HM1) (unhide HB12))
      have HP2 := hide (ownsRow_on (unhide HP1) (unhide HB12))
      have hzA : w3.heap.size ≤ (w3.alloc (.cells #[] 3)).heap.size := bA.size
      obtain ⟨G, hG⟩ : ∃ G, G = w2.heap.size := ⟨_, rfl⟩
      rw [← hG] at HFC ⊢
      have hGl : w.heap.size + 1 + 1 < G := by omega
      clear hbx3 b3 bA hFD hownA hmd hfl hR hG
      go_wp2_with fail
      refine (unhide HFC).mono ?_
      rintro e w4 ⟨rfl, hor⟩
      -- what was there ahead of the search is there
      rcases hor with ⟨hc2, pv, vs, hF4, hK4, hp4⟩ | ⟨hc2, hb4, hz4, y0, y1, y2, y3, y4, mv, hbx4, hm4⟩
      · have hlen := unhide HFL hc2
        have hpl : ([] ++ R.proof).length ≤ 6001 := by rw [List.nil_append]; omega
        have hb24 := hF4.bel
        have hbel := (unhide HB2).trans (hb24.mono (unhide HB2).size)
        have hm5 := ownsRow_on (unhide HM2) hb24
        have hp5 := ownsRow_on (unhide HP2) hb24
        have p4c := hF4.cell 4
        simp only [List.getElem?_toArray, List.getElem?_cons_zero, List.getElem?_cons_succ] at p4c
        have hprf := hF4.prf
        rw [List.nil_append] at hprf hpl
        obtain ⟨pa, pc, hpv⟩ := own_shape hprf.own
        subst hpv
        obtain ⟨hno, hnews⟩ := own_news hprf.own
        have hone : ∀ u ∈ vs, u.oneCell' = true := fun u hu => by
          obtain ⟨i, hi, he⟩ := List.mem_iff_getElem.1 hu
          have hi' : i < R.proof.length := by rw [← hprf.len]; exact hi
          obtain ⟨ra, rc, hr⟩ := own_shape (hprf.row i hi')
          rw [show vs.getD i undef = u by simp [List.getD, hi, he]] at hr
          rw [hr]
          rfl
        have hvl : vs.length = R.proof.length * 1 := by rw [hprf.len, Nat.mul_one]
        have HPRF := hide hprf
        have HP5 := hide hp5
        have HM5 := hide hm5
        have HBE := hide hbel
        have hbz := hbel.size
        have hcode : R.code = 2 := hc2
        have HRM := hide ((unhide HMD).2 (by rw [hc2]; decide))
        clear hF4 hK4 hp4 hm5 hprf hc2 hcd HFC hbel hb24
        rw [hcode]
        go_wp2_with (first
          | (at_builtin; refine wpList_append_srcS rfl _ _ 39 rfl w.heap.size 26 i1 (.slice none 0 0) 1 24 Try.underlying39 hj hy0 hy1 hy2 rfl (by decide) _ _ _ rfl (unhide HP5) pa R.proof.length pc vs rfl hno hvl hnews hone ?c1 ?c2 ?c3 ?_))
        case c1 => unfold maxLen; omega
        case c2 => omega
        case c3 => omega
        intro v' w5 hown' hgrow
        replace hown' : w5.ownsRow w.heap.size 26 1 v' R.proof.length vs := by first | exact hown' | simpa using hown'
        have hb5 : Below w.heap.size w w5 := by
          have h1 := unhide HBE
          refine ⟨hgrow.os.trans h1.os, hgrow.tape.trans h1.tape, hgrow.output.trans h1.output, Nat.le_trans h1.size hgrow.size, fun b hb => ?_⟩
          rw [hgrow.block b (by omega) (fun e => by simp only [Value.ownBlock, Option.some.injEq] at e; omega)]
          exact h1.block b hb
        have hl5 : LstI w.heap.size w5 v' R.proof vs := ⟨(unhide HPRF).len, hown', fun i hi => own_keptS (own_mono ((unhide HPRF).row i hi) (unhide HB2).size) (fun j e => by
          refine hgrow.block j (World.ownsRow.lt ((unhide HPRF).row i hi) j e).2 (fun e2 => ?_)
          obtain ⟨c1, h1⟩ := own_typeS ((unhide HPRF).row i hi) e
          obtain ⟨c2, h2⟩ := own_typeS hp5 (g := j) e2.symm
          rw [h1] at h2
          simp at h2), (unhide HPRF).apart⟩
        have hm6 : w5.ownsRow w.heap.size 4 1 (.slice (some ⟨w.heap.size + 1, 0, none⟩) 0 0) 0 [] := (unhide HM5).kept hgrow (.inr (by simp [Value.ownBlock]))
        obtain ⟨va, vc, hvv⟩ := own_shape hown'
        subst hvv
        have HL5 := hide hl5
        have HB5 := hide hb5
        have HM6 := hide hm6
        clear hown' hgrow hl5 hb5 hm6 hp5
        go_wp2_with fail
        refine bodyPost_ret (v := .tuple #[.int .i64 2, .slice (some ⟨w.heap.size + 1, 0, none⟩) 0 0, .slice va R.proof.length vc]) (by simp [results, Try.results12, go_sem]) rfl ⟨?_, unhide HB5⟩
        rw [unhide HUZ]
        unfold FindR.fin
        rw [hcode, unhide HRM]
        exact ⟨_, _, vs, rfl, unhide HM6, unhide HL5⟩
      · have hbel := (unhide HB2).trans (hb4.mono (unhide HB2).size)
        have hm5 := ownsRow_on (unhide HM2) hb4
        have hp5 := ownsRow_on (unhide HP2) hb4
        have y5 : w4.cell? ⟨G, 5, none⟩ = some mv := by rw [cell_of_row w4 G 5 _ _ _ hbx4]; rfl
        have HBE := hide hbel
        have HM5 := hide hm5
        have HP5 := hide hp5
        have hbz := hbel.size
        have hfin : ∀ k : Int, R.code = k → satZ (vn : Int) cs (mn : Int) = (k, R.model, R.proof) := fun k e => by rw [unhide HUZ]; unfold FindR.fin; rw [e]
        have HFIN := hide hfin
        have HPR := hide (show R.proof = [] by
          have h1 := find_proof (cs := cs) (vars := vn) (most := mn) 401 [] 0
          rw [← unhide HRE] at h1
          exact h1 hc2)
        rcases hcd with hcode | hcode | hcode
        · obtain ⟨ma, mc, hmv⟩ := own_shape hm4
          subst hmv
          obtain ⟨hno, hnews⟩ := own_news hm4
          have hone : ∀ u ∈ bV R.model, u.oneCell' = true := fun u hu => by
            unfold bV at hu
            obtain ⟨y, _, rfl⟩ := List.mem_map.1 hu
            rfl
          have hvl : (bV R.model).length = R.model.length * 1 := by rw [bV_len, Nat.mul_one]
          have hml := (unhide HMD).1
          clear hbx4 hm4 hb4 hc2 hbel hm5 hfin HFC hp5
          rw [hcode]
          go_wp2_with (first
            | (at_builtin; refine wpList_append_srcS rfl _ _ 44 rfl w.heap.size 4 i2 (.bool false) 1 1 Try.underlying44 hl hx0 hx1 hx2 rfl (by decide) _ _ _ rfl (unhide HM5) ma R.model.length mc (bV R.model) rfl hno hvl hnews hone ?e1 ?e2 ?e3 ?_))
          case e1 => unfold maxLen; omega
          case e2 => omega
          case e3 => omega
          intro v' w5 hown' hgrow
          replace hown' : w5.ownsRow w.heap.size 4 1 v' R.model.length (bV R.model) := by first | exact hown' | simpa using hown'
          have hb5 : Below w.heap.size w w5 := by
            have h1 := unhide HBE
            refine ⟨hgrow.os.trans h1.os, hgrow.tape.trans h1.tape, hgrow.output.trans h1.output, Nat.le_trans h1.size hgrow.size, fun b hb => ?_⟩
            rw [hgrow.block b (by omega) (fun e => by simp only [Value.ownBlock, Option.some.injEq] at e; omega)]
            exact h1.block b hb
          have hp6 : w5.ownsRow w.heap.size 26 1 (.slice (some ⟨w.heap.size + 1 + 1, 0, none⟩) 0 0) 0 [] := (unhide HP5).kept hgrow (.inr (by simp [Value.ownBlock]))
          obtain ⟨va, vc, hvv⟩ := own_shape hown'
          subst hvv
          have HO5 := hide hown'
          have HB5 := hide hb5
          have HP6 := hide hp6
          have HCO := hide hcode
          clear hown' hgrow hb5 hp6 hcode
          go_wp2_with fail
          refine bodyPost_ret (v := .tuple #[.int .i64 1, .slice va R.model.length vc, .slice (some ⟨w.heap.size + 1 + 1, 0, none⟩) 0 0]) (by simp [results, Try.results12, go_sem]) rfl ⟨?_, unhide HB5⟩
          rw [unhide HFIN 1 (unhide HCO), unhide HPR]
          exact ⟨_, _, [], rfl, unhide HO5, ⟨rfl, unhide HP6, fun i hi => (by cases hi), fun i j _ hj => (by cases hj)⟩⟩
        · exact absurd hcode hc2
        · have HCO := hide hcode
          have HMM := hide ((unhide HMD).2 (by rw [hcode]; decide))
          rw [hcode]
          clear hbx4 hm4 hb4 hc2 hbel hm5 hfin HFC hp5 hcode
          go_wp2_with fail
          refine bodyPost_ret (v := .tuple #[.int .i64 3, .slice (some ⟨w.heap.size + 1, 0, none⟩) 0 0, .slice (some ⟨w.heap.size + 1 + 1, 0, none⟩) 0 0]) (by simp [results, Try.results12, go_sem]) rfl ⟨?_, unhide HBE⟩
          rw [unhide HFIN 3 (unhide HCO), unhide HPR, unhide HMM]
          exact ⟨_, _, [], rfl, unhide HM5, ⟨rfl, unhide HP5, fun i hi => (by cases hi), fun i j _ hj => (by cases hj)⟩⟩
end Go.Proofs.Ythkhaemlcmkkjar
