/- The specification's SatProof. -/
import Derived.Test.YthkhaemlcmkkjarSuG
import Derived.Test.YthkhaemlcmkkjarGSu
import Derived.Test.YthkhaemlcmkkjarFPrf
import Derived.Test.YthkhaemlcmkkjarGReg
import Derived.Test.YthkhaemlcmkkjarGSpecP
namespace Go.Proofs.Ythkhaemlcmkkjar
set_option linter.unusedVariables false
set_option linter.unusedSimpArgs false
open Go.RowKit Go.Deep Go.Sort

/-- Clauses in a list of its own, their rows in memory that is read alone. -/
structure AllS (B : Nat) (w0 w : World) (v : Value) (l : List (List Int)) (vs : List Value) : Prop where
  own : w.ownsRow B 26 1 v l.length vs
  len : vs.length = l.length
  row : ∀ i, i < l.length → ∃ a c, vs.getD i undef = .slice a (l.getD i []).length c ∧ SetAt w0 a (l.getD i [])
theorem AllS.cls {B : Nat} {w0 w : World} {a : Option Addr} {n c : Nat} {l : List (List Int)} {vs : List Value} (h : AllS B w0 w (.slice a n c) l vs) (hb : Below w0.heap.size w0 w) (hl : l.length ≤ 1048576) : ClsAt w a l := by
  refine ⟨hl, ?_⟩
  rcases h.own.2 with ⟨_, h0⟩ | ⟨g, cap, cur, hv, hB, hbk, hnc, hcm, hsz, htk⟩
  · exact .inl (List.length_eq_zero_iff.1 h0)
  · simp only [Value.slice.injEq] at hv
    obtain ⟨rfl, rfl, rfl⟩ := hv
    refine .inr ⟨g, 0, rfl, (Array.getElem?_eq_some_iff.1 hbk).1, fun i hi => ?_⟩
    obtain ⟨a', c', e, hs⟩ := h.row i hi
    refine ⟨a', c', ?_, hs.on hb⟩
    have hiv : i < vs.length := by rw [h.len]; exact hi
    rw [Nat.zero_add, h.own.cellAt i (by omega), ← e]
    simp [List.getD, hiv]
theorem AllS.snoc {B : Nat} {w0 w w' : World} {v v' : Value} {l : List (List Int)} {vs : List Value} (h : AllS B w0 w v l vs) {a : Option Addr} {c : List Int} {k : Nat} (hs : SetAt w0 a c) (ho : w'.ownsRow B 26 1 v' (l.length + 1) (vs ++ [.slice a c.length k])) : AllS B w0 w' v' (l ++ [c]) (vs ++ [.slice a c.length k]) := by
  refine ⟨by rw [List.length_append, List.length_singleton]; exact ho, by simp [h.len], fun i hi => ?_⟩
  by_cases hlt : i < l.length
  · obtain ⟨a', c', e, hs'⟩ := h.row i hlt
    refine ⟨a', c', ?_, ?_⟩
    · rw [show (l ++ [c]).getD i [] = l.getD i [] by simp [List.getD, List.getElem?_append, hlt], ← e]
      simp [List.getD, List.getElem?_append, show i < vs.length by rw [h.len]; exact hlt]
    · rw [show (l ++ [c]).getD i [] = l.getD i [] by simp [List.getD, List.getElem?_append, hlt]]
      exact hs'
  · have hie : i = l.length := by simp at hi; omega
    subst hie
    refine ⟨a, k, ?_, ?_⟩
    · rw [show (l ++ [c]).getD l.length [] = c by simp [List.getD], ← h.len]
      simp [List.getD]
    · rw [show (l ++ [c]).getD l.length [] = c by simp [List.getD]]
      exact hs
theorem cls_vals {w : World} {a : Option Addr} {l : List (List Int)} (h : ClsAt w a l) : ∃ vs : List Value, vs.length = l.length ∧ (∀ ad, a = some ad → ∀ j u, vs[j]? = some u → w.cell? (ad.add j) = some u) ∧ ∀ i, i < l.length → ∃ a' c, vs.getD i undef = .slice a' (l.getD i []).length c ∧ SetAt w a' (l.getD i []) := by
  rcases h.2 with h0 | ⟨b, o, ha, hb, hc⟩
  · subst h0
    exact ⟨[], rfl, fun ad _ j u hj => (by simp at hj), fun i hi => (by simp at hi)⟩
  · refine ⟨(List.range l.length).map fun i => (w.cell? ⟨b, o + i, none⟩).getD undef, by simp, fun ad e j u hj => ?_, fun i hi => ?_⟩
    · rw [ha] at e
      simp only [Option.some.injEq] at e
      subst e
      rw [List.getElem?_map] at hj
      obtain ⟨i, hi, e⟩ := Option.map_eq_some_iff.1 hj
      have hjl : j < l.length := by have := (List.getElem?_eq_some_iff.1 hi).1; simpa using this
      have hij : i = j := by rw [List.getElem?_range hjl] at hi; simpa using hi.symm
      subst hij
      obtain ⟨a', c, h1, _⟩ := hc i hjl
      rw [show (⟨b, o, none⟩ : Addr).add i = ⟨b, o + i, none⟩ by simp [Addr.add], h1, ← e, h1]
      rfl
    · obtain ⟨a', c, h1, h2⟩ := hc i hi
      exact ⟨a', c, by simp [List.getD, hi, h1], h2⟩

set_option maxRecDepth 100000 in
set_option maxHeartbeats 16000000 in
theorem specSatProof_any (vars : Int) (a : Option Addr) (cs : List (List Int)) (cap : Nat) (hac : a = none → cap = 0) (pa : Option Addr) (ps : List (List Int)) (pc : Nat) (w : World) (h : ClsAt w a cs) (hp : ClsAt w pa ps) :
    Calls Try.prog 18 #[.agg #[.int .i64 vars, .slice a cs.length cap], .slice pa ps.length pc] w fun e w' => e = .returned (.bool (proofZ vars cs ps)) ∧ Below w.heap.size w w' := by
  obtain ⟨i0, hi, hz0, hz1, hz2⟩ := info_parts Try.infoI
  obtain ⟨i1, hj, hy0, hy1, hy2⟩ := info_parts Try.infoIs
  have b1 := (Below.refl w.heap.size w).alloc (Nat.le_refl _) (.cells #[.int .i64 vars, .slice a cs.length cap] 41)
  have HC := hide (specCnfOk_any vars a cs cap _ (h.on b1))
  have HA := hide h
  have HP := hide hp
  have hpl := hp.1
  have hclen := h.1
  clear h hp
  go_enter Try.func18, Try.ntmps18
  go_upto_region 1 with fail
  obtain ⟨w1, hw1⟩ : ∃ w1, w1 = w.alloc (.cells #[.int .i64 vars, .slice a cs.length cap] 41) := ⟨_, rfl⟩
  have x0 : w1.cell? ⟨w.heap.size, 0, none⟩ = some (.int .i64 vars) := by rw [hw1]; simp
  have x1 : w1.cell? ⟨w.heap.size, 1, none⟩ = some (.slice a cs.length cap) := by rw [hw1]; simp
  have z1 : w.heap.size < w1.heap.size := by rw [hw1]; simp
  rw [← hw1] at b1 HC ⊢
  clear hw1
  cases hok : cnfB vars cs with
  | false =>
    rw [hok] at HC
    have HE := hide (show proofZ vars cs ps = false by unfold proofZ; rw [hok, Bool.false_and])
    have HB1 := hide b1
    clear b1
    go_wp2_with fail
    refine (unhide HC).mono ?_
    rintro e w2 ⟨rfl, b2⟩
    have HB2 := hide ((unhide HB1).trans (b2.mono (unhide HB1).size))
    clear b2 HC
    go_wp2_with fail
    go_ret
    exact ⟨by rw [unhide HE]; rfl, unhide HB2⟩
  | true =>
    rw [hok] at HC
    obtain ⟨hv0, hv1⟩ := cnf_vars hok
    have hcl : cs.length ≤ 6000 := by
      have := hok
      simp only [cnfB, Bool.and_eq_true, decide_eq_true_eq] at this
      exact this.2.1
    have HB1 := hide b1
    have HOK := hide hok
    clear b1 hok
    by_cases hn0 : ps.length < 1
    · have hn0' : (ps.length : Int) < 1 := by omega
      have HE := hide (show proofZ vars cs ps = false by unfold proofZ; rw [decide_eq_false (by omega)]; simp)
      go_wp2_with fail
      refine (unhide HC).mono ?_
      rintro e w2 ⟨rfl, b2⟩
      have HB2 := hide ((unhide HB1).trans (b2.mono (unhide HB1).size))
      clear b2 HC
      go_wp2_with fail
      go_ret
      exact ⟨by rw [unhide HE]; rfl, unhide HB2⟩
    have hn0' : ¬ (ps.length : Int) < 1 := by omega
    by_cases hn6 : 6001 < ps.length
    · have hn6' : (6001 : Int) < (ps.length : Int) := by omega
      have HE := hide (show proofZ vars cs ps = false by unfold proofZ; rw [decide_eq_false (by omega)]; simp)
      go_wp2_with fail
      refine (unhide HC).mono ?_
      rintro e w2 ⟨rfl, b2⟩
      have HB2 := hide ((unhide HB1).trans (b2.mono (unhide HB1).size))
      clear b2 HC
      go_wp2_with fail
      go_ret
      exact ⟨by rw [unhide HE]; rfl, unhide HB2⟩
    have hn6' : ¬ (6001 : Int) < (ps.length : Int) := by omega
    obtain ⟨n, hn⟩ : ∃ n, n = ps.length - 1 := ⟨_, rfl⟩
    have hwn : IntKind.i64.wrap ((ps.length : Int) - 1) = (n : Int) := by rw [IntKind.wrap_i64]; omega
    have jn : (n : Int) < (ps.length : Int) := by omega
    have jn0 : (0 : Int) ≤ (n : Int) := by omega
    have jnn : n < ps.length := by omega
    have HN := hide hn
    clear hn
    go_wp2_with fail
    refine (unhide HC).mono ?_
    rintro e w2 ⟨rfl, b2⟩
    have HB2 := hide ((unhide HB1).trans (b2.mono (unhide HB1).size))
    have HB12 := hide b2
    rw [← b2.cell (p := ⟨w.heap.size, _, none⟩) z1] at x0 x1
    have z2 := Nat.lt_of_lt_of_le z1 b2.size
    obtain ⟨pb, po, pa', pc', rfl, c0, hq⟩ := cls_cell (unhide HP) (unhide HB2) (k := n) jnn
    have HEQ := hide (show proofZ vars cs ps = (decide ((ps.getD n []).length = 0) && (ps.all (litsB vars) && refB cs ps)) by
      unfold proofZ
      rw [unhide HOK, decide_eq_true (show 1 ≤ ps.length ∧ ps.length ≤ 6001 by omega), ← unhide HN, Bool.true_and, Bool.true_and]
      congr 1
      rw [decide_eq_decide, List.length_eq_zero_iff])
    generalize (ps.getD n []).length = z at c0 HEQ
    clear b2 HC HB1 z1 hq
    by_cases hz : 0 < z
    · have hz' : (0 : Int) < (z : Int) := by omega
      have HE := hide (show proofZ vars cs ps = false by rw [unhide HEQ, decide_eq_false (by omega), Bool.false_and])
      go_wp2_with fail
      go_ret
      exact ⟨by rw [unhide HE]; rfl, unhide HB2⟩
    have hz' : ¬ (0 : Int) < (z : Int) := by omega
    obtain ⟨vn, hvn⟩ : ∃ vn : Nat, vars = (vn : Int) := ⟨vars.toNat, by omega⟩
    subst hvn
    have hvn4 : vn ≤ 400 := by omega
    have HE := hide (show proofZ (vn : Int) cs ps = (ps.all (litsB (vn : Int)) && refB cs ps) by rw [unhide HEQ, decide_eq_true (by omega), Bool.true_and])
    obtain ⟨vs0, hvl, hvc, hvr⟩ := cls_vals (unhide HA)
    -- the copy of the clauses
    have bA : Below w2.heap.size w2 (w2.alloc (.cells #[] 26)) := (Below.refl _ _).alloc (Nat.le_refl _) _
    have hownA : (w2.alloc (.cells #[] 26)).ownsRow w2.heap.size 26 1 (.slice (some ⟨w2.heap.size, 0, none⟩) 0 0) 0 [] := by
      have := World.ownsRow_made (base := w2.heap.size) (e := 26) (size := 1) w2 #[] 0 (Nat.le_refl _) (Nat.zero_le _) rfl
      simpa using this
    have hno : a = none → cs.length = 0 ∧ cap = 0 := fun e => by
      refine ⟨?_, hac e⟩
      rcases (unhide HA).2 with h0 | ⟨b, o, ha, _⟩
      · rw [h0]; rfl
      · rw [e] at ha; cases ha
    have hnews : ∀ ad, a = some ad → ∀ j u, vs0[j]? = some u → (w2.alloc (.cells #[] 26)).cell? (ad.add j) = some u := fun ad e j u hju => by
      rcases (unhide HA).2 with h0 | ⟨b, o, ha, hb, _⟩
      · have : j < vs0.length := (List.getElem?_eq_some_iff.1 hju).1
        rw [hvl, h0] at this
        simp at this
      · rw [ha] at e
        simp only [Option.some.injEq] at e
        subst e
        have h1 := hvc _ ha j u hju
        rw [show (⟨b, o, none⟩ : Addr).add j = ⟨b, o + j, none⟩ by simp [Addr.add]] at h1 ⊢
        have b3 := (unhide HB2).trans (bA.mono (unhide HB2).size)
        rw [b3.cell (p := ⟨b, o + j, none⟩) hb]
        exact h1
    have hone : ∀ u ∈ vs0, u.oneCell' = true := fun u hu => by
      obtain ⟨i, hi', he⟩ := List.mem_iff_getElem.1 hu
      obtain ⟨a', c', e, _⟩ := hvr i (by rw [← hvl]; exact hi')
      rw [show vs0.getD i undef = u by simp [List.getD, hi', he]] at e
      rw [e]
      rfl
    have hvl1 : vs0.length = cs.length * 1 := by rw [hvl, Nat.mul_one]
    have HNW := hide hnews
    have HON := hide hone
    have HOA := hide hownA
    have HBA := hide bA
    have HVR := hide hvr
    have HNO := hide hno
    have HV1 := hide hvl1
    have hzA := bA.size
    clear hnews hone hownA bA hvr hvc hno hvl1
    go_wp2_with (first
      | (at_builtin; refine wpList_append_srcS rfl _ _ 39 rfl w2.heap.size 26 i1 (.slice none 0 0) 1 24 Try.underlying39 hj hy0 hy1 hy2 rfl (by decide) _ _ _ rfl (unhide HOA) a cs.length cap vs0 rfl (unhide HNO) (unhide HV1) (unhide HNW) (unhide HON) ?a1 ?a2 ?a3 ?_))
    case a1 => unfold maxLen; omega
    case a2 => omega
    case a3 => omega
    intro v3 w3 hown3 hgrow3
    replace hown3 : w3.ownsRow w2.heap.size 26 1 v3 cs.length vs0 := by first | exact hown3 | simpa using hown3
    have b3 : Below w2.heap.size w2 w3 := by
      have h1 := unhide HBA
      refine ⟨hgrow3.os.trans h1.os, hgrow3.tape.trans h1.tape, hgrow3.output.trans h1.output, Nat.le_trans h1.size hgrow3.size, fun b hb => ?_⟩
      rw [hgrow3.block b (by omega) (fun e => by simp only [Value.ownBlock, Option.some.injEq] at e; omega)]
      exact h1.block b hb
    have HS0 : Hid (∃ vs, AllS w2.heap.size w w3 v3 (cs ++ ps.take 0) vs) := ⟨vs0, by rw [List.take_zero, List.append_nil]; exact ⟨hown3, hvl, unhide HVR⟩⟩
    have HB3 := hide b3
    have hz23 := b3.size
    clear hown3 hgrow3 b3 HNW HON HOA HBA HVR HNO HV1
    go_wp2_with fail
    go_loopw [5, 6] (fun av kv wr => ∃ k : Nat, k ≤ ps.length ∧ kv = .int .i64 k ∧ Hid (∃ vs, AllS w2.heap.size w wr av (cs ++ ps.take k) vs) ∧ Hid (Below w2.heap.size w2 wr) ∧ Hid ((ps.take k).all (litsB (vn : Int)) = true ∧ refB cs (ps.take k) = true)) (fun _ kv _ => ps.length - (intOf kv).toNat)
    case atStart => exact ⟨0, Nat.zero_le _, rfl, HS0, HB3, by simp, by rw [List.take_zero]; rfl⟩
    case round =>
      rename World => wo
      obtain ⟨k, hk, rfl, HS, HB, HR⟩ := hrel
      have hbo := (unhide HB2).trans ((unhide HB).mono (unhide HB2).size)
      rw [← (unhide HB).cell (p := ⟨w.heap.size, _, none⟩) z2] at x0 x1
      by_cases hlt : k < ps.length
      · have j1 : (k : Int) < (ps.length : Int) := by omega
        have j0 : (0 : Int) ≤ (k : Int) := by omega
        obtain ⟨pb2, po2, ra, rc, hpe, c0, hq⟩ := cls_cell (unhide HP) hbo hlt
        simp only [Option.some.injEq, Addr.mk.injEq, and_true] at hpe
        obtain ⟨rfl, rfl⟩ := hpe
        have hmem := getD_mem (d := ([] : List Int)) hlt
        have hmid := refB_mid (cs := cs) hlt (unhide HR).2
        have happ := app_take (cs := cs) hlt
        have htak := take_more ps hlt
        generalize ps.getD k [] = c at c0 hq hmem hmid happ htak
        have HQ := hide hq
        have HMEM := hide hmem
        have HMID := hide hmid
        have HAPP := hide happ
        have HTAK := hide htak
        have HCL := hide (fun x (hx : Below wo.heap.size wo x) => l11Clause_any (vn : Int) hv0 hv1 ra c rc x ((hq.on hbo).on hx))
        have HBO := hide hbo
        have hzo := (unhide HB).size
        have hslo : w.heap.size < wo.heap.size := by omega
        have hplo : pb < w.heap.size := by
          rcases (unhide HP).2 with h0 | ⟨b, o, ha, hb, _⟩
          · rw [h0] at hlt; simp at hlt
          · simp only [Option.some.injEq, Addr.mk.injEq, and_true] at ha
            obtain ⟨rfl, rfl⟩ := ha
            exact hb
        have HX := hide (And.intro x0 (And.intro x1 c0))
        clear hq hmem hmid happ htak hbo
        go_upto_region 7 with fail
        refine wp_region_mix (k := 100) 7 [] [.pointer (some ⟨w.heap.size, 0, none⟩), .int .i64 (vn : Int), .slice (some ⟨pb, po, none⟩) ps.length pc, .int .i64 (k : Int), .pointer (some ⟨pb, po + k, none⟩), .slice ra c.length rc, .bool (litsB (vn : Int) c)] (C0 wo) (by kernel_rfl) (by kernel_rfl) (by kernel_rfl) (by kernel_rfl) (by kernel_rfl) (by kernel_rfl) ⟨(Below.refl _ _).drew⟩ ?_ ?_ ?_
        · intro full hfull ii oo hi' hns ho x fl us hC hb
          simp [putAll, slotOf, Act.put] at hfull
          subst hfull
          have bx := hC.below
          rw [← bx.cell (p := ⟨w.heap.size, _, none⟩) hslo] at x0
          rw [← bx.cell (p := ⟨pb, _, none⟩) (by show pb < wo.heap.size; omega)] at c0
          have hC0 := hC.on (b' := fl) (Below.refl _ _)
          match ii with
          | 0 => simp at ho; subst ho; simp [gwp, Region.wanted, yielded]; go_simp; first | done | exact hC0 | exact ⟨rfl, hC0⟩
          | 1 => simp at ho; subst ho; simp [gwp, Region.wanted, yielded]; go_simp; first | done | exact hC0 | exact ⟨rfl, hC0⟩
          | 2 => simp at ho; subst ho; simp [gwp, Region.wanted, yielded]; go_simp; first | done | exact hC0 | exact ⟨rfl, hC0⟩
          | 3 => simp at ho; subst ho; simp [gwp, Region.wanted, yielded]; go_simp; first | done | exact hC0 | exact ⟨rfl, hC0⟩
          | 4 => simp at ho; subst ho; simp [gwp, Region.wanted, yielded]; go_simp; first | done | exact hC0 | exact ⟨rfl, hC0⟩
          | 5 => simp at ho; subst ho; simp [gwp, Region.wanted, yielded]; go_simp; first | done | exact hC0 | exact ⟨rfl, hC0⟩
          | 6 =>
            simp at ho; subst ho; simp [gwp, Region.wanted, yielded]; go_simp
            refine (unhide HCL x bx).mono ?_
            rintro e w' ⟨rfl, rfl⟩
            go_simp
            first | done | exact hC0 | exact ⟨rfl, hC0⟩
          | ii + 7 => omega
        · intro full hfull us j hj'
          simp at hj'
        · intro full hfull us x hus hC
          simp [putAll, slotOf, Act.put] at hfull
          subst hfull
          match us, hus with
          | [], _ =>
          have bx := hC.below
          have HBX := hide ((unhide HB).trans (bx.mono hzo))
          have HSX := hide (show ∃ vs, AllS w2.heap.size w x u5 (cs ++ ps.take k) vs by
            obtain ⟨vs, h1⟩ := unhide HS
            exact ⟨vs, ownsRow_on h1.own bx, h1.len, h1.row⟩)
          rw [← bx.cell (p := ⟨w.heap.size, _, none⟩) hslo] at x0 x1
          rw [← bx.cell (p := ⟨pb, _, none⟩) (by show pb < wo.heap.size; omega)] at c0
          have hslx : w.heap.size < x.heap.size := by have := bx.size; omega
          clear hC bx HCL
          simp [putP]
          cases hlc : litsB (vn : Int) c with
          | false =>
            have HF := hide (show proofZ (vn : Int) cs ps = false by
              rw [unhide HE]
              have : ps.all (litsB (vn : Int)) = false := by
                cases e : ps.all (litsB (vn : Int)) with
                | false => rfl
                | true =>
                  have := List.all_eq_true.1 e c (unhide HMEM)
                  rw [hlc] at this
                  cases this
              rw [this, Bool.false_and])
            have HBF := hide ((unhide HB2).trans ((unhide HBX).mono (unhide HB2).size))
            go_wp2_with fail
            go_ret
            exact ⟨by rw [unhide HF]; rfl, unhide HBF⟩
          | true =>
            have HLC := hide hlc
            have hc4 : c.length ≤ 400 := by
              have := hlc
              simp only [litsB, Bool.and_eq_true, decide_eq_true_eq] at this
              exact this.1
            clear hlc
            go_upto_region 10 with fail
            obtain ⟨wn, hwn⟩ : ∃ wn, wn = x.alloc (.cells #[] 3) := ⟨_, rfl⟩
            have bn : Below x.heap.size x wn := by rw [hwn]; exact (Below.refl _ _).alloc (Nat.le_refl _) _
            have hownn : wn.ownsRow x.heap.size 3 1 (.slice (some ⟨x.heap.size, 0, none⟩) 0 0) 0 (iV ((noL c).take 0)) := by
              rw [hwn, List.take_zero]
              have := World.ownsRow_made (base := x.heap.size) (e := 3) (size := 1) x #[] 0 (Nat.le_refl _) (Nat.zero_le _) rfl
              simpa [iV] using this
            rw [← hwn]
            have HON := hide hownn
            have HBN := hide bn
            clear hwn hownn bn
            go_wp2_with fail
            go_loopw [7, 8] (fun cv kv wr => ∃ q : Nat, q ≤ c.length ∧ kv = .int .i64 q ∧ Hid (wr.ownsRow x.heap.size 3 1 cv q (iV ((noL c).take q))) ∧ Hid (Below x.heap.size x wr)) (fun _ kv _ => c.length - (intOf kv).toNat)
            case atStart => exact ⟨0, Nat.zero_le _, rfl, HON, HBN⟩
            case round =>
              rename World => wp
              obtain ⟨q, hql, rfl, HO, HBp⟩ := hrel
              have hbp := (unhide HB2).trans (((unhide HBX).trans ((unhide HBp).mono (unhide HBX).size)).mono (unhide HB2).size)
              have hpx : pb < x.heap.size := by omega
              have c0' := ((unhide HBp).cell (p := ⟨pb, po + k, none⟩) hpx).trans c0
              by_cases hlt2 : q < c.length
              · have q1 : (q : Int) < (c.length : Int) := by omega
                have q0 : (0 : Int) ≤ (q : Int) := by omega
                obtain ⟨cb, co, hra, hcc⟩ : ∃ cb co, ra = some ⟨cb, co, none⟩ ∧ wp.cell? ⟨cb, co + q, none⟩ = some (.int .i64 (c.getD q 0)) := by
                  rcases (unhide HQ).2 with h0 | ⟨b, o, ha, hb, hcl'⟩
                  · rw [h0] at hlt2; simp at hlt2
                  · exact ⟨b, o, ha, (hbp.cell (p := ⟨b, o + q, none⟩) hb).trans (hcl' q hlt2)⟩
                subst hra
                have hnt := no_take c hlt2
                have hyr := lits_in (unhide HLC) _ (getD_mem (d := (0 : Int)) hlt2)
                generalize c.getD q 0 = y at hcc hnt hyr
                have hneg : IntKind.i64.wrap (-y) = -y := by rw [IntKind.wrap_i64]; omega
                have hO1 := unhide HO
                obtain ⟨oa, oc, hov⟩ := own_shape hO1
                subst hov
                have HNT := hide hnt
                have HZB := hide (unhide HBp).size
                clear hnt hbp
                go_wp2_with (first
                  | (at_builtin; refine wpList_append_two rfl _ _ 26 rfl x.heap.size 3 i0 (.int .i64 0) 1 8 Try.underlying26 hi hz0 hz1 hz2 rfl (by decide) _ _ _ rfl (hO1.alloc _) ⟨wp.heap.size, 0, none⟩ 1 [.int .i64 (-y)] rfl rfl ?b1 ?b2 ?b3 ?b4 ?b5 ?_))
                try case b1 =>
                  intro j u hj
                  match j, hj with
                  | 0, hj => simp at hj; subst hj; simp [Addr.add]
                case b2 => first | (intro u hu; simp at hu; subst hu; rfl) | rfl | simp
                case b3 => first | (unfold maxLen; omega) | (unfold maxLen; simp; omega)
                case b4 => first | omega | (simp; omega)
                case b5 => have := unhide HZB; first | (simp; omega) | omega
                intro v' w5 hown' hgrow hfr
                have HO5 : Hid (w5.ownsRow x.heap.size 3 1 v' (q + 1) (iV ((noL c).take (q + 1)))) := by
                  show World.ownsRow _ _ _ _ _ _ _
                  rw [unhide HNT, iV_snoc]
                  exact hown'
                have HB5 : Hid (Below x.heap.size x w5) := by
                  have h1 := (unhide HBp).trans (((Below.refl wp.heap.size wp).alloc (Nat.le_refl _) (.cells #[.int .i64 (-y)] 3)).mono (unhide HBp).size)
                  refine ⟨hgrow.os.trans h1.os, hgrow.tape.trans h1.tape, hgrow.output.trans h1.output, Nat.le_trans h1.size hgrow.size, fun b hb => ?_⟩
                  rw [hgrow.block b (Nat.lt_of_lt_of_le hb h1.size) (fun e => ?_)]
                  · exact h1.block b hb
                  · have := (World.ownsRow.lt hO1 b e.symm).1
                    omega
                clear hown' hgrow hfr hO1 hcc c0'
                go_wp2_with fail
                go_roundw
                case rel => exact ⟨q + 1, by omega, by go_num, HO5, HB5⟩
                case measure => simp [intOf]; omega
              · have q1 : ¬ (q : Int) < (c.length : Int) := by omega
                have hqn : q = c.length := by omega
                subst hqn
                have hO1 := unhide HO
                rw [List.take_of_length_le (by simp [noL])] at hO1
                obtain ⟨oa, oc, hov⟩ := own_shape hO1
                subst hov
                have hnl : c.length = (noL c).length := by simp [noL]
                have hO2 : RowI x.heap.size wp (.slice oa (noL c).length oc) (noL c) := by
                  show World.ownsRow _ _ _ _ _ _ _
                  rw [← hnl]
                  exact hO1
                obtain ⟨oa', oc', hoe, hset⟩ := RowI.set hO2 (by rw [← hnl]; omega)
                simp only [Value.slice.injEq, true_and] at hoe
                obtain ⟨rfl, rfl⟩ := hoe
                have hzx := (unhide HBp).size
                have y0 := ((unhide HBp).cell (p := ⟨w.heap.size, 0, none⟩) hslx).trans x0
                have hrng : ∀ z, z ∈ noL c → z ≠ 0 ∧ -(vn : Int) ≤ z ∧ z ≤ vn := fun z hz => by
                  obtain ⟨y, hy, rfl⟩ := List.mem_map.1 hz
                  have := lits_in (unhide HLC) y hy
                  omega
                have HKN := hide (l11Known_any vn hvn4 oa (noL c) oc (by rw [← hnl]; omega) hrng wp hset)
                rw [← hnl] at HKN
                have HSP := hide (show ∃ vs, AllS w2.heap.size w wp u5 (cs ++ ps.take k) vs by
                  obtain ⟨vs, h1⟩ := unhide HSX
                  exact ⟨vs, ownsRow_on h1.own (unhide HBp), h1.len, h1.row⟩)
                have HBP := hide ((unhide HBX).trans ((unhide HBp).mono (unhide HBX).size))
                have HBW := hide hbp
                have hzp := (unhide HBP).size
                clear hO1 hO2 hset hnl HO hrng hbp
                go_wp2_with fail
                refine (unhide HKN).mono ?_
                rintro e w6 ⟨ok, K, rfl, hk6, b6, hl6⟩
                obtain ⟨g, hg⟩ : ∃ g, g = wp.heap.size := ⟨_, rfl⟩
                rw [← hg] at hk6 ⊢
                have hgw : wp.heap.size ≤ g := by omega
                have hbp6 := (unhide HBP).trans (b6.mono hzp)
                have hs6 : ∃ vs, AllS w2.heap.size w w6 u5 (cs ++ ps.take k) vs := by
                  obtain ⟨vs, h1⟩ := unhide HSP
                  exact ⟨vs, ownsRow_on h1.own b6, h1.len, h1.row⟩
                have c6 := (b6.cell (p := ⟨pb, po + k, none⟩) (by show pb < wp.heap.size; omega)).trans c0'
                have hz6 := b6.size
                cases ok with
                | false =>
                  have HCF := hide (hl6.conf (cs ++ ps.take k))
                  have HS6 := hide hs6
                  have HB6 := hide hbp6
                  clear hk6 b6 hl6 HKN hg hs6 hbp6
                  have hlenx : (cs ++ ps.take k).length = cs.length + k := by simp; omega
                  obtain ⟨vs8, h8⟩ := unhide HS6
                  obtain ⟨va8, vc8, hav8⟩ := own_shape h8.own
                  subst hav8
                  have hO8 := h8.own
                  rw [hlenx] at hO8
                  have H8 := hide h8
                  clear h8 hlenx
                  have HO8 := hide hO8
                  clear hO8
                  go_wp2_with (first
                    | (at_builtin; refine wpList_append_two rfl _ _ 39 rfl w2.heap.size 26 i1 (.slice none 0 0) 1 24 Try.underlying39 hj hy0 hy1 hy2 rfl (by decide) _ _ _ rfl ((unhide HO8).alloc _) ⟨w6.heap.size, 0, none⟩ 1 [.slice ra c.length rc] rfl rfl ?b1 ?b2 ?b3 ?b4 ?b5 ?_))
                  try case b1 =>
                    intro j u hj
                    match j, hj with
                    | 0, hj => simp at hj; subst hj; simp [Addr.add]
                  case b2 => first | (intro u hu; simp at hu; subst hu; rfl) | rfl | simp
                  case b3 => first | (unfold maxLen; omega) | (unfold maxLen; simp; omega)
                  case b4 => first | omega | (simp; omega)
                  case b5 => have := (unhide HB6).size; first | (simp; omega) | omega
                  intro v' w9 hown' hgrow hfr
                  have HS9 : Hid (∃ vs, AllS w2.heap.size w w9 v' (cs ++ ps.take (k + 1)) vs) := by
                    refine ⟨vs8 ++ [.slice ra c.length rc], ?_⟩
                    rw [unhide HAPP]
                    refine AllS.snoc (unhide H8) (unhide HQ) ?_
                    have hlenx : (cs ++ ps.take k).length = cs.length + k := by simp; omega
                    rw [hlenx]
                    exact hown'
                  have HB9 : Hid (Below w2.heap.size w2 w9) := by
                    have h1 := (unhide HB6).trans (((Below.refl w6.heap.size w6).alloc (Nat.le_refl _) (.cells #[.slice ra c.length rc] 26)).mono (unhide HB6).size)
                    refine ⟨hgrow.os.trans h1.os, hgrow.tape.trans h1.tape, hgrow.output.trans h1.output, Nat.le_trans h1.size hgrow.size, fun b hb => ?_⟩
                    rw [hgrow.block b (Nat.lt_of_lt_of_le hb h1.size) (fun e => ?_)]
                    · exact h1.block b hb
                    · have := (World.ownsRow.lt (unhide HO8) b e.symm).1
                      omega
                  clear hown' hgrow hfr
                  go_wp2_with fail
                  go_roundw
                  case rel => exact ⟨k + 1, by omega, by go_num, HS9, HB9, by rw [unhide HTAK, List.all_append, (unhide HR).1]; simp [unhide HLC], by rw [unhide HMID, confB_true (unhide HCF)]⟩
                  case measure => simp [intOf]; omega
                | true =>
                  have HS6 := hide hs6
                  have HB6 := hide hbp6
                  obtain ⟨va6, vc6, hav6⟩ : ∃ va vc, u5 = .slice va (cs ++ ps.take k).length vc := by
                    obtain ⟨vs, h1⟩ := hs6
                    exact own_shape h1.own
                  subst hav6
                  have hcls6 : ClsAt w6 va6 (cs ++ ps.take k) := by
                    obtain ⟨vs, h1⟩ := hs6
                    exact h1.cls ((unhide HB2).trans (hbp6.mono (unhide HB2).size)) (by simp; omega)
                  have hgl6 := hk6.lt (by omega)
                  have hlit : ∀ d, d ∈ cs ++ ps.take k → litsB (vn : Int) d = true := fun d hd => by
                    rcases List.mem_append.1 hd with hd | hd
                    · exact cnf_lits (unhide HOK) d hd
                    · exact List.all_eq_true.1 (unhide HR).1 d hd
                  have hnzl : NzC (cs ++ ps.take k) := fun d hd => lits_nz (hlit d hd)
                  have hnzc : NzL (noL c) := fun z hz => by
                    obtain ⟨y, hy, rfl⟩ := List.mem_map.1 hz
                    have := lits_in (unhide HLC) y hy
                    omega
                  obtain ⟨vs, h1⟩ := hs6
                  have hclP : ClsAt wp va6 (cs ++ ps.take k) := by
                    obtain ⟨vs, h1⟩ := unhide HSP
                    exact h1.cls (unhide HBW) (by simp; omega)
                  have HCL6 := hide (l11Close_any vn hvn4 (cs ++ ps.take k) (noL c) hlit (by simp; omega) wp w6 b6 va6 vc6 hclP g (vn + 1) hgw K hk6 (hl6.inv _))
                  have HNZ := hide (And.intro hnzl hnzc)
                  have HB66 := hide b6
                  have hlen6 : (cs ++ ps.take k).length = cs.length + k := by simp; omega
                  rw [hlen6] at HCL6
                  clear hk6 b6 hl6 HKN hg hbp6 hcls6 hlit hnzl hnzc h1 hclP hlen6
                  go_wp2_with fail
                  refine (unhide HCL6).mono ?_
                  rintro e w7 ⟨K7, hk7, hi7, hg7, hor⟩
                  have b7 : Below wp.heap.size wp w7 := (unhide HB66).trans (grownS_below hg7 hgw hz6)
                  clear HCL6
                  rcases hor with ⟨rfl, hfull⟩ | ⟨rfl, hcf⟩
                  · have HF := hide (show proofZ (vn : Int) cs ps = false by
                      rw [unhide HE, refB_head (k + 1) (by rw [unhide HMID, confB_false (hfull.fine (unhide HNZ).1 (unhide HNZ).2)]), Bool.and_false])
                    have HBF := hide ((unhide HB2).trans (((unhide HBP).trans (b7.mono hzp)).mono (unhide HB2).size))
                    clear hk7 hi7 hg7 b7 hfull
                    go_wp2_with fail
                    go_ret
                    exact ⟨by rw [unhide HF]; rfl, unhide HBF⟩
                  · have HCF := hide hcf
                    have HS7 : Hid (∃ vs, AllS w2.heap.size w w7 (.slice va6 (cs ++ ps.take k).length vc6) (cs ++ ps.take k) vs) := by
                      obtain ⟨vs, h1⟩ := unhide HSP
                      exact ⟨vs, ownsRow_on h1.own b7, h1.len, h1.row⟩
                    have HB7 := hide ((unhide HBP).trans (b7.mono hzp))
                    have c7 := (b7.cell (p := ⟨pb, po + k, none⟩) (by show pb < wp.heap.size; omega)).trans c0'
                    clear hk7 hi7 hg7 b7 hcf
                    have hlenx : (cs ++ ps.take k).length = cs.length + k := by simp; omega
                    obtain ⟨vs8, h8⟩ := unhide HS7
                    obtain ⟨va8, vc8, hav8⟩ := own_shape h8.own
                    simp only [Value.slice.injEq, true_and] at hav8
                    obtain ⟨rfl, rfl⟩ := hav8
                    have hO8 := h8.own
                    rw [hlenx] at hO8
                    have H8 := hide h8
                    clear h8 hlenx
                    have HO8 := hide hO8
                    clear hO8
                    go_wp2_with (first
                      | (at_builtin; refine wpList_append_two rfl _ _ 39 rfl w2.heap.size 26 i1 (.slice none 0 0) 1 24 Try.underlying39 hj hy0 hy1 hy2 rfl (by decide) _ _ _ rfl ((unhide HO8).alloc _) ⟨w7.heap.size, 0, none⟩ 1 [.slice ra c.length rc] rfl rfl ?b1 ?b2 ?b3 ?b4 ?b5 ?_))
                    try case b1 =>
                      intro j u hj
                      match j, hj with
                      | 0, hj => simp at hj; subst hj; simp [Addr.add]
                    case b2 => first | (intro u hu; simp at hu; subst hu; rfl) | rfl | simp
                    case b3 => first | (unfold maxLen; omega) | (unfold maxLen; simp; omega)
                    case b4 => first | omega | (simp; omega)
                    case b5 => have := (unhide HB7).size; first | (simp; omega) | omega
                    intro v' w9 hown' hgrow hfr
                    have HS9 : Hid (∃ vs, AllS w2.heap.size w w9 v' (cs ++ ps.take (k + 1)) vs) := by
                      refine ⟨vs8 ++ [.slice ra c.length rc], ?_⟩
                      rw [unhide HAPP]
                      refine AllS.snoc (unhide H8) (unhide HQ) ?_
                      have hlenx : (cs ++ ps.take k).length = cs.length + k := by simp; omega
                      rw [hlenx]
                      exact hown'
                    have HB9 : Hid (Below w2.heap.size w2 w9) := by
                      have h1 := (unhide HB7).trans (((Below.refl w7.heap.size w7).alloc (Nat.le_refl _) (.cells #[.slice ra c.length rc] 26)).mono (unhide HB7).size)
                      refine ⟨hgrow.os.trans h1.os, hgrow.tape.trans h1.tape, hgrow.output.trans h1.output, Nat.le_trans h1.size hgrow.size, fun b hb => ?_⟩
                      rw [hgrow.block b (Nat.lt_of_lt_of_le hb h1.size) (fun e => ?_)]
                      · exact h1.block b hb
                      · have := (World.ownsRow.lt (unhide HO8) b e.symm).1
                        omega
                    clear hown' hgrow hfr
                    go_wp2_with fail
                    go_roundw
                    case rel => exact ⟨k + 1, by omega, by go_num, HS9, HB9, by rw [unhide HTAK, List.all_append, (unhide HR).1]; simp [unhide HLC], by rw [unhide HMID, confB_true (unhide HCF)]⟩
                    case measure => simp [intOf]; omega
      · have q1 : ¬ (k : Int) < (ps.length : Int) := by omega
        have hkn : k = ps.length := by omega
        subst hkn
        have HF := hide (show proofZ (vn : Int) cs ps = true by
          have := unhide HR
          rw [List.take_of_length_le (Nat.le_refl _)] at this
          rw [unhide HE, this.1, this.2]
          rfl)
        have HBF := hide hbo
        clear hbo
        go_wp2_with fail
        go_ret
        exact ⟨by rw [unhide HF]; rfl, unhide HBF⟩
end Go.Proofs.Ythkhaemlcmkkjar
