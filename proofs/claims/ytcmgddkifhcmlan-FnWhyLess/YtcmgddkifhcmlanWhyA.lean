/- The program's faults: what is wrong with a state. -/
import Derived.Test.YtcmgddkifhcmlanGPd
import Derived.Test.YtcmgddkifhcmlanGForm
import Derived.Test.YtcmgddkifhcmlanGSv
import Derived.Test.YtcmgddkifhcmlanGBit
import Derived.Test.YtcmgddkifhcmlanGMw
import Derived.Test.YtcmgddkifhcmlanSpF
import Derived.Laws.AppendOwnNone
namespace Go.Proofs.Ytcmgddkifhcmlan
set_option linter.unusedVariables false
set_option linter.unusedSimpArgs false
open Go.RowKit Go.Deep

theorem Try.infoWhy : (Try.prog.info? 36).map (fun i => (i.zero, i.size, i.bytes)) = some (some (.agg #[.int .i64 0, .int .i64 0, .int .i64 0]), 3, 24) := by kernel_rfl
/-- Faults in memory of their own. -/
def WR (B : Nat) (w : World) (v : Value) (ss : List StepD) : Prop := w.ownsRow B 36 3 v ss.length (stepVs ss)
theorem WR.nil (B : Nat) (w : World) : WR B w (.slice none 0 0) [] := World.ownsRow_nil _ _ _ _
theorem WR.slice {B : Nat} {w : World} {v : Value} {ss : List StepD} (h : WR B w v ss) : (v = .slice none 0 0 ∧ ss = []) ∨ ∃ g cap, v = .slice (some ⟨g, 0, none⟩) ss.length cap ∧ B ≤ g ∧ g < w.heap.size ∧ ∀ j u, (stepVs ss)[j]? = some u → w.cell? ((⟨g, 0, none⟩ : Addr).add j) = some u := by
  rcases h.2 with ⟨hv, h0⟩ | ⟨g, cap, cur, hv, hB, hc, hcap, hcm, hsz, hx⟩
  · exact Or.inl ⟨hv, List.length_eq_zero_iff.1 h0⟩
  · refine Or.inr ⟨g, cap, hv, hB, (Array.getElem?_eq_some_iff.1 hc).1, fun j u hj => ?_⟩
    rw [← hx, List.getElem?_take] at hj
    split at hj
    · have e : (⟨g, 0, none⟩ : Addr).add j = ⟨g, j, none⟩ := by simp [Addr.add]; omega
      rw [e]
      simp only [World.cell?, hc]
      simpa using hj
    · cases hj
theorem steps_one (ss : List StepD) : ∀ u ∈ stepVs ss, u.oneCell' = true := by
  intro u hu
  simp only [stepVs, List.mem_flatMap] at hu
  obtain ⟨s, _, hs⟩ := hu
  simp at hs
  rcases hs with rfl | rfl | rfl <;> rfl
theorem stepVs_app (a b : List StepD) : stepVs (a ++ b) = stepVs a ++ stepVs b := by simp [stepVs]
/-- Faults of one kind of a pack, with others. -/
def whysWith (kind p : Int) (qs : List Nat) : List StepD := qs.map fun q : Nat => (⟨kind, p, (q : Int)⟩ : StepD)
theorem whys_snoc {kind p : Int} {qs : List Nat} {k : Nat} (hk : k < qs.length) : whysWith kind p (qs.take (k + 1)) = whysWith kind p (qs.take k) ++ [⟨kind, p, (qs.getD k 0 : Nat)⟩] := by
  unfold whysWith
  rw [List.take_succ_eq_append_getElem hk, List.map_append]
  simp [List.getD, hk]

set_option maxHeartbeats 400000 in
theorem ahead_any (s p : Nat) (hs : s < 65536) (hp : p < 16) (w : World) :
    Calls Try.prog 60 #[.int .u64 (s : Int), .int .i64 (p : Int)] w fun e w' => e = .returned (.int .u64 ((s &&& (2 ^ p - 1) : Nat) : Int)) ∧ Below w.heap.size w w' := by
  have hps := pow_small p hp
  have hw := wr_pow p hp
  have hpos : 0 < 2 ^ p := Nat.pow_pos (by omega)
  have h := bits_and s (2 ^ p - 1) (by omega) (by omega)
  have h1 : IntKind.u64.wrap (((2 ^ p : Nat) : Int) - 1) = ((2 ^ p - 1 : Nat) : Int) := by rw [IntKind.wrap_u64]; omega
  generalize 2 ^ p = t at h hps hw h1 hpos
  generalize t - 1 = r at h h1
  go_enter Try.func60, Try.ntmps60
  go_wp2_with fail
  go_ret
  exact ⟨rfl, Below.refl _ _⟩

set_option maxRecDepth 100000 in
set_option maxHeartbeats 4000000 in
theorem faultsWith_any (kind p : Int) (o : Nat) (ho : o < 65536) (w : World) :
    Calls Try.prog 59 #[.int .i64 kind, .int .i64 p, .int .u64 (o : Int)] w fun e w' => (∃ v, e = .returned v ∧ WR w.heap.size w' v (whysWith kind p (placesTo o 8))) ∧ Below w.heap.size w w' := by
  obtain ⟨i0, hi, hz0, hz1, hz2⟩ := info_parts Try.infoWhy
  go_enter Try.func59, Try.ntmps59
  go_wp2_with fail
  refine (places_any o ho w).mono ?_
  rintro e w1 ⟨⟨pv, rfl, hpr⟩, b1⟩
  have hl8 := places_le o 8
  obtain ⟨qa, qc, hq⟩ : ∃ qa qc, pv = .slice qa (placesTo o 8).length qc := by
    rcases hpr.2 with ⟨hv, h0⟩ | ⟨g, cap, cur, hv, _⟩
    · exact ⟨none, 0, by rw [hv, h0]⟩
    · exact ⟨_, _, hv⟩
  subst hq
  have HP1 := hide hpr
  have HB1 := hide b1
  clear hpr b1
  generalize hps : placesTo o 8 = ps at HP1 hl8 ⊢
  have HPS := hide hps
  clear hps
  go_wp2_with fail
  go_loopw [7, 13] (fun v i wr => ∃ k : Nat, k ≤ ps.length ∧ i = .int .i64 k ∧ Hid (WR w.heap.size wr v (whysWith kind p (ps.take k))) ∧ Hid (wr.ownsRow w.heap.size 3 1 (.slice qa ps.length qc) ps.length (natVs ps)) ∧ Hid (Below w.heap.size w wr)) (fun _ i _ => ps.length - (intOf i).toNat)
  case atStart => exact ⟨0, Nat.zero_le _, rfl, WR.nil _ _, HP1, HB1⟩
  case round =>
    rename World => wo
    obtain ⟨k, hk, rfl, HO, HP, HB⟩ := hrel
    have hzb := (unhide HB).size
    by_cases hlt : k < ps.length
    · have j1 : (k : Int) < (ps.length : Int) := by omega
      have j0 : (0 : Int) ≤ (k : Int) := by omega
      obtain ⟨qa', qc', he, hpl⟩ := PlAt.of_row (unhide HP)
      simp at he
      obtain ⟨rfl, rfl⟩ := he
      rcases hpl with hpl | ⟨b, rfl, _, hpl⟩
      · rw [hpl] at hlt; simp at hlt
      have c0 := hpl k hlt
      have HSN := hide (whys_snoc (kind := kind) (p := p) hlt)
      have hlen : (whysWith kind p (ps.take k)).length ≤ 8 := by unfold whysWith; simp; omega
      generalize ps.getD k 0 = q at c0 HSN
      generalize whysWith kind p (ps.take k) = N at HO HSN hlen
      have hown := unhide HO
      unfold WR at hown
      clear hpl HO
      go_wp2_with (first
        | (at_builtin; refine wpList_append_own _ rfl _ _ 29 rfl w.heap.size 36 i0 (.agg #[.int .i64 0, .int .i64 0, .int .i64 0]) 3 24 Try.underlying29 hi hz0 hz1 hz2 rfl (by decide) _ _ _ rfl (hown.alloc _) ⟨wo.heap.size, 0, none⟩ 1 1 (stepVs [⟨kind, p, (q : Int)⟩]) rfl rfl ?cc1 ?cc2 ?cc3 ?cc4 ?cc5 ?_))
      case cc1 =>
        intro j u hj
        match j, hj with
        | 0, hj => simp [stepVs] at hj; subst hj; simp [Addr.add]
        | 1, hj => simp [stepVs] at hj; subst hj; simp [Addr.add]
        | 2, hj => simp [stepVs] at hj; subst hj; simp [Addr.add]
      case cc2 => intro u hu; simp [stepVs] at hu; rcases hu with rfl | rfl | rfl <;> rfl
      case cc3 => unfold maxLen; omega
      case cc4 => omega
      case cc5 => simp; omega
      intro v' w5 hown' hgrow _
      have hb1 := ((unhide HB).alloc (by omega) (.cells #[.int .i64 kind, .int .i64 p, .int .i64 (q : Int)] 36)).grown hgrow (by simp; omega) (fun j hj => (World.ownsRow.lt hown j hj).1)
      have HP5 := hide (row_types (World.ownsRow.alloc (unhide HP) _) (World.ownsRow.alloc hown _) (by decide) hgrow)
      have HO5 : Hid (WR w.heap.size w5 v' (whysWith kind p (ps.take (k + 1)))) := by
        show WR _ _ _ _
        rw [unhide HSN]
        unfold WR
        rw [stepVs_app]
        simpa using hown'
      have HB5 := hide hb1
      clear hown hown' hgrow hb1 HP HB HSN c0
      go_wp2_with fail
      go_roundw
      case rel => exact ⟨k + 1, by omega, by go_num, HO5, HP5, HB5⟩
      case measure => simp [intOf]; omega
    · have j1 : ¬ (k : Int) < (ps.length : Int) := by omega
      have hke : ps.take k = ps := List.take_of_length_le (by omega)
      rw [hke] at HO
      clear hke
      go_wp2_with fail
      go_ret
      exact ⟨⟨_, rfl, by rw [unhide HPS]; simpa using unhide HO⟩, unhide HB⟩
/-- The kinds of faults of a pack. -/
def twiceL (l : List PackD) (s p : Nat) : List StepD := whysWith 2 (p : Int) (placesTo ((s &&& (2 ^ p - 1)) &&& twN l p) 8)
def bannedL (l : List PackD) (s p : Nat) : List StepD := whysWith 4 (p : Int) (placesTo (s &&& bnN l p) 8)
/-- Rows of bits that a state does not meet, each by its place. -/
def lackRows (s : Nat) (p : Int) (ns : List Nat) : Nat → List StepD
  | 0 => []
  | k + 1 => if meetB s (ns.getD k 0) then lackRows s p ns k else lackRows s p ns k ++ [⟨3, p, (k : Int)⟩]
theorem lackRows_len (s : Nat) (p : Int) (ns : List Nat) : ∀ k, (lackRows s p ns k).length ≤ k
  | 0 => by simp [lackRows]
  | k + 1 => by
    have := lackRows_len s p ns k
    unfold lackRows
    split
    · omega
    · simp; omega
def unfittedL (l : List PackD) (s p : Nat) : List StepD := lackRows s (p : Int) ((l.getD p dPack).deps.map (rowN l)) (l.getD p dPack).deps.length
def lackingL (l : List PackD) (room : Int) (s : Nat) : List StepD := if bitSize l s - room ≤ 0 then [] else [⟨1, -1, bitSize l s - room⟩]

set_option maxRecDepth 100000 in
set_option maxHeartbeats 4000000 in
theorem banned_any (l : List PackD) (room : Int) (V : Value) (s p : Nat) (hs : s < 65536) (hp : p < l.length) (hok : OkL l) (w : World) (h : Stock w V l room) :
    Calls Try.prog 38 #[V, .int .u64 (s : Int), .int .i64 (p : Int)] w fun e w' => (∃ v, e = .returned v ∧ WR w.heap.size w' v (bannedL l s p)) ∧ Below w.heap.size w w' := by
  obtain ⟨a, cap, bm, v, rfl, hP, ⟨xa, xc, rfl⟩, hA⟩ := h
  obtain ⟨ag, ac, C, hxe, hrow, hnum, hdone⟩ := hA (by omega)
  simp at hxe
  obtain ⟨rfl, rfl⟩ := hxe
  obtain ⟨c, hc0⟩ := hnum p hp
  obtain ⟨hc1, hc2, ⟨v3, hc3, hb3⟩, ⟨v4, hc4, hb4⟩⟩ := hdone p hp
  have hag := (Array.getElem?_eq_some_iff.1 hrow).1
  have d0 : w.cell? ⟨ag, p * 5, none⟩ = some (.int .i64 c) := by simp only [World.cell?, hrow]; exact hc0
  have d1 : w.cell? ⟨ag, p * 5 + 1, none⟩ = some (.int .u64 ((twN l p : Nat) : Int)) := by simp only [World.cell?, hrow]; exact hc1
  have d2 : w.cell? ⟨ag, p * 5 + 2, none⟩ = some (.int .u64 ((bnN l p : Nat) : Int)) := by simp only [World.cell?, hrow]; exact hc2
  have d3 : w.cell? ⟨ag, p * 5 + 3, none⟩ = some v3 := by simp only [World.cell?, hrow]; exact hc3
  have d4 : w.cell? ⟨ag, p * 5 + 4, none⟩ = some v4 := by simp only [World.cell?, hrow]; exact hc4
  have htw := twN_lt hok.l8 p
  have hbn := bnN_lt hok.l8 p
  have hpi : (p : Int) < (l.length : Int) := by omega
  have hp0 : (0 : Int) ≤ (p : Int) := by omega
  have hl8 := hok.l8
  obtain ⟨w0, hw0⟩ : ∃ w0, w0 = w.alloc (.cells #[.slice a l.length cap, .int .i64 room, .map (some bm), .slice (some ⟨ag, 0, none⟩) l.length xc] 53) := ⟨_, rfl⟩
  have b0 : Below w.heap.size w w0 := by rw [hw0]; exact (Below.refl _ _).alloc (Nat.le_refl _) _
  have z0 : w.heap.size < w0.heap.size := by rw [hw0]; simp
  have x0 : w0.cell? ⟨w.heap.size, 0, none⟩ = some (.slice a l.length cap) := by rw [hw0]; simp
  have x1 : w0.cell? ⟨w.heap.size, 1, none⟩ = some (.int .i64 room) := by rw [hw0]; simp
  have x2 : w0.cell? ⟨w.heap.size, 2, none⟩ = some (.map (some bm)) := by rw [hw0]; simp
  have x3 : w0.cell? ⟨w.heap.size, 3, none⟩ = some (.slice (some ⟨ag, 0, none⟩) l.length xc) := by rw [hw0]; simp
  rw [← b0.cell (p := ⟨ag, _, none⟩) hag] at d0 d1 d2 d3 d4
  have hag0 : ag < w0.heap.size := by omega
  have HB0 := hide b0
  have hand := bits_and s (bnN l p) (by omega) (by omega)
  have hlt : s &&& bnN l p < 65536 := Nat.lt_of_le_of_lt Nat.and_le_left hs
  have HFW := hide (faultsWith_any 4 (p : Int) (s &&& bnN l p) hlt w0)
  have HE := hide (show bannedL l s p = whysWith 4 (p : Int) (placesTo (s &&& bnN l p) 8) from rfl)
  generalize s &&& bnN l p = o at hand HFW HE
  generalize bnN l p = bn at hand d2
  clear hrow hnum hdone hA hP hc0 hc1 hc2 hc3 hc4 hok hb3 hb4 b0 d0 d1 d3 d4 htw hbn
  go_enter Try.func38, Try.ntmps38
  go_upto_region 1 with fail
  rw [← hw0]
  clear hw0
  go_wp2_with fail
  refine (unhide HFW).mono ?_
  rintro e w2 ⟨⟨v, rfl, hr⟩, b2⟩
  have HB2 := hide ((unhide HB0).trans (b2.mono (unhide HB0).size))
  have HR := hide (show WR w.heap.size w2 v (bannedL l s p) by rw [unhide HE]; exact row_base hr (by omega))
  obtain ⟨qa, qn, qc, hq⟩ : ∃ qa qn qc, v = .slice qa qn qc := by
    rcases hr.slice with ⟨hv, _⟩ | ⟨g, cap, hv, _⟩
    · exact ⟨_, _, _, hv⟩
    · exact ⟨_, _, _, hv⟩
  subst hq
  clear hr b2 HFW HB0
  go_wp2_with fail
  go_ret
  exact ⟨⟨_, rfl, unhide HR⟩, unhide HB2⟩

set_option maxRecDepth 100000 in
set_option maxHeartbeats 4000000 in
theorem unfitted_any (l : List PackD) (room : Int) (V : Value) (s p : Nat) (hs : s < 65536) (hp : p < l.length) (hok : OkL l) (w : World) (h : Stock w V l room) :
    Calls Try.prog 37 #[V, .int .u64 (s : Int), .int .i64 (p : Int)] w fun e w' => (∃ v, e = .returned v ∧ WR w.heap.size w' v (unfittedL l s p)) ∧ Below w.heap.size w w' := by
  obtain ⟨i0, hi, hz0, hz1, hz2⟩ := info_parts Try.infoWhy
  obtain ⟨a, cap, bm, v, rfl, hP, ⟨xa, xc, rfl⟩, hA⟩ := h
  obtain ⟨ag, ac, C, hxe, hrow, hnum, hdone⟩ := hA (by omega)
  simp at hxe
  obtain ⟨rfl, rfl⟩ := hxe
  obtain ⟨c, hc0⟩ := hnum p hp
  obtain ⟨hc1, hc2, ⟨v3, hc3, hb3⟩, ⟨v4, hc4, hb4⟩⟩ := hdone p hp
  have hag := (Array.getElem?_eq_some_iff.1 hrow).1
  have d0 : w.cell? ⟨ag, p * 5, none⟩ = some (.int .i64 c) := by simp only [World.cell?, hrow]; exact hc0
  have d1 : w.cell? ⟨ag, p * 5 + 1, none⟩ = some (.int .u64 ((twN l p : Nat) : Int)) := by simp only [World.cell?, hrow]; exact hc1
  have d2 : w.cell? ⟨ag, p * 5 + 2, none⟩ = some (.int .u64 ((bnN l p : Nat) : Int)) := by simp only [World.cell?, hrow]; exact hc2
  have d3 : w.cell? ⟨ag, p * 5 + 3, none⟩ = some v3 := by simp only [World.cell?, hrow]; exact hc3
  have d4 : w.cell? ⟨ag, p * 5 + 4, none⟩ = some v4 := by simp only [World.cell?, hrow]; exact hc4
  have htw := twN_lt hok.l8 p
  have hbn := bnN_lt hok.l8 p
  have hpi : (p : Int) < (l.length : Int) := by omega
  have hp0 : (0 : Int) ≤ (p : Int) := by omega
  have hl8 := hok.l8
  obtain ⟨w0, hw0⟩ : ∃ w0, w0 = w.alloc (.cells #[.slice a l.length cap, .int .i64 room, .map (some bm), .slice (some ⟨ag, 0, none⟩) l.length xc] 53) := ⟨_, rfl⟩
  have b0 : Below w.heap.size w w0 := by rw [hw0]; exact (Below.refl _ _).alloc (Nat.le_refl _) _
  have z0 : w.heap.size < w0.heap.size := by rw [hw0]; simp
  have x0 : w0.cell? ⟨w.heap.size, 0, none⟩ = some (.slice a l.length cap) := by rw [hw0]; simp
  have x1 : w0.cell? ⟨w.heap.size, 1, none⟩ = some (.int .i64 room) := by rw [hw0]; simp
  have x2 : w0.cell? ⟨w.heap.size, 2, none⟩ = some (.map (some bm)) := by rw [hw0]; simp
  have x3 : w0.cell? ⟨w.heap.size, 3, none⟩ = some (.slice (some ⟨ag, 0, none⟩) l.length xc) := by rw [hw0]; simp
  rw [← b0.cell (p := ⟨ag, _, none⟩) hag] at d0 d1 d2 d3 d4
  have hag0 : ag < w0.heap.size := by omega
  have HB0 := hide b0
  obtain ⟨a3, k3, rfl, hb3c⟩ := hb3
  have hdl : ((l.getD p dPack).deps.map (rowN l)).length ≤ 4 := by have := (hok.reqs p hp).1; simpa using this
  have hall : ∀ n ∈ (l.getD p dPack).deps.map (rowN l), n < 65536 := fun n hn => by
    obtain ⟨row, _, rfl⟩ := List.mem_map.1 hn
    exact rowN_lt hok.l8 row
  have HE := hide (show unfittedL l s p = lackRows s (p : Int) ((l.getD p dPack).deps.map (rowN l)) ((l.getD p dPack).deps.map (rowN l)).length by unfold unfittedL; rw [List.length_map])
  generalize (l.getD p dPack).deps.map (rowN l) = NS at hb3c hdl hall HE d3
  have hbits : NS = [] ∨ ∃ b, a3 = some ⟨b, 0, none⟩ ∧ b < w0.heap.size ∧ ∀ i, i < NS.length → w0.cell? ⟨b, i, none⟩ = some (.int .u64 ((NS.getD i 0 : Nat) : Int)) := hb3c.imp id fun ⟨b, h1, h2, _, h4⟩ => ⟨b, h1, by omega, fun i hi => (b0.cell (p := ⟨b, i, none⟩) h2).trans (h4 i hi)⟩
  have HBT := hide hbits
  have HALL := hide hall
  clear hrow hnum hdone hA hP hc0 hc1 hc2 hc3 hc4 hok hb3c hb4 b0 d0 d1 d2 d4 htw hbn hbits hall
  go_enter Try.func37, Try.ntmps37
  go_upto_region 1 with fail
  rw [← hw0]
  clear hw0
  go_wp2_with fail
  go_loopw [7, 17] (fun v i wr => ∃ k : Nat, k ≤ NS.length ∧ i = .int .i64 k ∧ Hid (WR w0.heap.size wr v (lackRows s (p : Int) NS k)) ∧ Hid (Below w0.heap.size w0 wr)) (fun _ i _ => NS.length - (intOf i).toNat)
  case atStart => exact ⟨0, Nat.zero_le _, rfl, WR.nil _ _, Below.refl _ _⟩
  case round =>
    rename World => wo
    obtain ⟨k, hk, rfl, HO, HB⟩ := hrel
    have hzb := (unhide HB).size
    by_cases hlt : k < NS.length
    · have j1 : (k : Int) < (NS.length : Int) := by omega
      have j0 : (0 : Int) ≤ (k : Int) := by omega
      rcases unhide HBT with hnil | ⟨b, rfl, hbl, hcs⟩
      · rw [hnil] at hlt; simp at hlt
      have c0 := (( unhide HB).cell (p := ⟨b, k, none⟩) hbl).trans (hcs k hlt)
      have hn := unhide HALL (NS.getD k 0) (getD_mem hlt)
      have HST := hide (show lackRows s (p : Int) NS (k + 1) = if meetB s (NS.getD k 0) then lackRows s (p : Int) NS k else lackRows s (p : Int) NS k ++ [⟨3, (p : Int), (k : Int)⟩] from rfl)
      have hlen := lackRows_len s (p : Int) NS k
      have HME := hide (fun x => meets_any s (NS.getD k 0) hs hn x)
      unfold meetB at HST
      generalize decide (s &&& NS.getD k 0 ≠ 0) = mt at HST HME
      generalize NS.getD k 0 = nn at c0 HME
      generalize lackRows s (p : Int) NS k = N at HO HST hlen
      clear hcs hn
      go_wp2_with fail
      refine (unhide HME wo).mono ?_
      rintro e w4 ⟨rfl, hw4⟩
      obtain rfl := hw4.symm
      clear HME c0
      cases mt with
      | true =>
        have HO2 := HO
        rw [← (show lackRows s (p : Int) NS (k + 1) = N from (unhide HST).trans (if_pos rfl))] at HO2
        clear HST HO
        go_wp2_with fail
        go_roundw
        case rel => exact ⟨k + 1, by omega, by go_num, HO2, HB⟩
        case measure => simp [intOf]; omega
      | false =>
        have hown := unhide HO
        unfold WR at hown
        clear HO
        go_wp2_with (first
          | (at_builtin; refine wpList_append_own _ rfl _ _ 29 rfl w0.heap.size 36 i0 (.agg #[.int .i64 0, .int .i64 0, .int .i64 0]) 3 24 Try.underlying29 hi hz0 hz1 hz2 rfl (by decide) _ _ _ rfl (hown.alloc _) ⟨wo.heap.size, 0, none⟩ 1 1 (stepVs [⟨3, (p : Int), (k : Int)⟩]) rfl rfl ?cc1 ?cc2 ?cc3 ?cc4 ?cc5 ?_))
        case cc1 =>
          intro j u hj
          match j, hj with
          | 0, hj => simp [stepVs] at hj; subst hj; simp [Addr.add]
          | 1, hj => simp [stepVs] at hj; subst hj; simp [Addr.add]
          | 2, hj => simp [stepVs] at hj; subst hj; simp [Addr.add]
        case cc2 => intro u hu; simp [stepVs] at hu; rcases hu with rfl | rfl | rfl <;> rfl
        case cc3 => unfold maxLen; omega
        case cc4 => omega
        case cc5 => simp; omega
        intro v' w5 hown' hgrow _
        have hb1 := ((unhide HB).alloc (by omega) (.cells #[.int .i64 3, .int .i64 (p : Int), .int .i64 (k : Int)] 36)).grown hgrow (by simp; omega) (fun j hj => (World.ownsRow.lt hown j hj).1)
        have HO5 : Hid (WR w0.heap.size w5 v' (lackRows s (p : Int) NS (k + 1))) := by
          show WR _ _ _ _
          rw [unhide HST]
          unfold WR
          simp only [Bool.false_eq_true, if_false]
          rw [stepVs_app]
          simpa using hown'
        have HB5 := hide hb1
        clear hown hown' hgrow hb1 HB HST
        go_wp2_with fail
        go_roundw
        case rel => exact ⟨k + 1, by omega, by go_num, HO5, HB5⟩
        case measure => simp [intOf]; omega
    · have j1 : ¬ (k : Int) < (NS.length : Int) := by omega
      have hke : k = NS.length := by omega
      have HB6 := hide ((unhide HB0).trans ((unhide HB).mono (unhide HB0).size))
      have HO6 := hide (fun v (hv : WR w0.heap.size wo v (lackRows s (p : Int) NS k)) => show WR w.heap.size wo v (unfittedL l s p) by rw [unhide HE, ← hke]; exact row_base hv (by omega))
      have HO7 := hide (unhide HO6 _ (unhide HO))
      clear hke HO HB HO6
      go_wp2_with fail
      go_ret
      exact ⟨⟨_, rfl, by simpa using unhide HO7⟩, unhide HB6⟩

set_option maxRecDepth 100000 in
set_option maxHeartbeats 4000000 in
theorem twice_of (l : List PackD) (room : Int) (V : Value) (s p : Nat) (hs : s < 65536) (hp : p < l.length) (hok : OkL l) (w : World) (h : Stock w V l room) :
    Calls Try.prog 36 #[V, .int .u64 (s : Int), .int .i64 (p : Int)] w fun e w' => (∃ v, e = .returned v ∧ WR w.heap.size w' v (twiceL l s p)) ∧ Below w.heap.size w w' := by
  obtain ⟨a, cap, bm, v, rfl, hP, ⟨xa, xc, rfl⟩, hA⟩ := h
  obtain ⟨ag, ac, C, hxe, hrow, hnum, hdone⟩ := hA (by omega)
  simp at hxe
  obtain ⟨rfl, rfl⟩ := hxe
  obtain ⟨c, hc0⟩ := hnum p hp
  obtain ⟨hc1, hc2, ⟨v3, hc3, hb3⟩, ⟨v4, hc4, hb4⟩⟩ := hdone p hp
  have hag := (Array.getElem?_eq_some_iff.1 hrow).1
  have d0 : w.cell? ⟨ag, p * 5, none⟩ = some (.int .i64 c) := by simp only [World.cell?, hrow]; exact hc0
  have d1 : w.cell? ⟨ag, p * 5 + 1, none⟩ = some (.int .u64 ((twN l p : Nat) : Int)) := by simp only [World.cell?, hrow]; exact hc1
  have d2 : w.cell? ⟨ag, p * 5 + 2, none⟩ = some (.int .u64 ((bnN l p : Nat) : Int)) := by simp only [World.cell?, hrow]; exact hc2
  have d3 : w.cell? ⟨ag, p * 5 + 3, none⟩ = some v3 := by simp only [World.cell?, hrow]; exact hc3
  have d4 : w.cell? ⟨ag, p * 5 + 4, none⟩ = some v4 := by simp only [World.cell?, hrow]; exact hc4
  have htw := twN_lt hok.l8 p
  have hbn := bnN_lt hok.l8 p
  have hpi : (p : Int) < (l.length : Int) := by omega
  have hp0 : (0 : Int) ≤ (p : Int) := by omega
  have hl8 := hok.l8
  obtain ⟨w0, hw0⟩ : ∃ w0, w0 = w.alloc (.cells #[.slice a l.length cap, .int .i64 room, .map (some bm), .slice (some ⟨ag, 0, none⟩) l.length xc] 53) := ⟨_, rfl⟩
  have b0 : Below w.heap.size w w0 := by rw [hw0]; exact (Below.refl _ _).alloc (Nat.le_refl _) _
  have z0 : w.heap.size < w0.heap.size := by rw [hw0]; simp
  have x0 : w0.cell? ⟨w.heap.size, 0, none⟩ = some (.slice a l.length cap) := by rw [hw0]; simp
  have x1 : w0.cell? ⟨w.heap.size, 1, none⟩ = some (.int .i64 room) := by rw [hw0]; simp
  have x2 : w0.cell? ⟨w.heap.size, 2, none⟩ = some (.map (some bm)) := by rw [hw0]; simp
  have x3 : w0.cell? ⟨w.heap.size, 3, none⟩ = some (.slice (some ⟨ag, 0, none⟩) l.length xc) := by rw [hw0]; simp
  rw [← b0.cell (p := ⟨ag, _, none⟩) hag] at d0 d1 d2 d3 d4
  have hag0 : ag < w0.heap.size := by omega
  have HB0 := hide b0
  have hah : s &&& (2 ^ p - 1) < 65536 := Nat.lt_of_le_of_lt Nat.and_le_left hs
  have hand := bits_and (s &&& (2 ^ p - 1)) (twN l p) (by omega) (by omega)
  have hlt : (s &&& (2 ^ p - 1)) &&& twN l p < 65536 := Nat.lt_of_le_of_lt Nat.and_le_left hah
  have HFW := hide (fun x => faultsWith_any 2 (p : Int) ((s &&& (2 ^ p - 1)) &&& twN l p) hlt x)
  have HAH := hide (fun x (_ : Below w0.heap.size w0 x) => ahead_any s p hs (by omega) x)
  have HE := hide (show twiceL l s p = whysWith 2 (p : Int) (placesTo ((s &&& (2 ^ p - 1)) &&& twN l p) 8) from rfl)
  generalize (s &&& (2 ^ p - 1)) &&& twN l p = o at hand HFW HE
  generalize s &&& (2 ^ p - 1) = ahd at hand HAH
  generalize twN l p = tw at hand d1
  clear hrow hnum hdone hA hP hc0 hc1 hc2 hc3 hc4 hok hb3 hb4 b0 d0 d2 d3 d4 htw hbn
  go_enter Try.func36, Try.ntmps36
  go_upto_region 1 with fail
  rw [← hw0]
  clear hw0
  refine wp_region_mix (k := 100) 11 [] [.int .i64 (p : Int), .int .u64 (s : Int), .int .i64 (p : Int), .int .u64 ((ahd : Nat) : Int), .pointer (some ⟨w.heap.size, 3, none⟩), .slice (some ⟨ag, 0, none⟩) l.length xc, .int .i64 (p : Int), .pointer (some ⟨ag, p * 5, none⟩), .pointer (some ⟨ag, p * 5 + 1, none⟩), .int .u64 ((tw : Nat) : Int), .int .u64 ((o : Nat) : Int)] (CZ w0) (by kernel_rfl) (by kernel_rfl) (by kernel_rfl) (by kernel_rfl) (by kernel_rfl) (by kernel_rfl) ⟨(Below.refl _ _).drew⟩ ?_ ?_ ?_
  · intro full hfull i oo hi hns ho x fl us hC hb
    simp [putAll, slotOf, Act.put] at hfull
    subst hfull
    have bx := hC.below
    rw [← bx.cell (p := ⟨w.heap.size, _, none⟩) z0] at x0 x1 x2 x3
    rw [← bx.cell (p := ⟨ag, _, none⟩) hag0] at d1
    have hC0 := hC.on (b' := fl) (Below.refl _ _)
    match i with
    | 0 => simp at ho; subst ho; simp [gwp, Region.wanted, yielded]; go_simp; first | done | exact hC0 | exact ⟨rfl, hC0⟩ | (simp; exact hC0)
    | 1 => simp at ho; subst ho; simp [gwp, Region.wanted, yielded]; go_simp; first | done | exact hC0 | exact ⟨rfl, hC0⟩ | (simp; exact hC0)
    | 2 => simp at ho; subst ho; simp [gwp, Region.wanted, yielded]; go_simp; first | done | exact hC0 | exact ⟨rfl, hC0⟩ | (simp; exact hC0)
    | 3 =>
      simp at ho; subst ho; simp [gwp, Region.wanted, yielded]; go_simp
      refine (unhide HAH x bx).mono ?_
      rintro e w' ⟨rfl, hb2⟩
      go_simp
      first | done | exact hC.on hb2 | exact ⟨rfl, hC.on hb2⟩ | (simp; exact hC.on hb2)
    | 4 => simp at ho; subst ho; simp [gwp, Region.wanted, yielded]; go_simp; first | done | exact hC0 | exact ⟨rfl, hC0⟩ | (simp; exact hC0)
    | 5 => simp at ho; subst ho; simp [gwp, Region.wanted, yielded]; go_simp; first | done | exact hC0 | exact ⟨rfl, hC0⟩ | (simp; exact hC0)
    | 6 => simp at ho; subst ho; simp [gwp, Region.wanted, yielded]; go_simp; first | done | exact hC0 | exact ⟨rfl, hC0⟩ | (simp; exact hC0)
    | 7 => simp at ho; subst ho; simp [gwp, Region.wanted, yielded]; go_simp; first | done | exact hC0 | exact ⟨rfl, hC0⟩ | (simp; exact hC0)
    | 8 => simp at ho; subst ho; simp [gwp, Region.wanted, yielded]; go_simp; first | done | exact hC0 | exact ⟨rfl, hC0⟩ | (simp; exact hC0)
    | 9 => simp at ho; subst ho; simp [gwp, Region.wanted, yielded]; go_simp; first | done | exact hC0 | exact ⟨rfl, hC0⟩ | (simp; exact hC0)
    | 10 => simp at ho; subst ho; simp [gwp, Region.wanted, yielded]; go_simp; first | done | exact hC0 | exact ⟨rfl, hC0⟩ | (simp; exact hC0)
    | i + 11 => omega
  · intro full hfull us j hj
    simp at hj
  intro full hfull us w1 hus hC
  simp [putAll, slotOf, Act.put] at hfull
  subst hfull
  match us, hus with
  | [], _ =>
  have HB1 := hide ((unhide HB0).trans (hC.below.mono (unhide HB0).size))
  clear hC HB0 HAH
  simp [putP]
  go_wp2_with fail
  refine (unhide HFW w1).mono ?_
  rintro e w2 ⟨⟨v, rfl, hr⟩, b2⟩
  have HB2 := hide ((unhide HB1).trans (b2.mono (unhide HB1).size))
  have HR := hide (show WR w.heap.size w2 v (twiceL l s p) by rw [unhide HE]; exact row_base hr (unhide HB1).size)
  obtain ⟨qa, qn, qc, hq⟩ : ∃ qa qn qc, v = .slice qa qn qc := by
    rcases hr.slice with ⟨hv, _⟩ | ⟨g, cap, hv, _⟩
    · exact ⟨_, _, _, hv⟩
    · exact ⟨_, _, _, hv⟩
  subst hq
  clear hr b2 HFW HB1
  go_wp2_with fail
  go_ret
  exact ⟨⟨_, rfl, unhide HR⟩, unhide HB2⟩
end Go.Proofs.Ytcmgddkifhcmlan
