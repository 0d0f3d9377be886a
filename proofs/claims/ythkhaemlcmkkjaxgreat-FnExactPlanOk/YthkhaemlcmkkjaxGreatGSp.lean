/- The specification's looks at a step. The specification's StepDo. The specification's StepDo, of states of any length. -/
import Derived.Test.YthkhaemlcmkkjaxGreatGPd
import Derived.Test.YthkhaemlcmkkjaxGreatGSpecP
import Derived.Deep.QuietTactic
import Derived.Test.YthkhaemlcmkkjaxGreatDoO
import Derived.Laws.AppendOwnNone
namespace Go.Proofs.YthkhaemlcmkkjaxGreat
set_option linter.unusedVariables false
set_option linter.unusedSimpArgs false
open Go.RowKit Go.Deep

set_option maxRecDepth 100000 in
set_option maxHeartbeats 2000000 in
theorem l3Step_any (a : Option Addr) (l : List PackD) (cap : Nat) (room : Int) (s : StepD) (w : World) (h : PacksAt (Old w) w a l) :
    Calls Tryz.prog 33 #[.agg #[.slice a l.length cap, .int .i64 room], .agg #[.int .i64 s.kind, .int .i64 s.inn, .int .i64 s.out]] w fun e w' => e = .returned (.bool ((stepsL l room).any (fun t => eqS t s))) ∧ Below w.heap.size w w' := by
  have b1 := ((Below.refl w.heap.size w).alloc (Nat.le_refl _) (.cells #[.slice a l.length cap, .int .i64 room] 33)).alloc (by simp) (.cells #[.int .i64 s.kind, .int .i64 s.inn, .int .i64 s.out] 36)
  have HC := hide (specStepAll_any a l cap room _ (h.on b1))
  clear h
  go_enter Tryz.func33, Tryz.ntmps33
  go_wp2_with fail
  refine (unhide HC).mono ?_
  rintro e w2 ⟨⟨v, rfl, hrow⟩, b2⟩
  have z2 := b2.size
  simp at z2
  have s0 := b2.cell (p := ⟨w.heap.size + 1, 0, none⟩) (by simp)
  have s1 := b2.cell (p := ⟨w.heap.size + 1, 1, none⟩) (by simp)
  have s2 := b2.cell (p := ⟨w.heap.size + 1, 2, none⟩) (by simp)
  simp at s0 s1 s2
  have HB2 := hide (b1.trans (b2.mono (by simp; omega)))
  have hlen := stepsL_few l room
  obtain ⟨qa, qc, rfl, _, _, hS⟩ := StepsAt.of_row hrow (by omega)
  have HS := hide hS
  clear HC b2 b1 hrow hS
  generalize hLL : stepsL l room = L at HS hlen ⊢
  have HLE := hide hLL
  clear hLL
  go_wp2_with fail
  go_loopw [6] (fun i wr => ∃ k : Nat, k ≤ L.length ∧ i = .int .i64 k ∧ Hid ((L.take k).any (fun t => eqS t s) = false) ∧ Drawn w2 wr) (fun i _ => L.length - (intOf i).toNat)
  case atStart => exact ⟨0, Nat.zero_le _, rfl, rfl, Drawn.refl _⟩
  case round =>
    rename World => wo
    obtain ⟨k, hk, rfl, HN, hw⟩ := hrel
    by_cases hlt : k < L.length
    · have j1 : (k : Int) < (L.length : Int) := by omega
      have j0 : (0 : Int) ≤ (k : Int) := by omega
      rcases (unhide HS).2 with hnil | ⟨b, o, rfl, hbl, hrk⟩
      · rw [hnil] at hlt; simp at hlt
      obtain ⟨c0, c1, c2⟩ := hrk k hlt
      have htk := any_take_succ (d := dStep) (f := fun t => eqS t s) hlt
      have hyes := fun h => any_of_take (d := dStep) (f := fun t => eqS t s) hlt h
      generalize L.getD k dStep = t at c0 c1 c2 htk hyes
      have S0 := s0
      have S1 := s1
      have S2 := s2
      rw [← hw.cell] at c0 c1 c2 S0 S1 S2
      have HTK := hide htk
      have HY := hide hyes
      clear hrk htk hyes s0 s1 s2
      obtain ⟨k1, i1, o1⟩ := t
      obtain ⟨k2, i2, o2⟩ := s
      simp only at c0 c1 c2 S0 S1 S2
      by_cases hkk : k1 = k2
      · by_cases hii : i1 = i2
        · by_cases hoo : o1 = o2
          · have HT := hide (unhide HY (by simp [eqS, hkk, hii, hoo]))
            rw [← hkk] at S0
            rw [← hii] at S1
            rw [← hoo] at S2
            clear hkk hii hoo HTK HY
            go_wp2_with fail
            go_quiet (fail)
            go_wp2_with fail
            go_ret
            exact ⟨ret_bool (by rw [unhide HLE]; exact (unhide HT).symm), (unhide HB2).trans (((hw.more _).below _).mono (unhide HB2).size)⟩
          · have HF := hide (show (L.take (k + 1)).any (fun t => eqS t ⟨k2, i2, o2⟩) = false by rw [unhide HTK, unhide HN]; simp [eqS, hoo])
            rw [← hkk] at S0
            rw [← hii] at S1
            clear hkk hii HTK HY
            go_wp2_with fail
            go_quiet (fail)
            go_wp2_with fail
            go_roundw
            case rel => exact ⟨k + 1, by omega, by go_num, HF, hw.more _⟩
            case measure => simp [intOf]; omega
        · have HF := hide (show (L.take (k + 1)).any (fun t => eqS t ⟨k2, i2, o2⟩) = false by rw [unhide HTK, unhide HN]; simp [eqS, hii])
          rw [← hkk] at S0
          clear hkk HTK HY
          go_wp2_with fail
          go_quiet (fail)
          go_wp2_with fail
          go_roundw
          case rel => exact ⟨k + 1, by omega, by go_num, HF, hw.more _⟩
          case measure => simp [intOf]; omega
      · have HF := hide (show (L.take (k + 1)).any (fun t => eqS t ⟨k2, i2, o2⟩) = false by rw [unhide HTK, unhide HN]; simp [eqS, hkk])
        clear HTK HY
        go_wp2_with fail
        go_quiet (fail)
        go_wp2_with fail
        go_roundw
        case rel => exact ⟨k + 1, by omega, by go_num, HF, hw.more _⟩
        case measure => simp [intOf]; omega
    · have j1 : ¬ (k : Int) < (L.length : Int) := by omega
      have HF := hide (show L.any (fun t => eqS t s) = false by
        have := unhide HN
        rw [List.take_of_length_le (by omega)] at this
        exact this)
      go_wp2_with fail
      go_ret
      exact ⟨ret_bool (by rw [unhide HLE]; exact (unhide HF).symm), (unhide HB2).trans ((hw.below _).mono (unhide HB2).size)⟩

/-- The room of the packs' rows of what must be there ahead. -/
def CapsAt (w : World) (a : Option Addr) (l : List PackD) : Prop := ∀ b o, a = some ⟨b, o, none⟩ → ∀ i, i < l.length → b < w.heap.size ∧ ∃ a2 c2, w.cell? ⟨b, o + i * 6 + 4, none⟩ = some (.slice a2 (l.getD i dPack).pres.length c2) ∧ (l.getD i dPack).pres.length ≤ c2 ∧ c2 ≤ maxLen
theorem CapsAt.on {w w' : World} {a : Option Addr} {l : List PackD} (h : CapsAt w a l) (hb : Below w.heap.size w w') : CapsAt w' a l := fun b o ha i hi => by
  obtain ⟨h1, a2, c2, h2, h3⟩ := h b o ha i hi
  exact ⟨Nat.lt_of_lt_of_le h1 hb.size, a2, c2, (hb.cell (p := ⟨b, o + i * 6 + 4, none⟩) h1).trans h2, h3⟩
theorem ReqsAt.one {S : Nat → Nat → Prop} {w : World} {b o : Nat} {l : List ReqD} (h : ReqsAt S w (some ⟨b, o, none⟩) l) {k : Nat} (hk : k < l.length) : ReqsAt S w (some ⟨b, o + k * 3, none⟩) [l.getD k dReq] := by
  obtain ⟨h0, h⟩ := h
  rcases h with h | ⟨b', o', ha, hS, h⟩
  · rw [h] at hk; simp at hk
  · simp at ha
    obtain ⟨rfl, rfl⟩ := ha
    refine ⟨by simp [maxLen], Or.inr ⟨b, o + k * 3, rfl, hS, fun i hi => ?_⟩⟩
    simp at hi
    subst hi
    simpa using h k hk

set_option maxRecDepth 100000 in
set_option maxHeartbeats 4000000 in
theorem l3Ready_any (a : Option Addr) (l : List PackD) (cap : Nat) (room : Int) (sa : Option Addr) (set : List Int) (sc : Nat) (n : Nat) (hn : n < l.length) (hin : ∀ i, i < set.length → 0 ≤ set.getD i 0 ∧ set.getD i 0 < l.length) (w : World) (h : PacksAt (Old w) w a l) (hc : CapsAt w a l) (hs : SetAt w sa set) :
    Calls Tryz.prog 36 #[.agg #[.slice a l.length cap, .int .i64 room], .slice sa set.length sc, .int .i64 (n : Int)] w fun e w' => e = .returned (.bool (readyB l set (n : Int))) ∧ Below w.heap.size w w' := by
  have HP := hide h
  have HSET := hide hs
  rcases h.2 with hnil | ⟨pb, po, rfl, hpS, hpk⟩
  · rw [hnil] at hn; simp at hn
  obtain ⟨a1, d1, a2, d2, a3, d3, hce, hpv⟩ := hpk n hn
  have n4 := hce.pres
  have hpres := hpv.pres
  obtain ⟨_, a2', d2', n4', hcap, hcm⟩ := hc pb po rfl n hn
  rw [n4] at n4'
  simp at n4'
  obtain ⟨rfl, rfl⟩ := n4'
  have hE : readyB l set (n : Int) = (l.getD n dPack).pres.all (fun q => someB l set [q] (-1)) := by unfold readyB; simp
  have hpm := hpres.1
  generalize (l.getD n dPack).pres = P at n4 hpres hcap hE hpm
  have HE := hide hE
  have HPR := hide hpres
  have hpw : pb < w.heap.size := hpS
  have hi0 : (0 : Int) ≤ (n : Int) := by omega
  have hi1 : (n : Int) < (l.length : Int) := by omega
  unfold maxLen at hpm hcm
  clear h hs hpk hce hpv hpres hc hE
  go_enter Tryz.func36, Tryz.ntmps36
  go_wp2_with fail
  obtain ⟨w0, hw0⟩ : ∃ w0, w0 = w.alloc (.cells #[.slice (some ⟨pb, po, none⟩) l.length cap, .int .i64 room] 33) := ⟨_, rfl⟩
  have b0 : Below w.heap.size w w0 := by rw [hw0]; exact (Below.refl _ _).alloc (Nat.le_refl _) _
  have x0 : w0.cell? ⟨w.heap.size, 0, none⟩ = some (.slice (some ⟨pb, po, none⟩) l.length cap) := by rw [hw0]; simp
  have x1 : w0.cell? ⟨w.heap.size, 1, none⟩ = some (.int .i64 room) := by rw [hw0]; simp
  have hlt0 : w.heap.size < w0.heap.size := by rw [hw0]; simp
  rw [← hw0]
  have HB0 := hide b0
  rw [← b0.cell (p := ⟨pb, _, none⟩) hpw] at n4
  have hpw0 : pb < w0.heap.size := by omega
  clear hw0 b0
  go_loopw [7] (fun i wr => ∃ k : Nat, k ≤ P.length ∧ i = .int .i64 k ∧ Hid ((P.take k).all (fun q => someB l set [q] (-1)) = true) ∧ Hid (Below w0.heap.size w0 wr)) (fun i _ => P.length - (intOf i).toNat)
  case atStart => exact ⟨0, Nat.zero_le _, rfl, rfl, Below.refl _ _⟩
  case round =>
    rename World => wo
    obtain ⟨k, hk, rfl, HN, HB⟩ := hrel
    have X0 := x0
    have X1 := x1
    have N4 := n4
    rw [← (unhide HB).cell (p := ⟨w.heap.size, _, none⟩) hlt0] at X0 X1
    rw [← (unhide HB).cell (p := ⟨pb, _, none⟩) hpw0] at N4
    by_cases hlt : k < P.length
    · have j1 : (k : Int) < (P.length : Int) := by omega
      have j0 : (0 : Int) ≤ (k : Int) := by omega
      have hzo := (unhide HB).size
      have hw1 : IntKind.i64.wrap ((k : Int) + 1) = ((k + 1 : Nat) : Int) := by rw [IntKind.wrap_i64]; omega
      have bo : Below w.heap.size w wo := (unhide HB0).trans ((unhide HB).mono (unhide HB0).size)
      rcases (unhide HPR).2 with hnil | ⟨rb, ro, rfl, _, _⟩
      · rw [hnil] at hlt; simp at hlt
      have HSO := hide (fun x (hx : Below wo.heap.size wo x) => l2Some_any (some ⟨pb, po, none⟩) l cap room sa set sc (some ⟨rb, ro + k * 3, none⟩) [P.getD k dReq] (d2 - k) (-1) hin x ((unhide HP).on (bo.trans (hx.mono bo.size))) ((unhide HSET).on (bo.trans (hx.mono bo.size))) ((ReqsAt.one (unhide HPR) hlt).on (bo.trans (hx.mono bo.size))))
      have htk := all_take_succ (d := dReq) (f := fun q => someB l set [q] (-1)) hlt
      have hno : someB l set [P.getD k dReq] (-1) = false → P.all (fun q => someB l set [q] (-1)) = false := fun h => by
        rw [List.all_eq_false]
        exact ⟨_, getD_mem (d := dReq) hlt, by rw [h]; simp⟩
      generalize someB l set [P.getD k dReq] (-1) = sb at HSO htk hno
      have HTK := hide htk
      have HNO := hide hno
      have hcc : 0 ≤ (k : Int) + 1 ∧ (k : Int) + 1 ≤ (d2 : Int) := by omega
      have hdk : ¬ d2 = k := by omega
      have hltk : w.heap.size < wo.heap.size := by omega
      have hltp : pb < wo.heap.size := by omega
      clear htk hno bo
      go_upto_region 4 with fail
      refine wp_region_mix (k := 100) 12 [] [.agg #[.slice (some ⟨pb, po, none⟩) l.length cap, .int .i64 room], .slice sa set.length sc, .pointer (some ⟨w.heap.size, 0, none⟩), .slice (some ⟨pb, po, none⟩) l.length cap, .int .i64 (n : Int), .pointer (some ⟨pb, po + n * 6, none⟩), .pointer (some ⟨pb, po + n * 6 + 4, none⟩), .slice (some ⟨rb, ro, none⟩) P.length d2, .int .i64 (k : Int), .int .i64 (k : Int), .int .i64 ((k + 1 : Nat) : Int), .slice (some ⟨rb, ro + k * 3, none⟩) 1 (d2 - k)] (CZ wo) (by kernel_rfl) (by kernel_rfl) (by kernel_rfl) (by kernel_rfl) (by kernel_rfl) (by kernel_rfl) ⟨(Below.refl _ _).drew⟩ ?_ ?_ ?_
      · intro full hfull i oo hi hns ho x fl us hC hb
        simp [putAll, slotOf, Act.put] at hfull
        subst hfull
        have bx := hC.below
        rw [← bx.cell (p := ⟨w.heap.size, _, none⟩) hltk] at X0 X1
        rw [← bx.cell (p := ⟨pb, _, none⟩) hltp] at N4
        have hC0 := hC.on (b' := fl) (Below.refl _ _)
        match i with
        | 0 => simp at ho; subst ho; simp [gwp, Region.wanted, yielded]; go_simp; first | done | exact hC0 | exact ⟨rfl, hC0⟩ | (simp; exact hC0)
        | 1 => simp at ho; subst ho; simp [gwp, Region.wanted, yielded]; go_simp; first | done | exact hC0 | exact ⟨rfl, hC0⟩ | (simp; exact hC0)
        | 2 => simp at ho; subst ho; simp [gwp, Region.wanted, yielded]; go_simp; first | done | exact hC0 | exact ⟨rfl, hC0⟩ | (simp; exact hC0)
        | 3 => simp at ho; subst ho; simp [gwp, Region.wanted, yielded]; go_simp; first | done | exact hC0 | exact ⟨rfl, hC0⟩ | (simp; exact hC0)
        | 4 => simp at ho; subst ho; simp [gwp, Region.wanted, yielded]; go_simp; first | done | exact hC0 | exact ⟨rfl, hC0⟩ | (simp; exact hC0)
        | 5 => simp at ho; subst ho; simp [gwp, Region.wanted, yielded]; go_simp; first | done | exact hC0 | exact ⟨rfl, hC0⟩ | (simp; exact hC0)
        | 6 => simp at ho; subst ho; simp [gwp, Region.wanted, yielded]; go_simp; first | done | exact hC0 | exact ⟨rfl, hC0⟩ | (simp; exact hC0)
        | 7 => simp at ho; subst ho; simp [gwp, Region.wanted, yielded]; go_simp; first | done | exact hC0 | exact ⟨rfl, hC0⟩ | (simp; exact hC0)
        | 8 => simp at ho; subst ho; simp [gwp, Region.wanted, yielded]; go_simp; first | done | exact hC0 | exact ⟨rfl, hC0⟩ | (simp; exact hC0)
        | 9 => simp at ho; subst ho; simp [gwp, Region.wanted, yielded]; go_simp; first | done | exact hC0 | exact ⟨rfl, hC0⟩ | (simp; exact hC0)
        | 10 => simp at ho; subst ho; simp [gwp, Region.wanted, yielded]; go_simp; first | done | exact hC0 | exact ⟨rfl, hC0⟩ | (simp; exact hC0)
        | 11 => simp at ho; subst ho; simp [gwp, Region.wanted, yielded]; go_simp; first | done | exact hC0 | exact ⟨rfl, hC0⟩ | (simp; exact hC0)
        | i + 12 => omega
      · intro full hfull us j hj
        simp at hj
      · intro full hfull us wz hus hC
        simp [putAll, slotOf, Act.put] at hfull
        subst hfull
        match us, hus with
        | [], _ =>
        have bz := hC.below
        have HC2 := hide (unhide HSO wz bz)
        have HZ := hide ((unhide HB).trans (bz.mono (unhide HB).size))
        clear hC bz HSO HB X0 X1 N4
        simp [putP]
        go_wp2_with fail
        refine (unhide HC2).mono ?_
        rintro e w2 ⟨rfl, b2⟩
        have HB2 := hide ((unhide HZ).trans (b2.mono (unhide HZ).size))
        clear b2 HC2 HZ
        cases sb with
        | true =>
          have HN2 := hide (show (P.take (k + 1)).all (fun q => someB l set [q] (-1)) = true by rw [unhide HTK, unhide HN]; rfl)
          clear HTK HNO
          go_wp2_with fail
          go_roundw
          case rel => exact ⟨k + 1, by omega, by go_num, HN2, HB2⟩
          case measure => simp [intOf]; omega
        | false =>
          have HR := hide (unhide HNO rfl)
          clear HTK HNO
          go_wp2_with fail
          go_ret
          exact ⟨ret_bool (by rw [unhide HE]; exact (unhide HR).symm), (unhide HB0).trans ((unhide HB2).mono (unhide HB0).size)⟩
    · have j1 : ¬ (k : Int) < (P.length : Int) := by omega
      have HR := hide (show P.all (fun q => someB l set [q] (-1)) = true by
        have := unhide HN
        rw [List.take_of_length_le (by omega)] at this
        exact this)
      go_wp2_with fail
      go_ret
      exact ⟨ret_bool (by rw [unhide HE]; exact (unhide HR).symm), (unhide HB0).trans ((unhide HB).mono (unhide HB0).size)⟩
end Go.Proofs.YthkhaemlcmkkjaxGreat

namespace Go.Proofs.YthkhaemlcmkkjaxGreat
set_option linter.unusedVariables false
set_option linter.unusedSimpArgs false
open Go.RowKit Go.Deep

theorem DoOut.nil {B : Nat} {w : World} {v : Value} {o : Option (List Int)} (hv : RowI B w v []) (h : o = Option.none) : DoOut B w o (.returned (.tuple #[v, .bool false])) := by
  subst h
  exact ⟨_, rfl, hv⟩
theorem DoOut.some {B : Nat} {w : World} {v : Value} {o : Option (List Int)} {l : List Int} (hv : RowI B w v l) (h : o = Option.some l) : DoOut B w o (.returned (.tuple #[v, .bool true])) := by
  subst h
  exact ⟨_, rfl, hv⟩
theorem repo8 {l : List PackD} {room : Int} (h : repoB ⟨l, room⟩ = true) : l.length ≤ 8 := by
  simp only [repoB, Bool.and_eq_true, decide_eq_true_eq] at h
  exact h.1.1.1
theorem any_step {l : List PackD} {room : Int} {s : StepD} (h : (stepsL l room).any (fun t => eqS t s) = true) : repoB ⟨l, room⟩ = true ∧ ∃ m ∈ movesL l, s = m.step := by
  rw [List.any_eq_true] at h
  obtain ⟨t, ht, he⟩ := h
  unfold stepsL at ht
  cases hr : repoB ⟨l, room⟩ with
  | false => rw [hr] at ht; simp at ht
  | true =>
    rw [hr, if_pos rfl] at ht
    obtain ⟨m, hm, rfl⟩ := List.mem_map.1 ht
    exact ⟨rfl, m, hm, (eqS_eq he).symm⟩
/-- A copy of a state: 'append([]int{}, set...)'. -/
theorem copy_news {w : World} {ad : Addr} {set : List Int} (h : SetAt w (some ad) set) : ∀ j u, (set.map fun i => Value.int .i64 i)[j]? = some u → w.cell? (ad.add j) = some u := fun j u hu => by
  rw [List.getElem?_map] at hu
  obtain ⟨z, hz, rfl⟩ := Option.map_eq_some_iff.1 hu
  have hj : j < set.length := (List.getElem?_eq_some_iff.1 hz).1
  rcases h.2 with h0 | ⟨b, o, ha, _, hc⟩
  · rw [h0] at hj; simp at hj
  · simp at ha
    subst ha
    have e : (⟨b, o, none⟩ : Addr).add j = ⟨b, o + j, none⟩ := by simp [Addr.add]
    rw [e, hc j hj]
    simp [List.getD, hz]

theorem set_of {B : Nat} {w : World} {a : Option Addr} {n c : Nat} {l : List Int} (h : RowI B w (.slice a n c) l) (hl : l.length ≤ 1048576) : SetAt w a l := by
  obtain ⟨a', c', e, hs⟩ := RowI.set h hl
  simp at e
  obtain ⟨rfl, _⟩ := e
  exact hs
/-- An append of what a slice holds, nil or not. -/
theorem wpList_append_src {P : Program} {w : World} {ops : Array Oper} {rest : List Oper} {o : Oper} {a : Act} {Q : Exit → Act → World → Prop} (hgd : o.guard = none) (s x : Operand) (t : TypeId)
    (ho : o.op = .call { callee := .builtin .append, args := #[s, x], argTypes := #[t, t] })
    (base : Nat) (e : TypeId) (i : TypeInfo) (z : Value) (size bytes : Nat) (ht : P.underlying t = some (.slice e)) (hi : P.info? e = some i) (hz : i.zero = some z)
    (hsize : i.size = size) (hby : i.bytes = bytes) (hzs : z.cells.size = size) (hsz : 0 < size)
    (v : Value) (n : Nat) (xs : List Value) (hs : a.eval s = v) (hown : w.ownsRow base e size v n xs)
    (oa : Option Addr) (m c : Nat) (news : List Value) (hx : a.eval x = .slice oa m c) (hno : oa = none → m = 0 ∧ c = 0) (hl : news.length = m * size) (hnews : ∀ ad, oa = some ad → ∀ j u, news[j]? = some u → w.cell? (ad.add j) = some u) (h1 : ∀ u ∈ news, u.oneCell' = true)
    (h63 : n + m ≤ maxLen) (hbytes : (n + m) * bytes ≤ 140737488355328) (hbase : base ≤ w.heap.size)
    (h : ∀ v' w', w'.ownsRow base e size v' (n + m) (xs ++ news) → w.grownBy w' v.ownBlock → wpList P ops Q rest (a.put o.dst v') w') : wpList P ops Q (o :: rest) a w := by
  cases oa with
  | none =>
    obtain ⟨rfl, rfl⟩ := hno rfl
    have hn : news = [] := List.length_eq_zero_iff.1 (by rw [hl, Nat.zero_mul])
    subst hn
    refine wpList_append_own_none hgd s x t ho base e i size ht hi v n xs hs hown hx (h v w (by simpa using hown) ⟨rfl, rfl, rfl, Nat.le_refl _, fun _ _ _ => rfl⟩)
  | some ad => exact wpList_append_own w hgd s x t ho base e i z size bytes ht hi hz hsize hby hzs hsz v n xs hs hown ad m c news hx hl (hnews ad rfl) h1 h63 hbytes hbase (fun v' w' h2 h3 _ => h v' w' h2 h3)

set_option maxRecDepth 100000 in
set_option maxHeartbeats 8000000 in
theorem specStepDo_any (a : Option Addr) (l : List PackD) (cap : Nat) (room : Int) (sa : Option Addr) (set : List Int) (sc : Nat) (s : StepD) (w : World) (h : PacksAt (Old w) w a l) (hca : CapsAt w a l) (hs : SetAt w sa set) (hsc : sa = none → sc = 0) (hsl : set.length ≤ 1000000) :
    Calls Tryz.prog 8 #[.agg #[.slice a l.length cap, .int .i64 room], .slice sa set.length sc, .agg #[.int .i64 s.kind, .int .i64 s.inn, .int .i64 s.out]] w fun e w' => DoOut w.heap.size w' (specDo l room set s) e ∧ Below w.heap.size w w' := by
  obtain ⟨i0, hi, hz0, hz1, hz2⟩ := info_parts Tryz.infoInt'
  have HP := hide h
  have HCA := hide hca
  have HS := hide hs
  clear h hca hs
  go_enter Tryz.func8, Tryz.ntmps8
  go_upto_region 2 with fail
  obtain ⟨w0, hw0⟩ : ∃ w0, w0 = ((w.alloc (.cells #[.slice a l.length cap, .int .i64 room] 33)).alloc (.cells #[.int .i64 s.kind, .int .i64 s.inn, .int .i64 s.out] 36)).alloc (.cells #[] 3) := ⟨_, rfl⟩
  rw [← hw0]
  obtain ⟨t1, t2, t3⟩ := three_alloc w (.cells #[.slice a l.length cap, .int .i64 room] 33) (.cells #[.int .i64 s.kind, .int .i64 s.inn, .int .i64 s.out] 36) (.cells #[] 3)
  rw [← hw0] at t1 t2 t3
  have b0 : Below w.heap.size w w0 := by rw [hw0]; exact (((Below.refl _ _).alloc (Nat.le_refl _) _).alloc (by simp) _).alloc (by simp; omega) _
  have z0 : w0.heap.size = w.heap.size + 3 := by rw [hw0]; simp
  obtain ⟨x0, x1, _⟩ := two t1
  have s0 : w0.cell? ⟨w.heap.size + 1, 0, none⟩ = some (.int .i64 s.kind) := by simp [World.cell?, t2]
  have s1 : w0.cell? ⟨w.heap.size + 1, 1, none⟩ = some (.int .i64 s.inn) := by simp [World.cell?, t2]
  have s2 : w0.cell? ⟨w.heap.size + 1, 2, none⟩ = some (.int .i64 s.out) := by simp [World.cell?, t2]
  have HNIL := hide (fun x (hx : Below w0.heap.size w0 x) => show RowI w.heap.size x (.slice (some ⟨w.heap.size + 1 + 1, 0, none⟩) 0 0) [] from ownsRow_on (show w0.ownsRow w.heap.size 3 1 _ 0 [] from ⟨rfl, Or.inr ⟨w.heap.size + 1 + 1, 0, #[], rfl, by omega, t3, Nat.zero_le _, Nat.zero_le _, rfl, rfl⟩⟩) hx)
  have HB0 := hide b0
  have hk0 : w.heap.size < w0.heap.size := by omega
  have hk1 : w.heap.size + 1 < w0.heap.size := by omega
  clear hw0 b0 t1 t2 t3
  have HCO := hide (specStateOk_any a l cap room sa set sc w0 ((unhide HP).on (unhide HB0)) ((unhide HS).on (unhide HB0)))
  go_wp2_with fail
  refine (unhide HCO).mono ?_
  rintro e w1 ⟨rfl, b1⟩
  rw [← b1.cell (p := ⟨w.heap.size, _, none⟩) hk0] at x0 x1
  rw [← b1.cell (p := ⟨w.heap.size + 1, _, none⟩) hk1] at s0 s1 s2
  have HB1 := hide b1
  clear b1 HCO
  cases hok : okZ l room set with
  | false =>
    have HE := hide (show specDo l room set s = none by unfold specDo mayB; rw [hok]; rfl)
    clear hok
    go_wp2_with fail
    exact bodyPost_ret (v := .tuple #[.slice (some ⟨w.heap.size + 1 + 1, 0, none⟩) 0 0, .bool false]) (by simp [results, Tryz.results8, go_sem]) rfl ⟨DoOut.nil (unhide HNIL _ (unhide HB1)) (unhide HE), (unhide HB0).trans ((unhide HB1).mono (unhide HB0).size)⟩
  | true =>
    have HOK := hide hok
    clear hok
    have HCL := hide (l3Step_any a l cap room s w1 ((unhide HP).on ((unhide HB0).trans ((unhide HB1).mono (unhide HB0).size))))
    go_wp2_with fail
    refine (unhide HCL).mono ?_
    rintro e w2 ⟨rfl, b2⟩
    have hzz1 := (unhide HB1).size
    rw [← b2.cell (p := ⟨w.heap.size, _, none⟩) (by simp; omega)] at x0 x1
    rw [← b2.cell (p := ⟨w.heap.size + 1, _, none⟩) (by simp; omega)] at s0 s1 s2
    have HB2 := hide ((unhide HB1).trans (b2.mono (unhide HB1).size))
    clear b2 HCL HB1
    cases hst : (stepsL l room).any (fun t => eqS t s) with
    | false =>
      have HE := hide (show specDo l room set s = none by unfold specDo mayB; rw [hst]; simp)
      clear hst
      go_wp2_with fail
      exact bodyPost_ret (v := .tuple #[.slice (some ⟨w.heap.size + 1 + 1, 0, none⟩) 0 0, .bool false]) (by simp [results, Tryz.results8, go_sem]) rfl ⟨DoOut.nil (unhide HNIL _ (unhide HB2)) (unhide HE), (unhide HB0).trans ((unhide HB2).mono (unhide HB0).size)⟩
    | true =>
      obtain ⟨hr, m, hm, hsm⟩ := any_step hst
      have hw8 := moves_within (repo8 hr) hm
      have HST := hide hst
      clear hst hm
      subst hsm
      cases m with
      | put i =>
        simp only [MvD.step] at s0 s1 s2
        have hiL : i < l.length := hw8
        have HSB : Hid (SetAt w2 sa set) := (unhide HS).on ((unhide HB0).trans ((unhide HB2).mono (unhide HB0).size))
        have HHAS := hide (l3Has_any sa set sc (i : Int) w2 (unhide HSB))
        go_wp2_with fail
        refine (unhide HHAS).mono ?_
        rintro e w3 ⟨rfl, hw3⟩
        obtain rfl := hw3.symm
        clear HHAS
        cases hin : set.any (· == (i : Int)) with
        | true =>
          have HE := hide (show specDo l room set (MvD.put i).step = none by unfold specDo mayB MvD.step; simp only [hin]; simp)
          clear hin
          go_wp2_with fail
          exact bodyPost_ret (v := .tuple #[.slice (some ⟨w.heap.size + 1 + 1, 0, none⟩) 0 0, .bool false]) (by simp [results, Tryz.results8, go_sem]) rfl ⟨DoOut.nil (unhide HNIL _ (unhide HB2)) (unhide HE), (unhide HB0).trans ((unhide HB2).mono (unhide HB0).size)⟩
        | false =>
          have HSP := hide (show specDo l room set (MvD.put i).step = if (readyB l set (i : Int) && decide (sizeZ l room set + (l.getD i dPack).size ≤ room)) && okZ l room (putZ set (i : Int)) then some (putZ set (i : Int)) else none by
            unfold specDo mayB thenZ inB2 outZ
            rw [unhide HOK, unhide HST]
            simp only [MvD.step, hin]
            simp)
          clear hin
          have hzz2 := (unhide HB2).size
          have bA := (Below.refl w2.heap.size w2).alloc (Nat.le_refl _) (.cells #[] 3)
          have hown := row_down (RowI.nil w2) (show w.heap.size ≤ w2.heap.size by omega)
          have hno : sa = none → set.length = 0 ∧ sc = 0 := fun e => by
            refine ⟨?_, hsc e⟩
            rcases (unhide HSB).2 with h | ⟨b, o, ha, _⟩
            · rw [h]; rfl
            · rw [e] at ha; cases ha
          have hnews : ∀ ad, sa = some ad → ∀ j u, (set.map fun i => Value.int .i64 i)[j]? = some u → (w2.alloc (.cells #[] 3)).cell? (ad.add j) = some u := fun ad e => by
            have h := (unhide HSB).on bA
            rw [e] at h
            exact copy_news h
          go_wp2_with (first
            | (at_builtin; refine wpList_append_src rfl _ _ 25 rfl w.heap.size 3 i0 (.int .i64 0) 1 8 Tryz.underlying25 hi hz0 hz1 hz2 rfl (by decide) _ _ _ rfl hown sa set.length sc (set.map fun i => Value.int .i64 i) rfl hno (by simp) hnews ?cc2 ?cc3 ?cc4 ?cc5 ?_))
          case cc2 => intro u hu; obtain ⟨z, _, rfl⟩ := List.mem_map.1 hu; rfl
          case cc3 => unfold maxLen; simp; omega
          case cc4 => simp; omega
          case cc5 => simp; omega
          intro cv w4 hown' hgrow
          have HCV : Hid (RowI w.heap.size w4 cv set) := by
            show World.ownsRow _ _ _ _ _ _ _
            simpa using hown'
          have hb24 : Below w2.heap.size w2 w4 := bA.grown hgrow (by simp) (fun j hj => by simp [Value.ownBlock] at hj; omega)
          have HB24 := hide hb24
          have hb4 := (unhide HB2).trans (hb24.mono hzz2)
          clear hnews hown hown' hgrow bA hb24 hno
          have HB4 := hide hb4
          have hzz4 := (unhide HB4).size
          rw [← (unhide HB24).cell (p := ⟨w.heap.size, _, none⟩) (by simp; omega)] at x0 x1
          rw [← (unhide HB24).cell (p := ⟨w.heap.size + 1, _, none⟩) (by simp; omega)] at s0 s1 s2
          clear HB2 HSB HB24 hb4
          obtain ⟨ca, cc, rfl, _⟩ := RowI.set (unhide HCV) (by omega)
          have HIN : Hid (∀ j, j < set.length → 0 ≤ set.getD j 0 ∧ set.getD j 0 < l.length) := fun j hj => form_place (okz_form (unhide HOK)) hj
          have HRW := HCV
          clear HCV
          have hPk := (unhide HP).on ((unhide HB0).trans ((unhide HB4).mono (unhide HB0).size))
          have HSK := hide ((unhide HS).on ((unhide HB0).trans ((unhide HB4).mono (unhide HB0).size)))
          have HCK := hide ((unhide HCA).on ((unhide HB0).trans ((unhide HB4).mono (unhide HB0).size)))
          rcases hPk.2 with hnil | ⟨pb, po, rfl, hpS, hpk⟩
          · rw [hnil] at hiL; simp at hiL
          obtain ⟨_, _, _, _, _, _, hce, _⟩ := hpk i hiL
          have n2 := hce.size
          have hpw : pb < w4.heap.size := hpS
          have HPK := hide hPk
          have hfm := okz_form (unhide HOK)
          have hsb := sum_bound hfm set.length (Nat.le_refl _)
          have hszz : sizeZ l room set = sumTo l set set.length := by unfold sizeZ; rw [hfm]; rfl
          have hs8 : set.length ≤ 8 := by
            have h1 := set_places hfm
            have h3 : set.length = (set.map Int.toNat).length := by simp
            rw [h3, ← h1]
            exact places_le _ _
          have hps := (form_ok hfm).size i hiL
          have HRD := hide (fun x (hx : Below w4.heap.size w4 x) => l3Ready_any (some ⟨pb, po, none⟩) l cap room ca set cc i hiL (unhide HIN) x ((unhide HPK).on hx) ((unhide HCK).on hx) (set_of (ownsRow_on (unhide HRW) hx) (by omega)))
          have HSZ := hide (fun x (hx : Below w4.heap.size w4 x) => specStateSize_any (some ⟨pb, po, none⟩) l cap room sa set sc x ((unhide HPK).on hx) ((unhide HSK).on hx))
          generalize sizeZ l room set = zz at HSZ hszz HSP
          generalize (l.getD i dPack).size = psz at n2 hps HSP
          have hwr : IntKind.i64.wrap (zz + psz) = zz + psz := by rw [IntKind.wrap_i64]; omega
          have hi0 : (0 : Int) ≤ (i : Int) := by omega
          have hi1 : (i : Int) < (l.length : Int) := by omega
          have hlw : w.heap.size < w4.heap.size := by omega
          have hlw1 : w.heap.size + 1 < w4.heap.size := by omega
          clear hPk hpk hce hfm hsb hszz hps HCK HSK
          cases hrd : readyB l set (i : Int) with
          | false =>
            rw [hrd] at HRD HSP
            have HE := hide (show specDo l room set (MvD.put i).step = none from (unhide HSP).trans (by simp))
            clear HSP
            go_upto_region 8 with fail
            refine wp_region_mix (k := 100) 21 [] [.agg #[.slice (some ⟨pb, po, none⟩) l.length cap, .int .i64 room], .slice ca set.length cc, .pointer (some ⟨w.heap.size + 1, 1, none⟩), .int .i64 (i : Int), .bool false, .bool true, .bool true, undef, undef, undef, undef, undef, undef, undef, undef, undef, undef, undef, undef, undef, undef] (CZ w4) (by kernel_rfl) (by kernel_rfl) (by kernel_rfl) (by kernel_rfl) (by kernel_rfl) (by kernel_rfl) ⟨(Below.refl _ _).drew⟩ ?_ ?_ ?_
            · intro full hfull i oo hi hns ho x fl us hC hb
              simp [putAll, slotOf, Act.put] at hfull
              subst hfull
              have bx := hC.below
              rw [← bx.cell (p := ⟨w.heap.size, _, none⟩) hlw] at x0 x1
              rw [← bx.cell (p := ⟨w.heap.size + 1, _, none⟩) hlw1] at s0 s1 s2
              rw [← bx.cell (p := ⟨pb, _, none⟩) hpw] at n2
              have hC0 := hC.on (b' := fl) (Below.refl _ _)
              match i with
              | 0 => simp at ho; subst ho; simp [gwp, Region.wanted, yielded]; go_simp; first | done | exact hC0 | exact ⟨rfl, hC0⟩ | (simp; exact hC0)
              | 1 => simp at ho; subst ho; simp [gwp, Region.wanted, yielded]; go_simp; first | done | exact hC0 | exact ⟨rfl, hC0⟩ | (simp; exact hC0)
              | 2 => simp at ho; subst ho; simp [gwp, Region.wanted, yielded]; go_simp; first | done | exact hC0 | exact ⟨rfl, hC0⟩ | (simp; exact hC0)
              | 3 => simp at ho; subst ho; simp [gwp, Region.wanted, yielded]; go_simp; first | done | exact hC0 | exact ⟨rfl, hC0⟩ | (simp; exact hC0)
              | 4 =>
                simp at ho; subst ho; simp [gwp, Region.wanted, yielded]; go_simp
                refine (unhide HRD x bx).mono ?_
                rintro e w' ⟨rfl, hb2⟩
                go_simp
                first | done | exact hC.on hb2 | exact ⟨rfl, hC.on hb2⟩ | (simp; exact hC.on hb2)
              | 5 => simp at ho; subst ho; simp [gwp, Region.wanted, yielded]; go_simp; first | done | exact hC0 | exact ⟨rfl, hC0⟩ | (simp; exact hC0)
              | 6 => simp at ho; subst ho; simp [gwp, Region.wanted, yielded]; go_simp; first | done | exact hC0 | exact ⟨rfl, hC0⟩ | (simp; exact hC0)
              | 7 => simp at ho; subst ho; simp [gwp, Region.wanted, yielded]; go_simp; first | done | exact hC0 | exact ⟨rfl, hC0⟩ | (simp; exact hC0)
              | 8 => simp at ho; subst ho; simp [gwp, Region.wanted, yielded]; go_simp; first | done | exact hC0 | exact ⟨rfl, hC0⟩ | (simp; exact hC0)
              | 9 => simp at ho; subst ho; simp [gwp, Region.wanted, yielded]; go_simp; first | done | exact hC0 | exact ⟨rfl, hC0⟩ | (simp; exact hC0)
              | 10 => simp at ho; subst ho; simp [gwp, Region.wanted, yielded]; go_simp; first | done | exact hC0 | exact ⟨rfl, hC0⟩ | (simp; exact hC0)
              | 11 => simp at ho; subst ho; simp [gwp, Region.wanted, yielded]; go_simp; first | done | exact hC0 | exact ⟨rfl, hC0⟩ | (simp; exact hC0)
              | 12 => simp at ho; subst ho; simp [gwp, Region.wanted, yielded]; go_simp; first | done | exact hC0 | exact ⟨rfl, hC0⟩ | (simp; exact hC0)
              | 13 => simp at ho; subst ho; simp [gwp, Region.wanted, yielded]; go_simp; first | done | exact hC0 | exact ⟨rfl, hC0⟩ | (simp; exact hC0)
              | 14 => simp at ho; subst ho; simp [gwp, Region.wanted, yielded]; go_simp; first | done | exact hC0 | exact ⟨rfl, hC0⟩ | (simp; exact hC0)
              | 15 => simp at ho; subst ho; simp [gwp, Region.wanted, yielded]; go_simp; first | done | exact hC0 | exact ⟨rfl, hC0⟩ | (simp; exact hC0)
              | 16 => simp at ho; subst ho; simp [gwp, Region.wanted, yielded]; go_simp; first | done | exact hC0 | exact ⟨rfl, hC0⟩ | (simp; exact hC0)
              | 17 => simp at ho; subst ho; simp [gwp, Region.wanted, yielded]; go_simp; first | done | exact hC0 | exact ⟨rfl, hC0⟩ | (simp; exact hC0)
              | 18 => simp at ho; subst ho; simp [gwp, Region.wanted, yielded]; go_simp; first | done | exact hC0 | exact ⟨rfl, hC0⟩ | (simp; exact hC0)
              | 19 => simp at ho; subst ho; simp [gwp, Region.wanted, yielded]; go_simp; first | done | exact hC0 | exact ⟨rfl, hC0⟩ | (simp; exact hC0)
              | 20 => simp at ho; subst ho; simp [gwp, Region.wanted, yielded]; go_simp; first | done | exact hC0 | exact ⟨rfl, hC0⟩ | (simp; exact hC0)
              | i + 21 => omega
            · intro full hfull us j hj
              simp at hj
            · intro full hfull us w8 hus hC
              simp [putAll, slotOf, Act.put] at hfull
              subst hfull
              match us, hus with
              | [], _ =>
              have b8 := hC.below
              rw [← b8.cell (p := ⟨w.heap.size, _, none⟩) hlw] at x0 x1
              rw [← b8.cell (p := ⟨w.heap.size + 1, _, none⟩) hlw1] at s0 s1 s2
              have HRW8 := hide (show RowI w.heap.size w8 _ set from ownsRow_on (unhide HRW) b8)
              have HB8 := hide ((unhide HB4).trans (b8.mono (unhide HB4).size))
              clear hC b8 HRW HB4 n2
              simp [putP]
              go_wp2_with fail
              exact bodyPost_ret (v := .tuple #[.slice (some ⟨w.heap.size + 1 + 1, 0, none⟩) 0 0, .bool false]) (by simp [results, Tryz.results8, go_sem]) rfl ⟨DoOut.nil (unhide HNIL _ (unhide HB8)) (unhide HE), (unhide HB0).trans ((unhide HB8).mono (unhide HB0).size)⟩
          | true =>
            rw [hrd] at HRD HSP
            by_cases hle : zz + psz ≤ room
            · have hgt : ¬ room < zz + psz := by omega
              have HSP2 := hide (show specDo l room set (MvD.put i).step = if okZ l room (putZ set (i : Int)) then some (putZ set (i : Int)) else none from (unhide HSP).trans (by simp [hle]))
              clear HSP
              go_upto_region 8 with fail
              refine wp_region_mix (k := 100) 21 [] [.agg #[.slice (some ⟨pb, po, none⟩) l.length cap, .int .i64 room], .slice ca set.length cc, .pointer (some ⟨w.heap.size + 1, 1, none⟩), .int .i64 (i : Int), .bool true, .bool false, .bool false, .agg #[.slice (some ⟨pb, po, none⟩) l.length cap, .int .i64 room], .slice sa set.length sc, .int .i64 zz, .pointer (some ⟨w.heap.size, 0, none⟩), .slice (some ⟨pb, po, none⟩) l.length cap, .pointer (some ⟨w.heap.size + 1, 1, none⟩), .int .i64 (i : Int), .pointer (some ⟨pb, po + i * 6, none⟩), .pointer (some ⟨pb, po + i * 6 + 2, none⟩), .int .i64 psz, .int .i64 (zz + psz), .pointer (some ⟨w.heap.size, 1, none⟩), .int .i64 room, .bool false] (CZ w4) (by kernel_rfl) (by kernel_rfl) (by kernel_rfl) (by kernel_rfl) (by kernel_rfl) (by kernel_rfl) ⟨(Below.refl _ _).drew⟩ ?_ ?_ ?_
              · intro full hfull i oo hi hns ho x fl us hC hb
                simp [putAll, slotOf, Act.put] at hfull
                subst hfull
                have bx := hC.below
                rw [← bx.cell (p := ⟨w.heap.size, _, none⟩) hlw] at x0 x1
                rw [← bx.cell (p := ⟨w.heap.size + 1, _, none⟩) hlw1] at s0 s1 s2
                rw [← bx.cell (p := ⟨pb, _, none⟩) hpw] at n2
                have hC0 := hC.on (b' := fl) (Below.refl _ _)
                match i with
                | 0 => simp at ho; subst ho; simp [gwp, Region.wanted, yielded]; go_simp; first | done | exact hC0 | exact ⟨rfl, hC0⟩ | (simp; exact hC0)
                | 1 => simp at ho; subst ho; simp [gwp, Region.wanted, yielded]; go_simp; first | done | exact hC0 | exact ⟨rfl, hC0⟩ | (simp; exact hC0)
                | 2 => simp at ho; subst ho; simp [gwp, Region.wanted, yielded]; go_simp; first | done | exact hC0 | exact ⟨rfl, hC0⟩ | (simp; exact hC0)
                | 3 => simp at ho; subst ho; simp [gwp, Region.wanted, yielded]; go_simp; first | done | exact hC0 | exact ⟨rfl, hC0⟩ | (simp; exact hC0)
                | 4 =>
                  simp at ho; subst ho; simp [gwp, Region.wanted, yielded]; go_simp
                  refine (unhide HRD x bx).mono ?_
                  rintro e w' ⟨rfl, hb2⟩
                  go_simp
                  first | done | exact hC.on hb2 | exact ⟨rfl, hC.on hb2⟩ | (simp; exact hC.on hb2)
                | 5 => simp at ho; subst ho; simp [gwp, Region.wanted, yielded]; go_simp; first | done | exact hC0 | exact ⟨rfl, hC0⟩ | (simp; exact hC0)
                | 6 => simp at ho; subst ho; simp [gwp, Region.wanted, yielded]; go_simp; first | done | exact hC0 | exact ⟨rfl, hC0⟩ | (simp; exact hC0)
                | 7 => simp at ho; subst ho; simp [gwp, Region.wanted, yielded]; go_simp; first | done | exact hC0 | exact ⟨rfl, hC0⟩ | (simp; exact hC0)
                | 8 => simp at ho; subst ho; simp [gwp, Region.wanted, yielded]; go_simp; first | done | exact hC0 | exact ⟨rfl, hC0⟩ | (simp; exact hC0)
                | 9 =>
                  simp at ho; subst ho; simp [gwp, Region.wanted, yielded]; go_simp
                  refine (unhide HSZ x bx).mono ?_
                  rintro e w' ⟨rfl, hb2⟩
                  go_simp
                  first | done | exact hC.on hb2 | exact ⟨rfl, hC.on hb2⟩ | (simp; exact hC.on hb2)
                | 10 => simp at ho; subst ho; simp [gwp, Region.wanted, yielded]; go_simp; first | done | exact hC0 | exact ⟨rfl, hC0⟩ | (simp; exact hC0)
                | 11 => simp at ho; subst ho; simp [gwp, Region.wanted, yielded]; go_simp; first | done | exact hC0 | exact ⟨rfl, hC0⟩ | (simp; exact hC0)
                | 12 => simp at ho; subst ho; simp [gwp, Region.wanted, yielded]; go_simp; first | done | exact hC0 | exact ⟨rfl, hC0⟩ | (simp; exact hC0)
                | 13 => simp at ho; subst ho; simp [gwp, Region.wanted, yielded]; go_simp; first | done | exact hC0 | exact ⟨rfl, hC0⟩ | (simp; exact hC0)
                | 14 => simp at ho; subst ho; simp [gwp, Region.wanted, yielded]; go_simp; first | done | exact hC0 | exact ⟨rfl, hC0⟩ | (simp; exact hC0)
                | 15 => simp at ho; subst ho; simp [gwp, Region.wanted, yielded]; go_simp; first | done | exact hC0 | exact ⟨rfl, hC0⟩ | (simp; exact hC0)
                | 16 => simp at ho; subst ho; simp [gwp, Region.wanted, yielded]; go_simp; first | done | exact hC0 | exact ⟨rfl, hC0⟩ | (simp; exact hC0)
                | 17 => simp at ho; subst ho; simp [gwp, Region.wanted, yielded]; go_simp; first | done | exact hC0 | exact ⟨rfl, hC0⟩ | (simp; exact hC0)
                | 18 => simp at ho; subst ho; simp [gwp, Region.wanted, yielded]; go_simp; first | done | exact hC0 | exact ⟨rfl, hC0⟩ | (simp; exact hC0)
                | 19 => simp at ho; subst ho; simp [gwp, Region.wanted, yielded]; go_simp; first | done | exact hC0 | exact ⟨rfl, hC0⟩ | (simp; exact hC0)
                | 20 => simp at ho; subst ho; simp [gwp, Region.wanted, yielded]; go_simp; first | done | exact hC0 | exact ⟨rfl, hC0⟩ | (simp; exact hC0)
                | i + 21 => omega
              · intro full hfull us j hj
                simp at hj
              · intro full hfull us w8 hus hC
                simp [putAll, slotOf, Act.put] at hfull
                subst hfull
                match us, hus with
                | [], _ =>
                have b8 := hC.below
                rw [← b8.cell (p := ⟨w.heap.size, _, none⟩) hlw] at x0 x1
                rw [← b8.cell (p := ⟨w.heap.size + 1, _, none⟩) hlw1] at s0 s1 s2
                have HRW8 := hide (show RowI w.heap.size w8 _ set from ownsRow_on (unhide HRW) b8)
                have HB8 := hide ((unhide HB4).trans (b8.mono (unhide HB4).size))
                clear hC b8 HRW HB4 n2
                simp [putP]
                clear hgt hle hwr hi0 hi1 hlw hlw1
                have hzz8 := (unhide HB8).size
                have HPU := hide (l3Put_any ca set cc (i : Int) w8 (set_of (unhide HRW8) (by omega)))
                go_wp2_with fail
                refine (unhide HPU).mono ?_
                rintro e w9 ⟨⟨v9, rfl, hrow9⟩, b9⟩
                rw [← b9.cell (p := ⟨w.heap.size, _, none⟩) (by simp; omega)] at x0 x1
                rw [← b9.cell (p := ⟨w.heap.size + 1, _, none⟩) (by simp; omega)] at s0 s1 s2
                have HB9 := hide ((unhide HB8).trans (b9.mono (unhide HB8).size))
                have hpl := putZ_len set (i : Int)
                have HRW9 := hide (row_down hrow9 (show w.heap.size ≤ w8.heap.size by omega))
                obtain ⟨ca9, cc9, rfl⟩ : ∃ ca cc, v9 = .slice ca (putZ set (i : Int)).length cc := by
                  rcases hrow9.2 with ⟨hv, h0⟩ | ⟨g, cap, cur, hv, _⟩
                  · exact ⟨none, 0, by rw [hv, h0]⟩
                  · exact ⟨_, _, hv⟩
                clear b9 hrow9 HPU HB8 HRW8
                generalize putZ set (i : Int) = ol2 at HSP2 HRW9 hpl ⊢
                have HSP := HSP2
                have HRW : Hid (RowI w.heap.size w9 (.slice ca9 ol2.length cc9) ol2) := HRW9
                clear HSP2 HRW9
                have HCK := hide (specStateOk_any (some ⟨pb, po, none⟩) l cap room ca9 ol2 cc9 w9 ((unhide HP).on ((unhide HB0).trans ((unhide HB9).mono (unhide HB0).size))) (set_of (unhide HRW) (by omega)))
                go_wp2_with fail
                refine (unhide HCK).mono ?_
                rintro e w10 ⟨rfl, b10⟩
                have HRW2 := hide (show RowI w.heap.size w10 _ ol2 from ownsRow_on (unhide HRW) b10)
                have HB10 := hide ((unhide HB9).trans (b10.mono (unhide HB9).size))
                clear b10 HB9 HCK HRW x0 x1 s0 s1 s2
                cases hol : okZ l room ol2 with
                | false =>
                  have HE := hide (show specDo l room set (MvD.put i).step = none from (unhide HSP).trans (by simp [hol]))
                  clear hol HSP
                  go_wp2_with fail
                  exact bodyPost_ret (v := .tuple #[.slice (some ⟨w.heap.size + 1 + 1, 0, none⟩) 0 0, .bool false]) (by simp [results, Tryz.results8, go_sem]) rfl ⟨DoOut.nil (unhide HNIL _ (unhide HB10)) (unhide HE), (unhide HB0).trans ((unhide HB10).mono (unhide HB0).size)⟩
                | true =>
                  have HE := hide (show specDo l room set (MvD.put i).step = some ol2 from (unhide HSP).trans (by simp [hol]))
                  clear hol HSP
                  go_wp2_with fail
                  exact bodyPost_ret (v := .tuple #[.slice ca9 ol2.length cc9, .bool true]) (by simp [results, Tryz.results8, go_sem]) rfl ⟨DoOut.some (unhide HRW2) (unhide HE), (unhide HB0).trans ((unhide HB10).mono (unhide HB0).size)⟩
            · have hgt : room < zz + psz := by omega
              have HE := hide (show specDo l room set (MvD.put i).step = none from (unhide HSP).trans (by simp [hle]))
              clear HSP
              go_upto_region 8 with fail
              refine wp_region_mix (k := 100) 21 [] [.agg #[.slice (some ⟨pb, po, none⟩) l.length cap, .int .i64 room], .slice ca set.length cc, .pointer (some ⟨w.heap.size + 1, 1, none⟩), .int .i64 (i : Int), .bool true, .bool false, .bool false, .agg #[.slice (some ⟨pb, po, none⟩) l.length cap, .int .i64 room], .slice sa set.length sc, .int .i64 zz, .pointer (some ⟨w.heap.size, 0, none⟩), .slice (some ⟨pb, po, none⟩) l.length cap, .pointer (some ⟨w.heap.size + 1, 1, none⟩), .int .i64 (i : Int), .pointer (some ⟨pb, po + i * 6, none⟩), .pointer (some ⟨pb, po + i * 6 + 2, none⟩), .int .i64 psz, .int .i64 (zz + psz), .pointer (some ⟨w.heap.size, 1, none⟩), .int .i64 room, .bool true] (CZ w4) (by kernel_rfl) (by kernel_rfl) (by kernel_rfl) (by kernel_rfl) (by kernel_rfl) (by kernel_rfl) ⟨(Below.refl _ _).drew⟩ ?_ ?_ ?_
              · intro full hfull i oo hi hns ho x fl us hC hb
                simp [putAll, slotOf, Act.put] at hfull
                subst hfull
                have bx := hC.below
                rw [← bx.cell (p := ⟨w.heap.size, _, none⟩) hlw] at x0 x1
                rw [← bx.cell (p := ⟨w.heap.size + 1, _, none⟩) hlw1] at s0 s1 s2
                rw [← bx.cell (p := ⟨pb, _, none⟩) hpw] at n2
                have hC0 := hC.on (b' := fl) (Below.refl _ _)
                match i with
                | 0 => simp at ho; subst ho; simp [gwp, Region.wanted, yielded]; go_simp; first | done | exact hC0 | exact ⟨rfl, hC0⟩ | (simp; exact hC0)
                | 1 => simp at ho; subst ho; simp [gwp, Region.wanted, yielded]; go_simp; first | done | exact hC0 | exact ⟨rfl, hC0⟩ | (simp; exact hC0)
                | 2 => simp at ho; subst ho; simp [gwp, Region.wanted, yielded]; go_simp; first | done | exact hC0 | exact ⟨rfl, hC0⟩ | (simp; exact hC0)
                | 3 => simp at ho; subst ho; simp [gwp, Region.wanted, yielded]; go_simp; first | done | exact hC0 | exact ⟨rfl, hC0⟩ | (simp; exact hC0)
                | 4 =>
                  simp at ho; subst ho; simp [gwp, Region.wanted, yielded]; go_simp
                  refine (unhide HRD x bx).mono ?_
                  rintro e w' ⟨rfl, hb2⟩
                  go_simp
                  first | done | exact hC.on hb2 | exact ⟨rfl, hC.on hb2⟩ | (simp; exact hC.on hb2)
                | 5 => simp at ho; subst ho; simp [gwp, Region.wanted, yielded]; go_simp; first | done | exact hC0 | exact ⟨rfl, hC0⟩ | (simp; exact hC0)
                | 6 => simp at ho; subst ho; simp [gwp, Region.wanted, yielded]; go_simp; first | done | exact hC0 | exact ⟨rfl, hC0⟩ | (simp; exact hC0)
                | 7 => simp at ho; subst ho; simp [gwp, Region.wanted, yielded]; go_simp; first | done | exact hC0 | exact ⟨rfl, hC0⟩ | (simp; exact hC0)
                | 8 => simp at ho; subst ho; simp [gwp, Region.wanted, yielded]; go_simp; first | done | exact hC0 | exact ⟨rfl, hC0⟩ | (simp; exact hC0)
                | 9 =>
                  simp at ho; subst ho; simp [gwp, Region.wanted, yielded]; go_simp
                  refine (unhide HSZ x bx).mono ?_
                  rintro e w' ⟨rfl, hb2⟩
                  go_simp
                  first | done | exact hC.on hb2 | exact ⟨rfl, hC.on hb2⟩ | (simp; exact hC.on hb2)
                | 10 => simp at ho; subst ho; simp [gwp, Region.wanted, yielded]; go_simp; first | done | exact hC0 | exact ⟨rfl, hC0⟩ | (simp; exact hC0)
                | 11 => simp at ho; subst ho; simp [gwp, Region.wanted, yielded]; go_simp; first | done | exact hC0 | exact ⟨rfl, hC0⟩ | (simp; exact hC0)
                | 12 => simp at ho; subst ho; simp [gwp, Region.wanted, yielded]; go_simp; first | done | exact hC0 | exact ⟨rfl, hC0⟩ | (simp; exact hC0)
                | 13 => simp at ho; subst ho; simp [gwp, Region.wanted, yielded]; go_simp; first | done | exact hC0 | exact ⟨rfl, hC0⟩ | (simp; exact hC0)
                | 14 => simp at ho; subst ho; simp [gwp, Region.wanted, yielded]; go_simp; first | done | exact hC0 | exact ⟨rfl, hC0⟩ | (simp; exact hC0)
                | 15 => simp at ho; subst ho; simp [gwp, Region.wanted, yielded]; go_simp; first | done | exact hC0 | exact ⟨rfl, hC0⟩ | (simp; exact hC0)
                | 16 => simp at ho; subst ho; simp [gwp, Region.wanted, yielded]; go_simp; first | done | exact hC0 | exact ⟨rfl, hC0⟩ | (simp; exact hC0)
                | 17 => simp at ho; subst ho; simp [gwp, Region.wanted, yielded]; go_simp; first | done | exact hC0 | exact ⟨rfl, hC0⟩ | (simp; exact hC0)
                | 18 => simp at ho; subst ho; simp [gwp, Region.wanted, yielded]; go_simp; first | done | exact hC0 | exact ⟨rfl, hC0⟩ | (simp; exact hC0)
                | 19 => simp at ho; subst ho; simp [gwp, Region.wanted, yielded]; go_simp; first | done | exact hC0 | exact ⟨rfl, hC0⟩ | (simp; exact hC0)
                | 20 => simp at ho; subst ho; simp [gwp, Region.wanted, yielded]; go_simp; first | done | exact hC0 | exact ⟨rfl, hC0⟩ | (simp; exact hC0)
                | i + 21 => omega
              · intro full hfull us j hj
                simp at hj
              · intro full hfull us w8 hus hC
                simp [putAll, slotOf, Act.put] at hfull
                subst hfull
                match us, hus with
                | [], _ =>
                have b8 := hC.below
                rw [← b8.cell (p := ⟨w.heap.size, _, none⟩) hlw] at x0 x1
                rw [← b8.cell (p := ⟨w.heap.size + 1, _, none⟩) hlw1] at s0 s1 s2
                have HRW8 := hide (show RowI w.heap.size w8 _ set from ownsRow_on (unhide HRW) b8)
                have HB8 := hide ((unhide HB4).trans (b8.mono (unhide HB4).size))
                clear hC b8 HRW HB4 n2
                simp [putP]
                go_wp2_with fail
                exact bodyPost_ret (v := .tuple #[.slice (some ⟨w.heap.size + 1 + 1, 0, none⟩) 0 0, .bool false]) (by simp [results, Tryz.results8, go_sem]) rfl ⟨DoOut.nil (unhide HNIL _ (unhide HB8)) (unhide HE), (unhide HB0).trans ((unhide HB8).mono (unhide HB0).size)⟩
      | take o =>
        simp only [MvD.step] at s0 s1 s2
        have hoL : o < l.length := hw8
        have HSB : Hid (SetAt w2 sa set) := (unhide HS).on ((unhide HB0).trans ((unhide HB2).mono (unhide HB0).size))
        have HHAS := hide (l3Has_any sa set sc (o : Int) w2 (unhide HSB))
        go_wp2_with fail
        refine (unhide HHAS).mono ?_
        rintro e w3 ⟨rfl, hw3⟩
        obtain rfl := hw3.symm
        clear HHAS
        cases hin : set.any (· == (o : Int)) with
        | false =>
          have HE := hide (show specDo l room set (MvD.take o).step = none by unfold specDo mayB MvD.step; simp only [hin]; simp)
          clear hin
          go_wp2_with fail
          exact bodyPost_ret (v := .tuple #[.slice (some ⟨w.heap.size + 1 + 1, 0, none⟩) 0 0, .bool false]) (by simp [results, Tryz.results8, go_sem]) rfl ⟨DoOut.nil (unhide HNIL _ (unhide HB2)) (unhide HE), (unhide HB0).trans ((unhide HB2).mono (unhide HB0).size)⟩
        | true =>
          have HSP0 := hide (show specDo l room set (MvD.take o).step = if okZ l room (set.filter (· != (o : Int))) then some (set.filter (· != (o : Int))) else none by
            unfold specDo mayB thenZ outZ
            rw [unhide HOK, unhide HST]
            simp only [MvD.step, hin]
            simp)
          clear hin
          have hzz2 := (unhide HB2).size
          have bA := (Below.refl w2.heap.size w2).alloc (Nat.le_refl _) (.cells #[] 3)
          have hown := row_down (RowI.nil w2) (show w.heap.size ≤ w2.heap.size by omega)
          have hno : sa = none → set.length = 0 ∧ sc = 0 := fun e => by
            refine ⟨?_, hsc e⟩
            rcases (unhide HSB).2 with h | ⟨b, o, ha, _⟩
            · rw [h]; rfl
            · rw [e] at ha; cases ha
          have hnews : ∀ ad, sa = some ad → ∀ j u, (set.map fun i => Value.int .i64 i)[j]? = some u → (w2.alloc (.cells #[] 3)).cell? (ad.add j) = some u := fun ad e => by
            have h := (unhide HSB).on bA
            rw [e] at h
            exact copy_news h
          go_wp2_with (first
            | (at_builtin; refine wpList_append_src rfl _ _ 25 rfl w.heap.size 3 i0 (.int .i64 0) 1 8 Tryz.underlying25 hi hz0 hz1 hz2 rfl (by decide) _ _ _ rfl hown sa set.length sc (set.map fun i => Value.int .i64 i) rfl hno (by simp) hnews ?cc2 ?cc3 ?cc4 ?cc5 ?_))
          case cc2 => intro u hu; obtain ⟨z, _, rfl⟩ := List.mem_map.1 hu; rfl
          case cc3 => unfold maxLen; simp; omega
          case cc4 => simp; omega
          case cc5 => simp; omega
          intro cv w4 hown' hgrow
          have HCV : Hid (RowI w.heap.size w4 cv set) := by
            show World.ownsRow _ _ _ _ _ _ _
            simpa using hown'
          have hb24 : Below w2.heap.size w2 w4 := bA.grown hgrow (by simp) (fun j hj => by simp [Value.ownBlock] at hj; omega)
          have HB24 := hide hb24
          have hb4 := (unhide HB2).trans (hb24.mono hzz2)
          clear hnews hown hown' hgrow bA hb24 hno
          have HB4 := hide hb4
          have hzz4 := (unhide HB4).size
          rw [← (unhide HB24).cell (p := ⟨w.heap.size, _, none⟩) (by simp; omega)] at x0 x1
          rw [← (unhide HB24).cell (p := ⟨w.heap.size + 1, _, none⟩) (by simp; omega)] at s0 s1 s2
          clear HB2 HSB HB24 hb4
          obtain ⟨ca0, cc0, rfl, hCS⟩ := RowI.set (unhide HCV) (by omega)
          have HTK := hide (l3Take_any ca0 set cc0 (o : Int) w4 hCS)
          clear hCS HCV
          go_wp2_with fail
          refine (unhide HTK).mono ?_
          rintro e w5 ⟨⟨v5, rfl, hrow5⟩, b5⟩
          rw [← b5.cell (p := ⟨w.heap.size, _, none⟩) (by simp; omega)] at x0 x1
          rw [← b5.cell (p := ⟨w.heap.size + 1, _, none⟩) (by simp; omega)] at s0 s1 s2
          have HB5 := hide ((unhide HB4).trans (b5.mono (unhide HB4).size))
          have hfl := List.length_filter_le (· != (o : Int)) set
          have HRW5 := hide (row_down hrow5 (show w.heap.size ≤ w4.heap.size by omega))
          obtain ⟨ca, cc, rfl⟩ : ∃ ca cc, v5 = .slice ca (set.filter (· != (o : Int))).length cc := by
            rcases hrow5.2 with ⟨hv, h0⟩ | ⟨g, cap, cur, hv, _⟩
            · exact ⟨none, 0, by rw [hv, h0]⟩
            · exact ⟨_, _, hv⟩
          clear b5 hrow5 HTK HB4
          generalize hol0 : set.filter (· != (o : Int)) = ol at HSP0 HRW5 hfl
          have HSP := HSP0
          have HRW : Hid (RowI w.heap.size w5 (.slice ca ol.length cc) ol) := HRW5
          clear HSP0 HRW5 hol0
          have HCK := hide (specStateOk_any a l cap room ca ol cc w5 ((unhide HP).on ((unhide HB0).trans ((unhide HB5).mono (unhide HB0).size))) (set_of (unhide HRW) (by omega)))
          go_wp2_with fail
          refine (unhide HCK).mono ?_
          rintro e w6 ⟨rfl, b6⟩
          have HRW2 := hide (show RowI w.heap.size w6 _ ol from ownsRow_on (unhide HRW) b6)
          have HB6 := hide ((unhide HB5).trans (b6.mono (unhide HB5).size))
          clear b6 HB5 HCK HRW x0 x1 s0 s1 s2
          cases hol : okZ l room ol with
          | false =>
            have HE := hide (show specDo l room set (MvD.take o).step = none from (unhide HSP).trans (by simp [hol]))
            clear hol HSP
            go_wp2_with fail
            exact bodyPost_ret (v := .tuple #[.slice (some ⟨w.heap.size + 1 + 1, 0, none⟩) 0 0, .bool false]) (by simp [results, Tryz.results8, go_sem]) rfl ⟨DoOut.nil (unhide HNIL _ (unhide HB6)) (unhide HE), (unhide HB0).trans ((unhide HB6).mono (unhide HB0).size)⟩
          | true =>
            have HE := hide (show specDo l room set (MvD.take o).step = some ol from (unhide HSP).trans (by simp [hol]))
            clear hol HSP
            go_wp2_with fail
            exact bodyPost_ret (v := .tuple #[.slice ca ol.length cc, .bool true]) (by simp [results, Tryz.results8, go_sem]) rfl ⟨DoOut.some (unhide HRW2) (unhide HE), (unhide HB0).trans ((unhide HB6).mono (unhide HB0).size)⟩
      | swap i o =>
        simp only [MvD.step] at s0 s1 s2
        have hiL : i < l.length := hw8.1
        have hoL : o < l.length := hw8.2
        have HSB : Hid (SetAt w2 sa set) := (unhide HS).on ((unhide HB0).trans ((unhide HB2).mono (unhide HB0).size))
        have HHAS := hide (l3Has_any sa set sc (i : Int) w2 (unhide HSB))
        have HHAO := hide (l3Has_any sa set sc (o : Int) w2 (unhide HSB))
        go_wp2_with fail
        refine (unhide HHAS).mono ?_
        rintro e w3 ⟨rfl, hw3⟩
        obtain rfl := hw3.symm
        clear HHAS
        cases hin : set.any (· == (i : Int)) with
        | true =>
          have HE := hide (show specDo l room set (MvD.swap i o).step = none by unfold specDo mayB MvD.step; simp only [hin]; simp)
          clear hin HHAO
          go_wp2_with fail
          exact bodyPost_ret (v := .tuple #[.slice (some ⟨w.heap.size + 1 + 1, 0, none⟩) 0 0, .bool false]) (by simp [results, Tryz.results8, go_sem]) rfl ⟨DoOut.nil (unhide HNIL _ (unhide HB2)) (unhide HE), (unhide HB0).trans ((unhide HB2).mono (unhide HB0).size)⟩
        | false =>
          go_wp2_with fail
          refine (unhide HHAO).mono ?_
          rintro e w3 ⟨rfl, hw3⟩
          obtain rfl := hw3.symm
          clear HHAO
          cases hout : set.any (· == (o : Int)) with
          | false =>
            have HE := hide (show specDo l room set (MvD.swap i o).step = none by unfold specDo mayB MvD.step; simp only [hin, hout]; simp)
            clear hin hout
            go_wp2_with fail
            exact bodyPost_ret (v := .tuple #[.slice (some ⟨w.heap.size + 1 + 1, 0, none⟩) 0 0, .bool false]) (by simp [results, Tryz.results8, go_sem]) rfl ⟨DoOut.nil (unhide HNIL _ (unhide HB2)) (unhide HE), (unhide HB0).trans ((unhide HB2).mono (unhide HB0).size)⟩
          | true =>
            have HSP := hide (show specDo l room set (MvD.swap i o).step = if (readyB l (set.filter (· != (o : Int))) (i : Int) && decide (sizeZ l room set + (l.getD i dPack).size ≤ room)) && okZ l room (putZ (set.filter (· != (o : Int))) (i : Int)) then some (putZ (set.filter (· != (o : Int))) (i : Int)) else none by
              unfold specDo mayB thenZ inB2 outZ
              rw [unhide HOK, unhide HST]
              simp only [MvD.step, hin, hout]
              simp)
            clear hin hout
            have hzz2 := (unhide HB2).size
            have bA := (Below.refl w2.heap.size w2).alloc (Nat.le_refl _) (.cells #[] 3)
            have hown := row_down (RowI.nil w2) (show w.heap.size ≤ w2.heap.size by omega)
            have hno : sa = none → set.length = 0 ∧ sc = 0 := fun e => by
              refine ⟨?_, hsc e⟩
              rcases (unhide HSB).2 with h | ⟨b, o, ha, _⟩
              · rw [h]; rfl
              · rw [e] at ha; cases ha
            have hnews : ∀ ad, sa = some ad → ∀ j u, (set.map fun i => Value.int .i64 i)[j]? = some u → (w2.alloc (.cells #[] 3)).cell? (ad.add j) = some u := fun ad e => by
              have h := (unhide HSB).on bA
              rw [e] at h
              exact copy_news h
            go_wp2_with (first
              | (at_builtin; refine wpList_append_src rfl _ _ 25 rfl w.heap.size 3 i0 (.int .i64 0) 1 8 Tryz.underlying25 hi hz0 hz1 hz2 rfl (by decide) _ _ _ rfl hown sa set.length sc (set.map fun i => Value.int .i64 i) rfl hno (by simp) hnews ?cc2 ?cc3 ?cc4 ?cc5 ?_))
            case cc2 => intro u hu; obtain ⟨z, _, rfl⟩ := List.mem_map.1 hu; rfl
            case cc3 => unfold maxLen; simp; omega
            case cc4 => simp; omega
            case cc5 => simp; omega
            intro cv w4 hown' hgrow
            have HCV : Hid (RowI w.heap.size w4 cv set) := by
              show World.ownsRow _ _ _ _ _ _ _
              simpa using hown'
            have hb24 : Below w2.heap.size w2 w4 := bA.grown hgrow (by simp) (fun j hj => by simp [Value.ownBlock] at hj; omega)
            have HB24 := hide hb24
            have hb4 := (unhide HB2).trans (hb24.mono hzz2)
            clear hnews hown hown' hgrow bA hb24 hno
            have HB4 := hide hb4
            have hzz4 := (unhide HB4).size
            rw [← (unhide HB24).cell (p := ⟨w.heap.size, _, none⟩) (by simp; omega)] at x0 x1
            rw [← (unhide HB24).cell (p := ⟨w.heap.size + 1, _, none⟩) (by simp; omega)] at s0 s1 s2
            clear HB2 HSB HB24 hb4
            obtain ⟨ca0, cc0, rfl, hCS⟩ := RowI.set (unhide HCV) (by omega)
            have HTK := hide (l3Take_any ca0 set cc0 (o : Int) w4 hCS)
            clear hCS HCV
            go_wp2_with fail
            refine (unhide HTK).mono ?_
            rintro e w5 ⟨⟨v5, rfl, hrow5⟩, b5⟩
            rw [← b5.cell (p := ⟨w.heap.size, _, none⟩) (by simp; omega)] at x0 x1
            rw [← b5.cell (p := ⟨w.heap.size + 1, _, none⟩) (by simp; omega)] at s0 s1 s2
            have hzz5 := b5.size
            have HB5 := hide ((unhide HB4).trans (b5.mono (unhide HB4).size))
            have hfl := List.length_filter_le (· != (o : Int)) set
            have HRW5 := hide (row_down hrow5 (show w.heap.size ≤ w4.heap.size by omega))
            obtain ⟨ca, cc, rfl⟩ : ∃ ca cc, v5 = .slice ca (set.filter (· != (o : Int))).length cc := by
              rcases hrow5.2 with ⟨hv, h0⟩ | ⟨g, cap, cur, hv, _⟩
              · exact ⟨none, 0, by rw [hv, h0]⟩
              · exact ⟨_, _, hv⟩
            have HIN0 : Hid (∀ j, j < (set.filter (· != (o : Int))).length → 0 ≤ (set.filter (· != (o : Int))).getD j 0 ∧ (set.filter (· != (o : Int))).getD j 0 < l.length) := fun j hj => form_place (filter_form (okz_form (unhide HOK)) (o : Int)) hj
            clear b5 hrow5 HTK HB4
            generalize hol0 : set.filter (· != (o : Int)) = ol at HSP HRW5 hfl HIN0
            have HIN := HIN0
            have HRW : Hid (RowI w.heap.size w5 (.slice ca ol.length cc) ol) := HRW5
            clear HRW5 hol0 HIN0
            have hPk := (unhide HP).on ((unhide HB0).trans ((unhide HB5).mono (unhide HB0).size))
            have HSK := hide ((unhide HS).on ((unhide HB0).trans ((unhide HB5).mono (unhide HB0).size)))
            have HCK := hide ((unhide HCA).on ((unhide HB0).trans ((unhide HB5).mono (unhide HB0).size)))
            rcases hPk.2 with hnil | ⟨pb, po, rfl, hpS, hpk⟩
            · rw [hnil] at hiL; simp at hiL
            obtain ⟨_, _, _, _, _, _, hce, _⟩ := hpk i hiL
            have n2 := hce.size
            have hpw : pb < w5.heap.size := hpS
            have HPK := hide hPk
            have hfm := okz_form (unhide HOK)
            have hsb := sum_bound hfm set.length (Nat.le_refl _)
            have hszz : sizeZ l room set = sumTo l set set.length := by unfold sizeZ; rw [hfm]; rfl
            have hs8 : set.length ≤ 8 := by
              have h1 := set_places hfm
              have h3 : set.length = (set.map Int.toNat).length := by simp
              rw [h3, ← h1]
              exact places_le _ _
            have hps := (form_ok hfm).size i hiL
            have HRD := hide (fun x (hx : Below w5.heap.size w5 x) => l3Ready_any (some ⟨pb, po, none⟩) l cap room ca ol cc i hiL (unhide HIN) x ((unhide HPK).on hx) ((unhide HCK).on hx) (set_of (ownsRow_on (unhide HRW) hx) (by omega)))
            have HSZ := hide (fun x (hx : Below w5.heap.size w5 x) => specStateSize_any (some ⟨pb, po, none⟩) l cap room sa set sc x ((unhide HPK).on hx) ((unhide HSK).on hx))
            generalize sizeZ l room set = zz at HSZ hszz HSP
            generalize (l.getD i dPack).size = psz at n2 hps HSP
            have hwr : IntKind.i64.wrap (zz + psz) = zz + psz := by rw [IntKind.wrap_i64]; omega
            have hi0 : (0 : Int) ≤ (i : Int) := by omega
            have hi1 : (i : Int) < (l.length : Int) := by omega
            have hlw : w.heap.size < w5.heap.size := by omega
            have hlw1 : w.heap.size + 1 < w5.heap.size := by omega
            clear hPk hpk hce hfm hsb hszz hps HCK HSK
            cases hrd : readyB l ol (i : Int) with
            | false =>
              rw [hrd] at HRD HSP
              have HE := hide (show specDo l room set (MvD.swap i o).step = none from (unhide HSP).trans (by simp))
              clear HSP
              go_upto_region 8 with fail
              refine wp_region_mix (k := 100) 21 [] [.agg #[.slice (some ⟨pb, po, none⟩) l.length cap, .int .i64 room], .slice ca ol.length cc, .pointer (some ⟨w.heap.size + 1, 1, none⟩), .int .i64 (i : Int), .bool false, .bool true, .bool true, undef, undef, undef, undef, undef, undef, undef, undef, undef, undef, undef, undef, undef, undef] (CZ w5) (by kernel_rfl) (by kernel_rfl) (by kernel_rfl) (by kernel_rfl) (by kernel_rfl) (by kernel_rfl) ⟨(Below.refl _ _).drew⟩ ?_ ?_ ?_
              · intro full hfull i oo hi hns ho x fl us hC hb
                simp [putAll, slotOf, Act.put] at hfull
                subst hfull
                have bx := hC.below
                rw [← bx.cell (p := ⟨w.heap.size, _, none⟩) hlw] at x0 x1
                rw [← bx.cell (p := ⟨w.heap.size + 1, _, none⟩) hlw1] at s0 s1 s2
                rw [← bx.cell (p := ⟨pb, _, none⟩) hpw] at n2
                have hC0 := hC.on (b' := fl) (Below.refl _ _)
                match i with
                | 0 => simp at ho; subst ho; simp [gwp, Region.wanted, yielded]; go_simp; first | done | exact hC0 | exact ⟨rfl, hC0⟩ | (simp; exact hC0)
                | 1 => simp at ho; subst ho; simp [gwp, Region.wanted, yielded]; go_simp; first | done | exact hC0 | exact ⟨rfl, hC0⟩ | (simp; exact hC0)
                | 2 => simp at ho; subst ho; simp [gwp, Region.wanted, yielded]; go_simp; first | done | exact hC0 | exact ⟨rfl, hC0⟩ | (simp; exact hC0)
                | 3 => simp at ho; subst ho; simp [gwp, Region.wanted, yielded]; go_simp; first | done | exact hC0 | exact ⟨rfl, hC0⟩ | (simp; exact hC0)
                | 4 =>
                  simp at ho; subst ho; simp [gwp, Region.wanted, yielded]; go_simp
                  refine (unhide HRD x bx).mono ?_
                  rintro e w' ⟨rfl, hb2⟩
                  go_simp
                  first | done | exact hC.on hb2 | exact ⟨rfl, hC.on hb2⟩ | (simp; exact hC.on hb2)
                | 5 => simp at ho; subst ho; simp [gwp, Region.wanted, yielded]; go_simp; first | done | exact hC0 | exact ⟨rfl, hC0⟩ | (simp; exact hC0)
                | 6 => simp at ho; subst ho; simp [gwp, Region.wanted, yielded]; go_simp; first | done | exact hC0 | exact ⟨rfl, hC0⟩ | (simp; exact hC0)
                | 7 => simp at ho; subst ho; simp [gwp, Region.wanted, yielded]; go_simp; first | done | exact hC0 | exact ⟨rfl, hC0⟩ | (simp; exact hC0)
                | 8 => simp at ho; subst ho; simp [gwp, Region.wanted, yielded]; go_simp; first | done | exact hC0 | exact ⟨rfl, hC0⟩ | (simp; exact hC0)
                | 9 => simp at ho; subst ho; simp [gwp, Region.wanted, yielded]; go_simp; first | done | exact hC0 | exact ⟨rfl, hC0⟩ | (simp; exact hC0)
                | 10 => simp at ho; subst ho; simp [gwp, Region.wanted, yielded]; go_simp; first | done | exact hC0 | exact ⟨rfl, hC0⟩ | (simp; exact hC0)
                | 11 => simp at ho; subst ho; simp [gwp, Region.wanted, yielded]; go_simp; first | done | exact hC0 | exact ⟨rfl, hC0⟩ | (simp; exact hC0)
                | 12 => simp at ho; subst ho; simp [gwp, Region.wanted, yielded]; go_simp; first | done | exact hC0 | exact ⟨rfl, hC0⟩ | (simp; exact hC0)
                | 13 => simp at ho; subst ho; simp [gwp, Region.wanted, yielded]; go_simp; first | done | exact hC0 | exact ⟨rfl, hC0⟩ | (simp; exact hC0)
                | 14 => simp at ho; subst ho; simp [gwp, Region.wanted, yielded]; go_simp; first | done | exact hC0 | exact ⟨rfl, hC0⟩ | (simp; exact hC0)
                | 15 => simp at ho; subst ho; simp [gwp, Region.wanted, yielded]; go_simp; first | done | exact hC0 | exact ⟨rfl, hC0⟩ | (simp; exact hC0)
                | 16 => simp at ho; subst ho; simp [gwp, Region.wanted, yielded]; go_simp; first | done | exact hC0 | exact ⟨rfl, hC0⟩ | (simp; exact hC0)
                | 17 => simp at ho; subst ho; simp [gwp, Region.wanted, yielded]; go_simp; first | done | exact hC0 | exact ⟨rfl, hC0⟩ | (simp; exact hC0)
                | 18 => simp at ho; subst ho; simp [gwp, Region.wanted, yielded]; go_simp; first | done | exact hC0 | exact ⟨rfl, hC0⟩ | (simp; exact hC0)
                | 19 => simp at ho; subst ho; simp [gwp, Region.wanted, yielded]; go_simp; first | done | exact hC0 | exact ⟨rfl, hC0⟩ | (simp; exact hC0)
                | 20 => simp at ho; subst ho; simp [gwp, Region.wanted, yielded]; go_simp; first | done | exact hC0 | exact ⟨rfl, hC0⟩ | (simp; exact hC0)
                | i + 21 => omega
              · intro full hfull us j hj
                simp at hj
              · intro full hfull us w8 hus hC
                simp [putAll, slotOf, Act.put] at hfull
                subst hfull
                match us, hus with
                | [], _ =>
                have b8 := hC.below
                rw [← b8.cell (p := ⟨w.heap.size, _, none⟩) hlw] at x0 x1
                rw [← b8.cell (p := ⟨w.heap.size + 1, _, none⟩) hlw1] at s0 s1 s2
                have HRW8 := hide (show RowI w.heap.size w8 _ ol from ownsRow_on (unhide HRW) b8)
                have HB8 := hide ((unhide HB5).trans (b8.mono (unhide HB5).size))
                clear hC b8 HRW HB5 n2
                simp [putP]
                go_wp2_with fail
                exact bodyPost_ret (v := .tuple #[.slice (some ⟨w.heap.size + 1 + 1, 0, none⟩) 0 0, .bool false]) (by simp [results, Tryz.results8, go_sem]) rfl ⟨DoOut.nil (unhide HNIL _ (unhide HB8)) (unhide HE), (unhide HB0).trans ((unhide HB8).mono (unhide HB0).size)⟩
            | true =>
              rw [hrd] at HRD HSP
              by_cases hle : zz + psz ≤ room
              · have hgt : ¬ room < zz + psz := by omega
                have HSP2 := hide (show specDo l room set (MvD.swap i o).step = if okZ l room (putZ ol (i : Int)) then some (putZ ol (i : Int)) else none from (unhide HSP).trans (by simp [hle]))
                clear HSP
                go_upto_region 8 with fail
                refine wp_region_mix (k := 100) 21 [] [.agg #[.slice (some ⟨pb, po, none⟩) l.length cap, .int .i64 room], .slice ca ol.length cc, .pointer (some ⟨w.heap.size + 1, 1, none⟩), .int .i64 (i : Int), .bool true, .bool false, .bool false, .agg #[.slice (some ⟨pb, po, none⟩) l.length cap, .int .i64 room], .slice sa set.length sc, .int .i64 zz, .pointer (some ⟨w.heap.size, 0, none⟩), .slice (some ⟨pb, po, none⟩) l.length cap, .pointer (some ⟨w.heap.size + 1, 1, none⟩), .int .i64 (i : Int), .pointer (some ⟨pb, po + i * 6, none⟩), .pointer (some ⟨pb, po + i * 6 + 2, none⟩), .int .i64 psz, .int .i64 (zz + psz), .pointer (some ⟨w.heap.size, 1, none⟩), .int .i64 room, .bool false] (CZ w5) (by kernel_rfl) (by kernel_rfl) (by kernel_rfl) (by kernel_rfl) (by kernel_rfl) (by kernel_rfl) ⟨(Below.refl _ _).drew⟩ ?_ ?_ ?_
                · intro full hfull i oo hi hns ho x fl us hC hb
                  simp [putAll, slotOf, Act.put] at hfull
                  subst hfull
                  have bx := hC.below
                  rw [← bx.cell (p := ⟨w.heap.size, _, none⟩) hlw] at x0 x1
                  rw [← bx.cell (p := ⟨w.heap.size + 1, _, none⟩) hlw1] at s0 s1 s2
                  rw [← bx.cell (p := ⟨pb, _, none⟩) hpw] at n2
                  have hC0 := hC.on (b' := fl) (Below.refl _ _)
                  match i with
                  | 0 => simp at ho; subst ho; simp [gwp, Region.wanted, yielded]; go_simp; first | done | exact hC0 | exact ⟨rfl, hC0⟩ | (simp; exact hC0)
                  | 1 => simp at ho; subst ho; simp [gwp, Region.wanted, yielded]; go_simp; first | done | exact hC0 | exact ⟨rfl, hC0⟩ | (simp; exact hC0)
                  | 2 => simp at ho; subst ho; simp [gwp, Region.wanted, yielded]; go_simp; first | done | exact hC0 | exact ⟨rfl, hC0⟩ | (simp; exact hC0)
                  | 3 => simp at ho; subst ho; simp [gwp, Region.wanted, yielded]; go_simp; first | done | exact hC0 | exact ⟨rfl, hC0⟩ | (simp; exact hC0)
                  | 4 =>
                    simp at ho; subst ho; simp [gwp, Region.wanted, yielded]; go_simp
                    refine (unhide HRD x bx).mono ?_
                    rintro e w' ⟨rfl, hb2⟩
                    go_simp
                    first | done | exact hC.on hb2 | exact ⟨rfl, hC.on hb2⟩ | (simp; exact hC.on hb2)
                  | 5 => simp at ho; subst ho; simp [gwp, Region.wanted, yielded]; go_simp; first | done | exact hC0 | exact ⟨rfl, hC0⟩ | (simp; exact hC0)
                  | 6 => simp at ho; subst ho; simp [gwp, Region.wanted, yielded]; go_simp; first | done | exact hC0 | exact ⟨rfl, hC0⟩ | (simp; exact hC0)
                  | 7 => simp at ho; subst ho; simp [gwp, Region.wanted, yielded]; go_simp; first | done | exact hC0 | exact ⟨rfl, hC0⟩ | (simp; exact hC0)
                  | 8 => simp at ho; subst ho; simp [gwp, Region.wanted, yielded]; go_simp; first | done | exact hC0 | exact ⟨rfl, hC0⟩ | (simp; exact hC0)
                  | 9 =>
                    simp at ho; subst ho; simp [gwp, Region.wanted, yielded]; go_simp
                    refine (unhide HSZ x bx).mono ?_
                    rintro e w' ⟨rfl, hb2⟩
                    go_simp
                    first | done | exact hC.on hb2 | exact ⟨rfl, hC.on hb2⟩ | (simp; exact hC.on hb2)
                  | 10 => simp at ho; subst ho; simp [gwp, Region.wanted, yielded]; go_simp; first | done | exact hC0 | exact ⟨rfl, hC0⟩ | (simp; exact hC0)
                  | 11 => simp at ho; subst ho; simp [gwp, Region.wanted, yielded]; go_simp; first | done | exact hC0 | exact ⟨rfl, hC0⟩ | (simp; exact hC0)
                  | 12 => simp at ho; subst ho; simp [gwp, Region.wanted, yielded]; go_simp; first | done | exact hC0 | exact ⟨rfl, hC0⟩ | (simp; exact hC0)
                  | 13 => simp at ho; subst ho; simp [gwp, Region.wanted, yielded]; go_simp; first | done | exact hC0 | exact ⟨rfl, hC0⟩ | (simp; exact hC0)
                  | 14 => simp at ho; subst ho; simp [gwp, Region.wanted, yielded]; go_simp; first | done | exact hC0 | exact ⟨rfl, hC0⟩ | (simp; exact hC0)
                  | 15 => simp at ho; subst ho; simp [gwp, Region.wanted, yielded]; go_simp; first | done | exact hC0 | exact ⟨rfl, hC0⟩ | (simp; exact hC0)
                  | 16 => simp at ho; subst ho; simp [gwp, Region.wanted, yielded]; go_simp; first | done | exact hC0 | exact ⟨rfl, hC0⟩ | (simp; exact hC0)
                  | 17 => simp at ho; subst ho; simp [gwp, Region.wanted, yielded]; go_simp; first | done | exact hC0 | exact ⟨rfl, hC0⟩ | (simp; exact hC0)
                  | 18 => simp at ho; subst ho; simp [gwp, Region.wanted, yielded]; go_simp; first | done | exact hC0 | exact ⟨rfl, hC0⟩ | (simp; exact hC0)
                  | 19 => simp at ho; subst ho; simp [gwp, Region.wanted, yielded]; go_simp; first | done | exact hC0 | exact ⟨rfl, hC0⟩ | (simp; exact hC0)
                  | 20 => simp at ho; subst ho; simp [gwp, Region.wanted, yielded]; go_simp; first | done | exact hC0 | exact ⟨rfl, hC0⟩ | (simp; exact hC0)
                  | i + 21 => omega
                · intro full hfull us j hj
                  simp at hj
                · intro full hfull us w8 hus hC
                  simp [putAll, slotOf, Act.put] at hfull
                  subst hfull
                  match us, hus with
                  | [], _ =>
                  have b8 := hC.below
                  rw [← b8.cell (p := ⟨w.heap.size, _, none⟩) hlw] at x0 x1
                  rw [← b8.cell (p := ⟨w.heap.size + 1, _, none⟩) hlw1] at s0 s1 s2
                  have HRW8 := hide (show RowI w.heap.size w8 _ ol from ownsRow_on (unhide HRW) b8)
                  have HB8 := hide ((unhide HB5).trans (b8.mono (unhide HB5).size))
                  clear hC b8 HRW HB5 n2
                  simp [putP]
                  clear hgt hle hwr hi0 hi1 hlw hlw1
                  have hzz8 := (unhide HB8).size
                  have HPU := hide (l3Put_any ca ol cc (i : Int) w8 (set_of (unhide HRW8) (by omega)))
                  go_wp2_with fail
                  refine (unhide HPU).mono ?_
                  rintro e w9 ⟨⟨v9, rfl, hrow9⟩, b9⟩
                  rw [← b9.cell (p := ⟨w.heap.size, _, none⟩) (by simp; omega)] at x0 x1
                  rw [← b9.cell (p := ⟨w.heap.size + 1, _, none⟩) (by simp; omega)] at s0 s1 s2
                  have HB9 := hide ((unhide HB8).trans (b9.mono (unhide HB8).size))
                  have hpl := putZ_len ol (i : Int)
                  have HRW9 := hide (row_down hrow9 (show w.heap.size ≤ w8.heap.size by omega))
                  obtain ⟨ca9, cc9, rfl⟩ : ∃ ca cc, v9 = .slice ca (putZ ol (i : Int)).length cc := by
                    rcases hrow9.2 with ⟨hv, h0⟩ | ⟨g, cap, cur, hv, _⟩
                    · exact ⟨none, 0, by rw [hv, h0]⟩
                    · exact ⟨_, _, hv⟩
                  clear b9 hrow9 HPU HB8 HRW8
                  generalize putZ ol (i : Int) = ol2 at HSP2 HRW9 hpl ⊢
                  have HSP := HSP2
                  have HRW : Hid (RowI w.heap.size w9 (.slice ca9 ol2.length cc9) ol2) := HRW9
                  clear HSP2 HRW9
                  have HCK := hide (specStateOk_any (some ⟨pb, po, none⟩) l cap room ca9 ol2 cc9 w9 ((unhide HP).on ((unhide HB0).trans ((unhide HB9).mono (unhide HB0).size))) (set_of (unhide HRW) (by omega)))
                  go_wp2_with fail
                  refine (unhide HCK).mono ?_
                  rintro e w10 ⟨rfl, b10⟩
                  have HRW2 := hide (show RowI w.heap.size w10 _ ol2 from ownsRow_on (unhide HRW) b10)
                  have HB10 := hide ((unhide HB9).trans (b10.mono (unhide HB9).size))
                  clear b10 HB9 HCK HRW x0 x1 s0 s1 s2
                  cases hol : okZ l room ol2 with
                  | false =>
                    have HE := hide (show specDo l room set (MvD.swap i o).step = none from (unhide HSP).trans (by simp [hol]))
                    clear hol HSP
                    go_wp2_with fail
                    exact bodyPost_ret (v := .tuple #[.slice (some ⟨w.heap.size + 1 + 1, 0, none⟩) 0 0, .bool false]) (by simp [results, Tryz.results8, go_sem]) rfl ⟨DoOut.nil (unhide HNIL _ (unhide HB10)) (unhide HE), (unhide HB0).trans ((unhide HB10).mono (unhide HB0).size)⟩
                  | true =>
                    have HE := hide (show specDo l room set (MvD.swap i o).step = some ol2 from (unhide HSP).trans (by simp [hol]))
                    clear hol HSP
                    go_wp2_with fail
                    exact bodyPost_ret (v := .tuple #[.slice ca9 ol2.length cc9, .bool true]) (by simp [results, Tryz.results8, go_sem]) rfl ⟨DoOut.some (unhide HRW2) (unhide HE), (unhide HB0).trans ((unhide HB10).mono (unhide HB0).size)⟩
              · have hgt : room < zz + psz := by omega
                have HE := hide (show specDo l room set (MvD.swap i o).step = none from (unhide HSP).trans (by simp [hle]))
                clear HSP
                go_upto_region 8 with fail
                refine wp_region_mix (k := 100) 21 [] [.agg #[.slice (some ⟨pb, po, none⟩) l.length cap, .int .i64 room], .slice ca ol.length cc, .pointer (some ⟨w.heap.size + 1, 1, none⟩), .int .i64 (i : Int), .bool true, .bool false, .bool false, .agg #[.slice (some ⟨pb, po, none⟩) l.length cap, .int .i64 room], .slice sa set.length sc, .int .i64 zz, .pointer (some ⟨w.heap.size, 0, none⟩), .slice (some ⟨pb, po, none⟩) l.length cap, .pointer (some ⟨w.heap.size + 1, 1, none⟩), .int .i64 (i : Int), .pointer (some ⟨pb, po + i * 6, none⟩), .pointer (some ⟨pb, po + i * 6 + 2, none⟩), .int .i64 psz, .int .i64 (zz + psz), .pointer (some ⟨w.heap.size, 1, none⟩), .int .i64 room, .bool true] (CZ w5) (by kernel_rfl) (by kernel_rfl) (by kernel_rfl) (by kernel_rfl) (by kernel_rfl) (by kernel_rfl) ⟨(Below.refl _ _).drew⟩ ?_ ?_ ?_
                · intro full hfull i oo hi hns ho x fl us hC hb
                  simp [putAll, slotOf, Act.put] at hfull
                  subst hfull
                  have bx := hC.below
                  rw [← bx.cell (p := ⟨w.heap.size, _, none⟩) hlw] at x0 x1
                  rw [← bx.cell (p := ⟨w.heap.size + 1, _, none⟩) hlw1] at s0 s1 s2
                  rw [← bx.cell (p := ⟨pb, _, none⟩) hpw] at n2
                  have hC0 := hC.on (b' := fl) (Below.refl _ _)
                  match i with
                  | 0 => simp at ho; subst ho; simp [gwp, Region.wanted, yielded]; go_simp; first | done | exact hC0 | exact ⟨rfl, hC0⟩ | (simp; exact hC0)
                  | 1 => simp at ho; subst ho; simp [gwp, Region.wanted, yielded]; go_simp; first | done | exact hC0 | exact ⟨rfl, hC0⟩ | (simp; exact hC0)
                  | 2 => simp at ho; subst ho; simp [gwp, Region.wanted, yielded]; go_simp; first | done | exact hC0 | exact ⟨rfl, hC0⟩ | (simp; exact hC0)
                  | 3 => simp at ho; subst ho; simp [gwp, Region.wanted, yielded]; go_simp; first | done | exact hC0 | exact ⟨rfl, hC0⟩ | (simp; exact hC0)
                  | 4 =>
                    simp at ho; subst ho; simp [gwp, Region.wanted, yielded]; go_simp
                    refine (unhide HRD x bx).mono ?_
                    rintro e w' ⟨rfl, hb2⟩
                    go_simp
                    first | done | exact hC.on hb2 | exact ⟨rfl, hC.on hb2⟩ | (simp; exact hC.on hb2)
                  | 5 => simp at ho; subst ho; simp [gwp, Region.wanted, yielded]; go_simp; first | done | exact hC0 | exact ⟨rfl, hC0⟩ | (simp; exact hC0)
                  | 6 => simp at ho; subst ho; simp [gwp, Region.wanted, yielded]; go_simp; first | done | exact hC0 | exact ⟨rfl, hC0⟩ | (simp; exact hC0)
                  | 7 => simp at ho; subst ho; simp [gwp, Region.wanted, yielded]; go_simp; first | done | exact hC0 | exact ⟨rfl, hC0⟩ | (simp; exact hC0)
                  | 8 => simp at ho; subst ho; simp [gwp, Region.wanted, yielded]; go_simp; first | done | exact hC0 | exact ⟨rfl, hC0⟩ | (simp; exact hC0)
                  | 9 =>
                    simp at ho; subst ho; simp [gwp, Region.wanted, yielded]; go_simp
                    refine (unhide HSZ x bx).mono ?_
                    rintro e w' ⟨rfl, hb2⟩
                    go_simp
                    first | done | exact hC.on hb2 | exact ⟨rfl, hC.on hb2⟩ | (simp; exact hC.on hb2)
                  | 10 => simp at ho; subst ho; simp [gwp, Region.wanted, yielded]; go_simp; first | done | exact hC0 | exact ⟨rfl, hC0⟩ | (simp; exact hC0)
                  | 11 => simp at ho; subst ho; simp [gwp, Region.wanted, yielded]; go_simp; first | done | exact hC0 | exact ⟨rfl, hC0⟩ | (simp; exact hC0)
                  | 12 => simp at ho; subst ho; simp [gwp, Region.wanted, yielded]; go_simp; first | done | exact hC0 | exact ⟨rfl, hC0⟩ | (simp; exact hC0)
                  | 13 => simp at ho; subst ho; simp [gwp, Region.wanted, yielded]; go_simp; first | done | exact hC0 | exact ⟨rfl, hC0⟩ | (simp; exact hC0)
                  | 14 => simp at ho; subst ho; simp [gwp, Region.wanted, yielded]; go_simp; first | done | exact hC0 | exact ⟨rfl, hC0⟩ | (simp; exact hC0)
                  | 15 => simp at ho; subst ho; simp [gwp, Region.wanted, yielded]; go_simp; first | done | exact hC0 | exact ⟨rfl, hC0⟩ | (simp; exact hC0)
                  | 16 => simp at ho; subst ho; simp [gwp, Region.wanted, yielded]; go_simp; first | done | exact hC0 | exact ⟨rfl, hC0⟩ | (simp; exact hC0)
                  | 17 => simp at ho; subst ho; simp [gwp, Region.wanted, yielded]; go_simp; first | done | exact hC0 | exact ⟨rfl, hC0⟩ | (simp; exact hC0)
                  | 18 => simp at ho; subst ho; simp [gwp, Region.wanted, yielded]; go_simp; first | done | exact hC0 | exact ⟨rfl, hC0⟩ | (simp; exact hC0)
                  | 19 => simp at ho; subst ho; simp [gwp, Region.wanted, yielded]; go_simp; first | done | exact hC0 | exact ⟨rfl, hC0⟩ | (simp; exact hC0)
                  | 20 => simp at ho; subst ho; simp [gwp, Region.wanted, yielded]; go_simp; first | done | exact hC0 | exact ⟨rfl, hC0⟩ | (simp; exact hC0)
                  | i + 21 => omega
                · intro full hfull us j hj
                  simp at hj
                · intro full hfull us w8 hus hC
                  simp [putAll, slotOf, Act.put] at hfull
                  subst hfull
                  match us, hus with
                  | [], _ =>
                  have b8 := hC.below
                  rw [← b8.cell (p := ⟨w.heap.size, _, none⟩) hlw] at x0 x1
                  rw [← b8.cell (p := ⟨w.heap.size + 1, _, none⟩) hlw1] at s0 s1 s2
                  have HRW8 := hide (show RowI w.heap.size w8 _ ol from ownsRow_on (unhide HRW) b8)
                  have HB8 := hide ((unhide HB5).trans (b8.mono (unhide HB5).size))
                  clear hC b8 HRW HB5 n2
                  simp [putP]
                  go_wp2_with fail
                  exact bodyPost_ret (v := .tuple #[.slice (some ⟨w.heap.size + 1 + 1, 0, none⟩) 0 0, .bool false]) (by simp [results, Tryz.results8, go_sem]) rfl ⟨DoOut.nil (unhide HNIL _ (unhide HB8)) (unhide HE), (unhide HB0).trans ((unhide HB8).mono (unhide HB0).size)⟩
end Go.Proofs.YthkhaemlcmkkjaxGreat

namespace Go.Proofs.YthkhaemlcmkkjaxGreat
set_option linter.unusedVariables false
set_option linter.unusedSimpArgs false
open Go.RowKit Go.Deep

set_option maxRecDepth 100000 in
set_option maxHeartbeats 8000000 in
theorem specStepDo_no (a : Option Addr) (l : List PackD) (cap : Nat) (room : Int) (sa : Option Addr) (set : List Int) (sc : Nat) (s : StepD) (w : World) (h : PacksAt (Old w) w a l) (hs : SetAt w sa set) (hok : okZ l room set = false) :
    Calls Tryz.prog 8 #[.agg #[.slice a l.length cap, .int .i64 room], .slice sa set.length sc, .agg #[.int .i64 s.kind, .int .i64 s.inn, .int .i64 s.out]] w fun e w' => DoOut w.heap.size w' (specDo l room set s) e ∧ Below w.heap.size w w' := by
  obtain ⟨i0, hi, hz0, hz1, hz2⟩ := info_parts Tryz.infoInt'
  have HP := hide h
  have HS := hide hs
  have HE := hide (show specDo l room set s = none by unfold specDo mayB; rw [hok]; rfl)
  have HOK := hide hok
  clear h hs hok
  go_enter Tryz.func8, Tryz.ntmps8
  go_upto_region 2 with fail
  obtain ⟨w0, hw0⟩ : ∃ w0, w0 = ((w.alloc (.cells #[.slice a l.length cap, .int .i64 room] 33)).alloc (.cells #[.int .i64 s.kind, .int .i64 s.inn, .int .i64 s.out] 36)).alloc (.cells #[] 3) := ⟨_, rfl⟩
  rw [← hw0]
  obtain ⟨t1, t2, t3⟩ := three_alloc w (.cells #[.slice a l.length cap, .int .i64 room] 33) (.cells #[.int .i64 s.kind, .int .i64 s.inn, .int .i64 s.out] 36) (.cells #[] 3)
  rw [← hw0] at t1 t2 t3
  have b0 : Below w.heap.size w w0 := by rw [hw0]; exact (((Below.refl _ _).alloc (Nat.le_refl _) _).alloc (by simp) _).alloc (by simp; omega) _
  have z0 : w0.heap.size = w.heap.size + 3 := by rw [hw0]; simp
  obtain ⟨x0, x1, _⟩ := two t1
  have s0 : w0.cell? ⟨w.heap.size + 1, 0, none⟩ = some (.int .i64 s.kind) := by simp [World.cell?, t2]
  have s1 : w0.cell? ⟨w.heap.size + 1, 1, none⟩ = some (.int .i64 s.inn) := by simp [World.cell?, t2]
  have s2 : w0.cell? ⟨w.heap.size + 1, 2, none⟩ = some (.int .i64 s.out) := by simp [World.cell?, t2]
  have HNIL := hide (fun x (hx : Below w0.heap.size w0 x) => show RowI w.heap.size x (.slice (some ⟨w.heap.size + 1 + 1, 0, none⟩) 0 0) [] from ownsRow_on (show w0.ownsRow w.heap.size 3 1 _ 0 [] from ⟨rfl, Or.inr ⟨w.heap.size + 1 + 1, 0, #[], rfl, by omega, t3, Nat.zero_le _, Nat.zero_le _, rfl, rfl⟩⟩) hx)
  have HB0 := hide b0
  have hk0 : w.heap.size < w0.heap.size := by omega
  have hk1 : w.heap.size + 1 < w0.heap.size := by omega
  clear hw0 b0 t1 t2 t3
  have HCO := hide (specStateOk_any a l cap room sa set sc w0 ((unhide HP).on (unhide HB0)) ((unhide HS).on (unhide HB0)))
  go_wp2_with fail
  refine (unhide HCO).mono ?_
  rintro e w1 ⟨rfl, b1⟩
  rw [← b1.cell (p := ⟨w.heap.size, _, none⟩) hk0] at x0 x1
  rw [← b1.cell (p := ⟨w.heap.size + 1, _, none⟩) hk1] at s0 s1 s2
  have HB1 := hide b1
  clear b1 HCO
  rw [unhide HOK]
  go_wp2_with fail
  exact bodyPost_ret (v := .tuple #[.slice (some ⟨w.heap.size + 1 + 1, 0, none⟩) 0 0, .bool false]) (by simp [results, Tryz.results8, go_sem]) rfl ⟨DoOut.nil (unhide HNIL _ (unhide HB1)) (unhide HE), (unhide HB0).trans ((unhide HB1).mono (unhide HB0).size)⟩
theorem specStepDo_full (a : Option Addr) (l : List PackD) (cap : Nat) (room : Int) (sa : Option Addr) (set : List Int) (sc : Nat) (s : StepD) (w : World) (h : PacksAt (Old w) w a l) (hca : CapsAt w a l) (hs : SetAt w sa set) (hsc : sa = none → sc = 0) :
    Calls Tryz.prog 8 #[.agg #[.slice a l.length cap, .int .i64 room], .slice sa set.length sc, .agg #[.int .i64 s.kind, .int .i64 s.inn, .int .i64 s.out]] w fun e w' => DoOut w.heap.size w' (specDo l room set s) e ∧ Below w.heap.size w w' := by
  cases hok : okZ l room set with
  | false => exact specStepDo_no a l cap room sa set sc s w h hs hok
  | true =>
    have hf := okz_form hok
    have h1 := set_places hf
    have h3 : set.length = (set.map Int.toNat).length := by simp
    have h4 : set.length ≤ 8 := by
      rw [h3, ← h1]
      exact places_le _ _
    exact specStepDo_any a l cap room sa set sc s w h hca hs hsc (by omega)
end Go.Proofs.YthkhaemlcmkkjaxGreat
