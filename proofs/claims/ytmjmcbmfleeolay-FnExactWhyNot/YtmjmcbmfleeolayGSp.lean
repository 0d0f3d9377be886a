/- The specification's looks at a step. The specification's StepDo. The specification's StepDo, of states of any length. -/
import Derived.Test.YtmjmcbmfleeolayGPd
import Derived.Test.YtmjmcbmfleeolayGSpecP
import Derived.Deep.QuietTactic
import Derived.Test.YtmjmcbmfleeolayDoO
import Derived.Laws.AppendOwnNone
namespace Go.Proofs.Ytmjmcbmfleeolay
set_option linter.unusedVariables false
set_option linter.unusedSimpArgs false
open Go.RowKit Go.Deep

set_option maxRecDepth 100000 in
set_option maxHeartbeats 2000000 in
theorem l3Step_any (a : Option Addr) (l : List PackD) (cap : Nat) (room : Int) (s : StepD) (w : World) (h : PacksAt (Old w) w a l) :
    Calls Try.prog 36 #[.agg #[.slice a l.length cap, .int .i64 room], .agg #[.int .i64 s.kind, .int .i64 s.inn, .int .i64 s.out]] w fun e w' => e = .returned (.bool ((stepsL l room).any (fun t => eqS t s))) ∧ Below w.heap.size w w' := by
  have b1 := ((Below.refl w.heap.size w).alloc (Nat.le_refl _) (.cells #[.slice a l.length cap, .int .i64 room] 31)).alloc (by simp) (.cells #[.int .i64 s.kind, .int .i64 s.inn, .int .i64 s.out] 44)
  have HC := hide (specStepAll_any a l cap room _ (h.on b1))
  clear h
  go_enter Try.func36, Try.ntmps36
  go_wp2_with fail
  refine (unhide HC).mono ?_
  rintro e w2 ⟨⟨v, rfl, hrow⟩, b2⟩
  have z2 := b2.size
  simp at z2
  have s0 := b2.cell (p := ⟨w.heap.size + 1, 0, none⟩) (by simp)
  have s1 := b2.cell (p := ⟨w.heap.size + 1, 1, none⟩) (by simp)
  have s2 := b2.cell (p := ⟨w.heap.size + 1, 2, none⟩) (by simp)
  simp at s0 s1 s2
  have HB2 := hide (b1.trans (b2.mono (by simp; omega)))
  have hlen := stepsL_few l room
  obtain ⟨qa, qc, rfl, _, _, hS⟩ := StepsAt.of_row hrow (by omega)
  have HS := hide hS
  clear HC b2 b1 hrow hS
  generalize hLL : stepsL l room = L at HS hlen ⊢
  have HLE := hide hLL
  clear hLL
  go_wp2_with fail
  go_loopw [6] (fun i wr => ∃ k : Nat, k ≤ L.length ∧ i = .int .i64 k ∧ Hid ((L.take k).any (fun t => eqS t s) = false) ∧ Drawn w2 wr) (fun i _ => L.length - (intOf i).toNat)
  case atStart => exact ⟨0, Nat.zero_le _, rfl, rfl, Drawn.refl _⟩
  case round =>
    rename World => wo
    obtain ⟨k, hk, rfl, HN, hw⟩ := hrel
    by_cases hlt : k < L.length
    · have j1 : (k : Int) < (L.length : Int) := by omega
      have j0 : (0 : Int) ≤ (k : Int) := by omega
      rcases (unhide HS).2 with hnil | ⟨b, o, rfl, hbl, hrk⟩
      · rw [hnil] at hlt; simp at hlt
      obtain ⟨c0, c1, c2⟩ := hrk k hlt
      have htk := any_take_succ (d := dStep) (f := fun t => eqS t s) hlt
      have hyes := fun h => any_of_take (d := dStep) (f := fun t => eqS t s) hlt h
      generalize L.getD k dStep = t at c0 c1 c2 htk hyes
      have S0 := s0
      have S1 := s1
      have S2 := s2
      rw [← hw.cell] at c0 c1 c2 S0 S1 S2
      have HTK := hide htk
      have HY := hide hyes
      clear hrk htk hyes s0 s1 s2
      obtain ⟨k1, i1, o1⟩ := t
      obtain ⟨k2, i2, o2⟩ := s
      simp only at c0 c1 c2 S0 S1 S2
      by_cases hkk : k1 = k2
      · by_cases hii : i1 = i2
        · by_cases hoo : o1 = o2
          · have HT := hide (unhide HY (by simp [eqS, hkk, hii, hoo]))
            rw [← hkk] at S0
            rw [← hii] at S1
            rw [← hoo] at S2
            clear hkk hii hoo HTK HY
            go_wp2_with fail
            go_quiet (fail)
            go_wp2_with fail
            go_ret
            exact ⟨ret_bool (by rw [unhide HLE]; exact (unhide HT).symm), (unhide HB2).trans (((hw.more _).below _).mono (unhide HB2).size)⟩
          · have HF := hide (show (L.take (k + 1)).any (fun t => eqS t ⟨k2, i2, o2⟩) = false by rw [unhide HTK, unhide HN]; simp [eqS, hoo])
            rw [← hkk] at S0
            rw [← hii] at S1
            clear hkk hii HTK HY
            go_wp2_with fail
            go_quiet (fail)
            go_wp2_with fail
            go_roundw
            case rel => exact ⟨k + 1, by omega, by go_num, HF, hw.more _⟩
            case measure => simp [intOf]; omega
        · have HF := hide (show (L.take (k + 1)).any (fun t => eqS t ⟨k2, i2, o2⟩) = false by rw [unhide HTK, unhide HN]; simp [eqS, hii])
          rw [← hkk] at S0
          clear hkk HTK HY
          go_wp2_with fail
          go_quiet (fail)
          go_wp2_with fail
          go_roundw
          case rel => exact ⟨k + 1, by omega, by go_num, HF, hw.more _⟩
          case measure => simp [intOf]; omega
      · have HF := hide (show (L.take (k + 1)).any (fun t => eqS t ⟨k2, i2, o2⟩) = false by rw [unhide HTK, unhide HN]; simp [eqS, hkk])
        clear HTK HY
        go_wp2_with fail
        go_quiet (fail)
        go_wp2_with fail
        go_roundw
        case rel => exact ⟨k + 1, by omega, by go_num, HF, hw.more _⟩
        case measure => simp [intOf]; omega
    · have j1 : ¬ (k : Int) < (L.length : Int) := by omega
      have HF := hide (show L.any (fun t => eqS t s) = false by
        have := unhide HN
        rw [List.take_of_length_le (by omega)] at this
        exact this)
      go_wp2_with fail
      go_ret
      exact ⟨ret_bool (by rw [unhide HLE]; exact (unhide HF).symm), (unhide HB2).trans ((hw.below _).mono (unhide HB2).size)⟩

/-- The room of the packs' rows of what must be there ahead. -/
def CapsAt (w : World) (a : Option Addr) (l : List PackD) : Prop := ∀ b o, a = some ⟨b, o, none⟩ → ∀ i, i < l.length → b < w.heap.size ∧ ∃ a2 c2, w.cell? ⟨b, o + i * 6 + 4, none⟩ = some (.slice a2 (l.getD i dPack).pres.length c2) ∧ (l.getD i dPack).pres.length ≤ c2 ∧ c2 ≤ maxLen
theorem CapsAt.on {w w' : World} {a : Option Addr} {l : List PackD} (h : CapsAt w a l) (hb : Below w.heap.size w w') : CapsAt w' a l := fun b o ha i hi => by
  obtain ⟨h1, a2, c2, h2, h3⟩ := h b o ha i hi
  exact ⟨Nat.lt_of_lt_of_le h1 hb.size, a2, c2, (hb.cell (p := ⟨b, o + i * 6 + 4, none⟩) h1).trans h2, h3⟩
theorem ReqsAt.one {S : Nat → Nat → Prop} {w : World} {b o : Nat} {l : List ReqD} (h : ReqsAt S w (some ⟨b, o, none⟩) l) {k : Nat} (hk : k < l.length) : ReqsAt S w (some ⟨b, o + k * 3, none⟩) [l.getD k dReq] := by
  obtain ⟨h0, h⟩ := h
  rcases h with h | ⟨b', o', ha, hS, h⟩
  · rw [h] at hk; simp at hk
  · simp at ha
    obtain ⟨rfl, rfl⟩ := ha
    refine ⟨by simp [maxLen], Or.inr ⟨b, o + k * 3, rfl, hS, fun i hi => ?_⟩⟩
    simp at hi
    subst hi
    simpa using h k hk

end Go.Proofs.Ytmjmcbmfleeolay

namespace Go.Proofs.Ytmjmcbmfleeolay
set_option linter.unusedVariables false
set_option linter.unusedSimpArgs false
open Go.RowKit Go.Deep

theorem DoOut.nil {B : Nat} {w : World} {v : Value} {o : Option (List Int)} (hv : RowI B w v []) (h : o = Option.none) : DoOut B w o (.returned (.tuple #[v, .bool false])) := by
  subst h
  exact ⟨_, rfl, hv⟩
theorem DoOut.some {B : Nat} {w : World} {v : Value} {o : Option (List Int)} {l : List Int} (hv : RowI B w v l) (h : o = Option.some l) : DoOut B w o (.returned (.tuple #[v, .bool true])) := by
  subst h
  exact ⟨_, rfl, hv⟩
theorem repo8 {l : List PackD} {room : Int} (h : repoB ⟨l, room⟩ = true) : l.length ≤ 8 := by
  simp only [repoB, Bool.and_eq_true, decide_eq_true_eq] at h
  exact h.1.1.1
theorem any_step {l : List PackD} {room : Int} {s : StepD} (h : (stepsL l room).any (fun t => eqS t s) = true) : repoB ⟨l, room⟩ = true ∧ ∃ m ∈ movesL l, s = m.step := by
  rw [List.any_eq_true] at h
  obtain ⟨t, ht, he⟩ := h
  unfold stepsL at ht
  cases hr : repoB ⟨l, room⟩ with
  | false => rw [hr] at ht; simp at ht
  | true =>
    rw [hr, if_pos rfl] at ht
    obtain ⟨m, hm, rfl⟩ := List.mem_map.1 ht
    exact ⟨rfl, m, hm, (eqS_eq he).symm⟩
/-- A copy of a state: 'append([]int{}, set...)'. -/
theorem copy_news {w : World} {ad : Addr} {set : List Int} (h : SetAt w (some ad) set) : ∀ j u, (set.map fun i => Value.int .i64 i)[j]? = some u → w.cell? (ad.add j) = some u := fun j u hu => by
  rw [List.getElem?_map] at hu
  obtain ⟨z, hz, rfl⟩ := Option.map_eq_some_iff.1 hu
  have hj : j < set.length := (List.getElem?_eq_some_iff.1 hz).1
  rcases h.2 with h0 | ⟨b, o, ha, _, hc⟩
  · rw [h0] at hj; simp at hj
  · simp at ha
    subst ha
    have e : (⟨b, o, none⟩ : Addr).add j = ⟨b, o + j, none⟩ := by simp [Addr.add]
    rw [e, hc j hj]
    simp [List.getD, hz]

theorem set_of {B : Nat} {w : World} {a : Option Addr} {n c : Nat} {l : List Int} (h : RowI B w (.slice a n c) l) (hl : l.length ≤ 1048576) : SetAt w a l := by
  obtain ⟨a', c', e, hs⟩ := RowI.set h hl
  simp at e
  obtain ⟨rfl, _⟩ := e
  exact hs
/-- An append of what a slice holds, nil or not. -/
theorem wpList_append_src {P : Program} {w : World} {ops : Array Oper} {rest : List Oper} {o : Oper} {a : Act} {Q : Exit → Act → World → Prop} (hgd : o.guard = none) (s x : Operand) (t : TypeId)
    (ho : o.op = .call { callee := .builtin .append, args := #[s, x], argTypes := #[t, t] })
    (base : Nat) (e : TypeId) (i : TypeInfo) (z : Value) (size bytes : Nat) (ht : P.underlying t = some (.slice e)) (hi : P.info? e = some i) (hz : i.zero = some z)
    (hsize : i.size = size) (hby : i.bytes = bytes) (hzs : z.cells.size = size) (hsz : 0 < size)
    (v : Value) (n : Nat) (xs : List Value) (hs : a.eval s = v) (hown : w.ownsRow base e size v n xs)
    (oa : Option Addr) (m c : Nat) (news : List Value) (hx : a.eval x = .slice oa m c) (hno : oa = none → m = 0 ∧ c = 0) (hl : news.length = m * size) (hnews : ∀ ad, oa = some ad → ∀ j u, news[j]? = some u → w.cell? (ad.add j) = some u) (h1 : ∀ u ∈ news, u.oneCell' = true)
    (h63 : n + m ≤ maxLen) (hbytes : (n + m) * bytes ≤ 140737488355328) (hbase : base ≤ w.heap.size)
    (h : ∀ v' w', w'.ownsRow base e size v' (n + m) (xs ++ news) → w.grownBy w' v.ownBlock → wpList P ops Q rest (a.put o.dst v') w') : wpList P ops Q (o :: rest) a w := by
  cases oa with
  | none =>
    obtain ⟨rfl, rfl⟩ := hno rfl
    have hn : news = [] := List.length_eq_zero_iff.1 (by rw [hl, Nat.zero_mul])
    subst hn
    refine wpList_append_own_none hgd s x t ho base e i size ht hi v n xs hs hown hx (h v w (by simpa using hown) ⟨rfl, rfl, rfl, Nat.le_refl _, fun _ _ _ => rfl⟩)
  | some ad => exact wpList_append_own w hgd s x t ho base e i z size bytes ht hi hz hsize hby hzs hsz v n xs hs hown ad m c news hx hl (hnews ad rfl) h1 h63 hbytes hbase (fun v' w' h2 h3 _ => h v' w' h2 h3)

end Go.Proofs.Ytmjmcbmfleeolay

namespace Go.Proofs.Ytmjmcbmfleeolay
set_option linter.unusedVariables false
set_option linter.unusedSimpArgs false
open Go.RowKit Go.Deep

end Go.Proofs.Ytmjmcbmfleeolay
