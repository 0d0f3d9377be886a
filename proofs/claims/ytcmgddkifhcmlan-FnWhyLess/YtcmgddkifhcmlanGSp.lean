/- The specification's looks at a step. The specification's StepDo. The specification's StepDo, of states of any length. -/
import Derived.Test.YtcmgddkifhcmlanGPd
import Derived.Test.YtcmgddkifhcmlanGSpecP
import Derived.Deep.QuietTactic
import Derived.Test.YtcmgddkifhcmlanDoO
import Derived.Laws.AppendOwnNone
namespace Go.Proofs.Ytcmgddkifhcmlan
set_option linter.unusedVariables false
set_option linter.unusedSimpArgs false
open Go.RowKit Go.Deep

/-- The room of the packs' rows of what must be there ahead. -/
def CapsAt (w : World) (a : Option Addr) (l : List PackD) : Prop := ∀ b o, a = some ⟨b, o, none⟩ → ∀ i, i < l.length → b < w.heap.size ∧ ∃ a2 c2, w.cell? ⟨b, o + i * 6 + 4, none⟩ = some (.slice a2 (l.getD i dPack).pres.length c2) ∧ (l.getD i dPack).pres.length ≤ c2 ∧ c2 ≤ maxLen
theorem CapsAt.on {w w' : World} {a : Option Addr} {l : List PackD} (h : CapsAt w a l) (hb : Below w.heap.size w w') : CapsAt w' a l := fun b o ha i hi => by
  obtain ⟨h1, a2, c2, h2, h3⟩ := h b o ha i hi
  exact ⟨Nat.lt_of_lt_of_le h1 hb.size, a2, c2, (hb.cell (p := ⟨b, o + i * 6 + 4, none⟩) h1).trans h2, h3⟩
theorem ReqsAt.one {S : Nat → Nat → Prop} {w : World} {b o : Nat} {l : List ReqD} (h : ReqsAt S w (some ⟨b, o, none⟩) l) {k : Nat} (hk : k < l.length) : ReqsAt S w (some ⟨b, o + k * 3, none⟩) [l.getD k dReq] := by
  obtain ⟨h0, h⟩ := h
  rcases h with h | ⟨b', o', ha, hS, h⟩
  · rw [h] at hk; simp at hk
  · simp at ha
    obtain ⟨rfl, rfl⟩ := ha
    refine ⟨by simp [maxLen], Or.inr ⟨b, o + k * 3, rfl, hS, fun i hi => ?_⟩⟩
    simp at hi
    subst hi
    simpa using h k hk

end Go.Proofs.Ytcmgddkifhcmlan

namespace Go.Proofs.Ytcmgddkifhcmlan
set_option linter.unusedVariables false
set_option linter.unusedSimpArgs false
open Go.RowKit Go.Deep

theorem DoOut.nil {B : Nat} {w : World} {v : Value} {o : Option (List Int)} (hv : RowI B w v []) (h : o = Option.none) : DoOut B w o (.returned (.tuple #[v, .bool false])) := by
  subst h
  exact ⟨_, rfl, hv⟩
theorem DoOut.some {B : Nat} {w : World} {v : Value} {o : Option (List Int)} {l : List Int} (hv : RowI B w v l) (h : o = Option.some l) : DoOut B w o (.returned (.tuple #[v, .bool true])) := by
  subst h
  exact ⟨_, rfl, hv⟩
theorem repo8 {l : List PackD} {room : Int} (h : repoB ⟨l, room⟩ = true) : l.length ≤ 8 := by
  simp only [repoB, Bool.and_eq_true, decide_eq_true_eq] at h
  exact h.1.1.1
theorem any_step {l : List PackD} {room : Int} {s : StepD} (h : (stepsL l room).any (fun t => eqS t s) = true) : repoB ⟨l, room⟩ = true ∧ ∃ m ∈ movesL l, s = m.step := by
  rw [List.any_eq_true] at h
  obtain ⟨t, ht, he⟩ := h
  unfold stepsL at ht
  cases hr : repoB ⟨l, room⟩ with
  | false => rw [hr] at ht; simp at ht
  | true =>
    rw [hr, if_pos rfl] at ht
    obtain ⟨m, hm, rfl⟩ := List.mem_map.1 ht
    exact ⟨rfl, m, hm, (eqS_eq he).symm⟩
/-- A copy of a state: 'append([]int{}, set...)'. -/
theorem copy_news {w : World} {ad : Addr} {set : List Int} (h : SetAt w (some ad) set) : ∀ j u, (set.map fun i => Value.int .i64 i)[j]? = some u → w.cell? (ad.add j) = some u := fun j u hu => by
  rw [List.getElem?_map] at hu
  obtain ⟨z, hz, rfl⟩ := Option.map_eq_some_iff.1 hu
  have hj : j < set.length := (List.getElem?_eq_some_iff.1 hz).1
  rcases h.2 with h0 | ⟨b, o, ha, _, hc⟩
  · rw [h0] at hj; simp at hj
  · simp at ha
    subst ha
    have e : (⟨b, o, none⟩ : Addr).add j = ⟨b, o + j, none⟩ := by simp [Addr.add]
    rw [e, hc j hj]
    simp [List.getD, hz]

theorem set_of {B : Nat} {w : World} {a : Option Addr} {n c : Nat} {l : List Int} (h : RowI B w (.slice a n c) l) (hl : l.length ≤ 1048576) : SetAt w a l := by
  obtain ⟨a', c', e, hs⟩ := RowI.set h hl
  simp at e
  obtain ⟨rfl, _⟩ := e
  exact hs
/-- An append of what a slice holds, nil or not. -/
theorem wpList_append_src {P : Program} {w : World} {ops : Array Oper} {rest : List Oper} {o : Oper} {a : Act} {Q : Exit → Act → World → Prop} (hgd : o.guard = none) (s x : Operand) (t : TypeId)
    (ho : o.op = .call { callee := .builtin .append, args := #[s, x], argTypes := #[t, t] })
    (base : Nat) (e : TypeId) (i : TypeInfo) (z : Value) (size bytes : Nat) (ht : P.underlying t = some (.slice e)) (hi : P.info? e = some i) (hz : i.zero = some z)
    (hsize : i.size = size) (hby : i.bytes = bytes) (hzs : z.cells.size = size) (hsz : 0 < size)
    (v : Value) (n : Nat) (xs : List Value) (hs : a.eval s = v) (hown : w.ownsRow base e size v n xs)
    (oa : Option Addr) (m c : Nat) (news : List Value) (hx : a.eval x = .slice oa m c) (hno : oa = none → m = 0 ∧ c = 0) (hl : news.length = m * size) (hnews : ∀ ad, oa = some ad → ∀ j u, news[j]? = some u → w.cell? (ad.add j) = some u) (h1 : ∀ u ∈ news, u.oneCell' = true)
    (h63 : n + m ≤ maxLen) (hbytes : (n + m) * bytes ≤ 140737488355328) (hbase : base ≤ w.heap.size)
    (h : ∀ v' w', w'.ownsRow base e size v' (n + m) (xs ++ news) → w.grownBy w' v.ownBlock → wpList P ops Q rest (a.put o.dst v') w') : wpList P ops Q (o :: rest) a w := by
  cases oa with
  | none =>
    obtain ⟨rfl, rfl⟩ := hno rfl
    have hn : news = [] := List.length_eq_zero_iff.1 (by rw [hl, Nat.zero_mul])
    subst hn
    refine wpList_append_own_none hgd s x t ho base e i size ht hi v n xs hs hown hx (h v w (by simpa using hown) ⟨rfl, rfl, rfl, Nat.le_refl _, fun _ _ _ => rfl⟩)
  | some ad => exact wpList_append_own w hgd s x t ho base e i z size bytes ht hi hz hsize hby hzs hsz v n xs hs hown ad m c news hx hl (hnews ad rfl) h1 h63 hbytes hbase (fun v' w' h2 h3 _ => h v' w' h2 h3)

end Go.Proofs.Ytcmgddkifhcmlan

namespace Go.Proofs.Ytcmgddkifhcmlan
set_option linter.unusedVariables false
set_option linter.unusedSimpArgs false
open Go.RowKit Go.Deep

end Go.Proofs.Ytcmgddkifhcmlan
