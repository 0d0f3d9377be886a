/- Parts of steps, and a call on such a part that answers a state and a bool. -/
import Derived.Test.YthkhaemlcmkkjafGPl
import Derived.Test.YthkhaemlcmkkjafGRn
import Derived.Test.YthkhaemlcmkkjafGReg
import Derived.Test.YthkhaemlcmkkjafDoO
namespace Go.Proofs.Ythkhaemlcmkkjaf
set_option linter.unusedVariables false
set_option linter.unusedSimpArgs false
open Go.RowKit Go.Deep

/-- What the operations of such a call leave. -/
def TH (P U LV A : Value) (k : Int) (B : Nat) (ds : Option (List Int)) (i : Nat) (v : Value) (x : World) : Prop := match i with
  | 0 => v = P
  | 1 => v = U
  | 2 => v = LV
  | 3 => v = .int .i64 k
  | 4 => v = A
  | 5 => ∃ y, v = .tuple #[y, .bool ds.isSome] ∧ RowI B x y (ds.getD [])
  | 6 => ∃ y, v = .tuple #[y, .bool ds.isSome] ∧ RowI B x y (ds.getD [])
  | 7 => RowI B x v (ds.getD [])
  | 8 => v = .bool ds.isSome
  | 9 => RowI B x v (ds.getD [])
  | _ => True
theorem TH_on {P U LV A : Value} {k : Int} {B : Nat} {ds : Option (List Int)} {i : Nat} {v : Value} {x y : World} (h : TH P U LV A k B ds i v x) (hb : Below x.heap.size x y) : TH P U LV A k B ds i v y := by
  unfold TH at h ⊢
  split at h
  · exact h
  · exact h
  · exact h
  · exact h
  · exact h
  · obtain ⟨z, e, r⟩ := h; exact ⟨z, e, ownsRow_on r hb⟩
  · obtain ⟨z, e, r⟩ := h; exact ⟨z, e, ownsRow_on r hb⟩
  · exact ownsRow_on h hb
  · exact h
  · exact ownsRow_on h hb
  · trivial
theorem StepsAt.take {w : World} {a : Option Addr} {ss : List StepD} (h : StepsAt w a ss) (k : Nat) : StepsAt w a (ss.take k) := by
  obtain ⟨h0, h1⟩ := h
  refine ⟨by simp; omega, ?_⟩
  rcases h1 with h1 | ⟨b, o, ha, hb, hc⟩
  · left; rw [h1]; simp
  · refine Or.inr ⟨b, o, ha, hb, fun i hi => ?_⟩
    rw [List.length_take] at hi
    have h1 : i < k := by omega
    have hg : (ss.take k).getD i dStep = ss.getD i dStep := by simp [List.getD, List.getElem?_take, h1]
    rw [hg]
    exact hc i (by omega)
theorem StepsAt.drop {w : World} {b o : Nat} {ss : List StepD} (h : StepsAt w (some ⟨b, o, none⟩) ss) (k : Nat) : StepsAt w (some ⟨b, o + k * 3, none⟩) (ss.drop k) := by
  obtain ⟨h0, h1⟩ := h
  refine ⟨by simp; omega, ?_⟩
  rcases h1 with h1 | ⟨b', o', ha, hb, hc⟩
  · left; rw [h1]; simp
  · simp at ha
    obtain ⟨rfl, rfl⟩ := ha
    refine Or.inr ⟨b, o + k * 3, rfl, hb, fun i hi => ?_⟩
    simp at hi
    have hg : (ss.drop k).getD i dStep = ss.getD (k + i) dStep := by simp [List.getD]
    rw [hg]
    have := hc (k + i) (by omega)
    rw [show o + (k + i) * 3 = o + k * 3 + i * 3 by omega] at this
    exact this
/-- Where the part of a row lies that begins at a place. -/
def FromD (qa : Option Addr) (n qc k : Nat) (da : Option Addr) (dc : Nat) : Prop := (qa = none ∧ qc = 0 ∧ k = 0 ∧ (da = none ∧ dc = 0) ∧ n = 0) ∨ (∃ g, qa = some ⟨g, 0, none⟩ ∧ qc = k ∧ da = some ⟨g, 0, none⟩ ∧ dc = 0) ∨ (∃ g, qa = some ⟨g, 0, none⟩ ∧ ¬ qc = k ∧ da = some ⟨g, k * 3, none⟩ ∧ dc = qc - k)
theorem steps_part {B : Nat} {w : World} {qa : Option Addr} {ss : List StepD} {qc k : Nat} (h : w.ownsRow B 57 3 (.slice qa ss.length qc) ss.length (stepVs ss)) (hk : k ≤ ss.length) : ss.length ≤ qc ∧ qc ≤ maxLen ∧ ∃ da dc, FromD qa ss.length qc k da dc ∧ ∀ x : World, StepsAt x qa ss → StepsAt x da (ss.drop k) := by
  rcases h.2 with ⟨hv, h0⟩ | ⟨g, cap, cur, hv, hB, hc, hcap, hcm, hsz, hx⟩
  · simp at hv
    obtain ⟨rfl, h1, rfl⟩ := hv
    subst h1
    exact ⟨by simp, by simp [maxLen], none, 0, Or.inl ⟨rfl, rfl, by simpa using hk, ⟨rfl, rfl⟩, rfl⟩, fun x hx => ⟨by simp, Or.inl (by simp)⟩⟩
  · simp at hv
    obtain ⟨rfl, rfl⟩ := hv
    refine ⟨hcap, hcm, ?_⟩
    by_cases e : qc = k
    · exact ⟨_, _, Or.inr (Or.inl ⟨g, rfl, e, rfl, rfl⟩), fun x hx => ⟨by simp; have := hx.1; omega, Or.inl (List.drop_eq_nil_of_le (by omega))⟩⟩
    · exact ⟨_, _, Or.inr (Or.inr ⟨g, rfl, e, rfl, rfl⟩), fun x hx => by have := hx.drop k; rwa [Nat.zero_add] at this⟩
theorem plan_cut {l : List PackD} {room : Int} {set t : List Int} {ss : List StepD} (h : planZ l room set ss = some t) (k : Nat) : ∃ x, planZ l room set (ss.take k) = some x ∧ planZ l room x (ss.drop k) = some t ∧ okZ l room x = true := by
  have hc : (okZ l room set && decide (ss.length ≤ 300)) = true := by
    cases hc : okZ l room set && decide (ss.length ≤ 300) with
    | true => rfl
    | false => unfold planZ at h; rw [hc] at h; simp at h
  have hp : planDo l room set ss = some t := by unfold planZ at h; rw [hc] at h; exact h
  rw [Bool.and_eq_true, decide_eq_true_eq] at hc
  have e : ss = ss.take k ++ ss.drop k := (List.take_append_drop k ss).symm
  rw [e, plan_append] at hp
  cases hx : planDo l room set (ss.take k) with
  | none => rw [hx] at hp; simp at hp
  | some x =>
    rw [hx] at hp
    have hok := plan_ok hc.1 hx
    refine ⟨x, ?_, ?_, hok⟩
    · unfold planZ
      rw [hc.1, decide_eq_true (show (ss.take k).length ≤ 300 by simp; omega)]
      exact hx
    · unfold planZ
      rw [hok, decide_eq_true (show (ss.drop k).length ≤ 300 by simp; omega)]
      exact hp
end Go.Proofs.Ythkhaemlcmkkjaf
