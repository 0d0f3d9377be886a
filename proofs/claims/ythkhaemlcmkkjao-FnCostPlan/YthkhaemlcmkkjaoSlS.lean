/- Parts of steps, and a call on such a part that answers a state and a bool. -/
import Derived.Test.YthkhaemlcmkkjaoGPd
import Derived.Test.YthkhaemlcmkkjaoMoveA
import Derived.Test.YthkhaemlcmkkjaoGMw
import Derived.Test.YthkhaemlcmkkjaoGForm
import Derived.Test.YthkhaemlcmkkjaoGImpl
import Derived.Test.YthkhaemlcmkkjaoGReg
import Derived.Test.YthkhaemlcmkkjaoGRn
import Derived.Deep.QuietTactic
import Derived.Test.YthkhaemlcmkkjaoDoO
import Derived.Test.YthkhaemlcmkkjaoGSp
import Derived.Test.YthkhaemlcmkkjaoGStL
namespace Go.Proofs.Ythkhaemlcmkkjao
set_option linter.unusedVariables false
set_option linter.unusedSimpArgs false
open Go.RowKit Go.Deep

theorem StepsAt.take {w : World} {a : Option Addr} {ss : List StepD} (h : StepsAt w a ss) (k : Nat) : StepsAt w a (ss.take k) := by
  obtain ⟨h0, h1⟩ := h
  refine ⟨by simp; omega, ?_⟩
  rcases h1 with h1 | ⟨b, o, ha, hb, hc⟩
  · left; rw [h1]; simp
  · refine Or.inr ⟨b, o, ha, hb, fun i hi => ?_⟩
    rw [List.length_take] at hi
    have h1 : i < k := by omega
    have hg : (ss.take k).getD i dStep = ss.getD i dStep := by simp [List.getD, List.getElem?_take, h1]
    rw [hg]
    exact hc i (by omega)
theorem StepsAt.drop {w : World} {b o : Nat} {ss : List StepD} (h : StepsAt w (some ⟨b, o, none⟩) ss) (k : Nat) : StepsAt w (some ⟨b, o + k * 3, none⟩) (ss.drop k) := by
  obtain ⟨h0, h1⟩ := h
  refine ⟨by simp; omega, ?_⟩
  rcases h1 with h1 | ⟨b', o', ha, hb, hc⟩
  · left; rw [h1]; simp
  · simp at ha
    obtain ⟨rfl, rfl⟩ := ha
    refine Or.inr ⟨b, o + k * 3, rfl, hb, fun i hi => ?_⟩
    simp at hi
    have hg : (ss.drop k).getD i dStep = ss.getD (k + i) dStep := by simp [List.getD]
    rw [hg]
    have := hc (k + i) (by omega)
    rw [show o + (k + i) * 3 = o + k * 3 + i * 3 by omega] at this
    exact this
/-- Where the part of a row lies that begins at a place. -/
def FromD (qa : Option Addr) (n qc k : Nat) (da : Option Addr) (dc : Nat) : Prop := (qa = none ∧ qc = 0 ∧ k = 0 ∧ (da = none ∧ dc = 0) ∧ n = 0) ∨ (∃ g, qa = some ⟨g, 0, none⟩ ∧ qc = k ∧ da = some ⟨g, 0, none⟩ ∧ dc = 0) ∨ (∃ g, qa = some ⟨g, 0, none⟩ ∧ ¬ qc = k ∧ da = some ⟨g, k * 3, none⟩ ∧ dc = qc - k)
theorem steps_part {B : Nat} {w : World} {qa : Option Addr} {ss : List StepD} {qc k : Nat} (h : w.ownsRow B 41 3 (.slice qa ss.length qc) ss.length (stepVs ss)) (hk : k ≤ ss.length) : ss.length ≤ qc ∧ qc ≤ maxLen ∧ ∃ da dc, FromD qa ss.length qc k da dc ∧ ∀ x : World, StepsAt x qa ss → StepsAt x da (ss.drop k) := by
  rcases h.2 with ⟨hv, h0⟩ | ⟨g, cap, cur, hv, hB, hc, hcap, hcm, hsz, hx⟩
  · simp at hv
    obtain ⟨rfl, h1, rfl⟩ := hv
    subst h1
    exact ⟨by simp, by simp [maxLen], none, 0, Or.inl ⟨rfl, rfl, by simpa using hk, ⟨rfl, rfl⟩, rfl⟩, fun x hx => ⟨by simp, Or.inl (by simp)⟩⟩
  · simp at hv
    obtain ⟨rfl, rfl⟩ := hv
    refine ⟨hcap, hcm, ?_⟩
    by_cases e : qc = k
    · exact ⟨_, _, Or.inr (Or.inl ⟨g, rfl, e, rfl, rfl⟩), fun x hx => ⟨by simp; have := hx.1; omega, Or.inl (List.drop_eq_nil_of_le (by omega))⟩⟩
    · exact ⟨_, _, Or.inr (Or.inr ⟨g, rfl, e, rfl, rfl⟩), fun x hx => by have := hx.drop k; rwa [Nat.zero_add] at this⟩
end Go.Proofs.Ythkhaemlcmkkjao
