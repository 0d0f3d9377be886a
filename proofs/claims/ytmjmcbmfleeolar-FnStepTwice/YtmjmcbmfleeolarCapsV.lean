/- The room of drawn packs' rows. -/
import Derived.Test.YtmjmcbmfleeolarGDrawK
import Derived.Test.YtmjmcbmfleeolarGSp
namespace Go.Proofs.Ytmjmcbmfleeolar
set_option linter.unusedVariables false
set_option linter.unusedSimpArgs false
open Go.RowKit Go.Deep

theorem V2.caps {s N c : Nat} {w : World} {a : Option Addr} {l : List PackD} (h : V2 s w N (.slice a l.length c)) (hP : PacksAt (Old w) w a l) : CapsAt w a l := fun b o ha i hi => by
  obtain ⟨g, C, e, _⟩ := SlBy.addr h (show 0 < l.length by omega)
  subst ha
  simp at e
  obtain ⟨rfl, rfl⟩ := e
  rcases hP.2 with hnil | ⟨b', o', e, hS, hpk⟩
  · rw [hnil] at hi; simp at hi
  simp at e
  obtain ⟨rfl, rfl⟩ := e
  obtain ⟨a1, d1, a2, d2, a3, d3, hce, hpv⟩ := hpk i hi
  have n4 := hce.pres
  obtain ⟨x, y, z, v1, v2, v3, k0, k1, k2, k3, k4, k5, hQ⟩ := V2.pack h hi
  obtain ⟨a2', n2, c2, e2, h1, _, h3⟩ := SlBy.slice hQ.pres
  rw [Nat.zero_add] at n4
  rw [k4, e2] at n4
  simp at n4
  obtain ⟨rfl, rfl, rfl⟩ := n4
  refine ⟨hS, a2', c2, ?_, h1, h3⟩
  rw [Nat.zero_add, k4, e2]
  rfl
end Go.Proofs.Ytmjmcbmfleeolar
