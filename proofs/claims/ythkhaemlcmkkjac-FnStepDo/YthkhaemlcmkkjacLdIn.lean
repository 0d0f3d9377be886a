/- The laws' own looks at numbers: whether one is among them. -/
import Derived.Test.YthkhaemlcmkkjacS3A
namespace Go.Proofs.Ythkhaemlcmkkjac
set_option linter.unusedVariables false
set_option linter.unusedSimpArgs false
open Go.RowKit Go.Deep

set_option maxHeartbeats 1000000 in
theorem ldInZ_any (sa : Option Addr) (set : List Int) (sc : Nat) (n : Int) (w : World) (hs : SetAt w sa set) :
    Calls Try.prog 23 #[.slice sa set.length sc, .int .i64 n] w fun e w' => e = .returned (.bool (set.any (· == n))) ∧ w' = w := by
  obtain ⟨hsl, hset⟩ := hs
  go_enter Try.func23, Try.ntmps23
  go_wp2_with fail
  go_loopw [5] (fun i wr => ∃ k : Nat, k ≤ set.length ∧ i = .int .i64 k ∧ Hid ((set.take k).any (· == n) = false) ∧ wr = w) (fun i _ => set.length - (intOf i).toNat)
  case atStart => exact ⟨0, Nat.zero_le _, rfl, rfl, rfl⟩
  case round =>
    rename World => wo
    obtain ⟨k, hk, rfl, HN, rfl⟩ := hrel
    by_cases hlt : k < set.length
    · have j1 : (k : Int) < (set.length : Int) := by omega
      rcases hset with hnil | ⟨b, o, rfl, hbl, hsc⟩
      · rw [hnil] at hlt; simp at hlt
      have c0 := hsc k hlt
      have htk := any_take_succ (d := (0 : Int)) (f := fun x => x == n) hlt
      have hyes := fun h => any_of_take (d := (0 : Int)) (f := fun x => x == n) hlt h
      generalize set.getD k 0 = z at c0 htk hyes
      have HTK := hide htk
      have HY := hide hyes
      clear hsc htk hyes
      cases hz : (z == n) with
      | true =>
        go_wp2_with fail
        go_ret
        exact ⟨ret_bool (unhide HY hz).symm, rfl⟩
      | false =>
        go_wp2_with fail
        go_roundw
        case rel => exact ⟨k + 1, by omega, by go_num, by show _ = false; rw [unhide HTK, unhide HN, hz]; rfl, by first | rfl | trivial⟩
        case measure => simp [intOf]; omega
    · have j1 : ¬ (k : Int) < (set.length : Int) := by omega
      have hke : k = set.length := by omega
      have h1 := unhide HN
      rw [hke, List.take_length] at h1
      have HE := hide h1
      clear h1
      go_wp2_with fail
      go_ret
      exact ⟨ret_bool (unhide HE).symm, rfl⟩

end Go.Proofs.Ythkhaemlcmkkjac
