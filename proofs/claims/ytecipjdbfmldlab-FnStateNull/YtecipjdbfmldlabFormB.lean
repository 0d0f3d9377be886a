/- The program's StateSize and StateOk. -/
import Derived.Test.YtecipjdbfmldlabFormA
import Derived.Test.YtecipjdbfmldlabStB
namespace Go.Proofs.Ytecipjdbfmldlab
set_option linter.unusedVariables false
set_option linter.unusedSimpArgs false
open Go.RowKit Go.Deep

/-- A state in form ascends. -/
theorem form_asc {l : List PackD} {room : Int} {set : List Int} (h : formB l room set = true) : ∀ {i j : Nat}, i < j → j < set.length → set.getD i 0 < set.getD j 0 := by
  intro i j hij hj
  have step : ∀ k, 0 < k → k < set.length → set.getD (k - 1) 0 < set.getD k 0 := fun k hk hkl => by
    simp only [formB, Bool.and_eq_true] at h
    have := List.all_eq_true.1 h.1 k (List.mem_range.2 hkl)
    simp only [placeB, Bool.and_eq_true, Bool.or_eq_true, beq_iff_eq, decide_eq_true_eq] at this
    rcases this.2 with h0 | h0
    · omega
    · exact h0
  induction j with
  | zero => omega
  | succ j ih =>
    have h1 := step (j + 1) (by omega) hj
    simp only [Nat.add_sub_cancel] at h1
    rcases Nat.lt_or_ge i j with h2 | h2
    · exact Int.lt_trans (ih h2 (by omega)) h1
    · have : i = j := by omega
      subst this
      exact h1
theorem getD_map_toNat (set : List Int) (i : Nat) : (set.map Int.toNat).getD i 0 = (set.getD i 0).toNat := by
  simp only [List.getD, List.getElem?_map]
  cases set[i]? <;> rfl
theorem set_pairwise {l : List PackD} {room : Int} {set : List Int} (h : formB l room set = true) : (set.map Int.toNat).Pairwise (· < ·) := by
  rw [List.pairwise_iff_getElem]
  intro i j hi hj hij
  simp at hi hj
  have h1 := form_asc h hij hj
  have h2 := (form_place h hi).1
  simp [List.getD, hi, hj] at h1 h2
  simp
  omega
theorem form_l8 {l : List PackD} {room : Int} {set : List Int} (h : formB l room set = true) : l.length ≤ 8 := by
  simp only [formB, repoB, Bool.and_eq_true, decide_eq_true_eq] at h
  exact h.2.1.1.1
theorem form_ok {l : List PackD} {room : Int} {set : List Int} (h : formB l room set = true) : OkL l := by
  simp only [formB, Bool.and_eq_true] at h
  exact OkL.of h.2
theorem set_lt {l : List PackD} {room : Int} {set : List Int} (h : formB l room set = true) : ∀ x ∈ set.map Int.toNat, x < l.length := by
  intro x hx
  obtain ⟨z, hz, rfl⟩ := List.mem_map.1 hx
  obtain ⟨i, hi, rfl⟩ := List.getElem_of_mem hz
  have := form_place h hi
  simp [List.getD, hi] at this
  omega
/-- The places of the bits are the state. -/
theorem set_places {l : List PackD} {room : Int} {set : List Int} (h : formB l room set = true) : placesTo (setBits set) 8 = set.map Int.toNat := by
  unfold setBits
  exact places_bits _ (set_pairwise h) fun x hx => Nat.lt_of_lt_of_le (set_lt h x hx) (form_l8 h)
theorem setBits_small {l : List PackD} {room : Int} {set : List Int} (h : formB l room set = true) : setBits set < 65536 := by
  have h1 : (List.range set.length).all (placeB l.length set) = true := by
    simp only [formB, Bool.and_eq_true] at h
    exact h.1
  have := setBits_lt h1 (Nat.le_refl _) (form_l8 h)
  rwa [List.take_length] at this
theorem sum_same (l : List PackD) (set : List Int) : ∀ k, sumP l (set.map Int.toNat) k = sumTo l set k
  | 0 => rfl
  | k + 1 => by
    simp only [sumP, sumTo, sum_same l set k, getD_map_toNat]
theorem size_bits {l : List PackD} {room : Int} {set : List Int} (h : formB l room set = true) : bitSize l (setBits set) = sumTo l set set.length := by
  unfold bitSize
  rw [set_places h, sum_same]
  simp

/-- Whether a state is healthy. -/
def okZ (l : List PackD) (room : Int) (set : List Int) : Bool := formB l room set && healthB l room (setBits set)

set_option maxHeartbeats 2000000 in
theorem implStateSize_any (a : Option Addr) (l : List PackD) (cap : Nat) (room : Int) (sa : Option Addr) (set : List Int) (sc : Nat) (w : World) (h : PacksAt (Old w) w a l) (hs : SetAt w sa set) :
    Calls Try.prog 12 #[.agg #[.slice a l.length cap, .int .i64 room], .slice sa set.length sc] w fun e w' => e = .returned (.int .i64 (sizeZ l room set)) ∧ Below w.heap.size w w' := by
  have bA := (Below.refl w.heap.size w).alloc (Nat.le_refl _) (.cells #[.slice a l.length cap, .int .i64 room] 25)
  have HC := hide (inForm_any a l cap room sa set sc _ (h.on bA) (hs.on bA))
  clear h hs
  go_enter Try.func12, Try.ntmps12
  go_wp2_with fail
  refine (unhide HC).mono ?_
  rintro e w1 ⟨hf, hb1⟩
  have HB1 := hide (bA.trans (hb1.mono (by simp)))
  clear HC hb1 bA
  unfold FormOut at hf
  cases hfm : formB l room set with
  | false =>
    rw [hfm] at hf
    simp at hf
    subst hf
    have HE := hide (show sizeZ l room set = -1 by unfold sizeZ; rw [hfm]; rfl)
    clear hfm
    unfold emptyStock
    go_wp2_with fail
    go_ret
    exact ⟨by rw [unhide HE]; rfl, (unhide HB1).alloc (unhide HB1).size _⟩
  | true =>
    rw [hfm] at hf
    simp at hf
    obtain ⟨V, rfl, hst⟩ := hf
    have HE := hide (show sizeZ l room set = bitSize l (setBits set) by unfold sizeZ; rw [hfm, if_pos rfl, size_bits hfm])
    have hsm := setBits_small hfm
    have hpl : ∀ p ∈ placesTo (setBits set) 8, p < l.length := by rw [set_places hfm]; exact set_lt hfm
    have hok := form_ok hfm
    obtain ⟨a', cap', bm, v, rfl, hP, ⟨xa, xc, rfl⟩, hA⟩ := hst
    have HSZ := hide (fun (o : Obj) => size_any (setBits set) hsm a' l cap' room (.map (some bm)) (.slice xa l.length xc) ⟨_, _, _, rfl⟩ rfl (w1.alloc o) (hP.on ((Below.refl _ _).alloc (Nat.le_refl _) _)) hpl hok.size)
    have z1 := (unhide HB1).size
    clear hfm hP hA hpl hok
    go_wp2_with (first
      | (go_at_call 34; refine (unhide HSZ _).mono ?_; rintro e w2 ⟨rfl, hb2⟩; have HB2 := hide hb2; clear hb2))
    go_ret
    exact ⟨by rw [unhide HE]; rfl, ((unhide HB1).alloc z1 _).trans ((unhide HB2).mono (by simp; omega))⟩

set_option maxHeartbeats 2000000 in
theorem implStateOk_any (a : Option Addr) (l : List PackD) (cap : Nat) (room : Int) (sa : Option Addr) (set : List Int) (sc : Nat) (w : World) (h : PacksAt (Old w) w a l) (hs : SetAt w sa set) :
    Calls Try.prog 10 #[.agg #[.slice a l.length cap, .int .i64 room], .slice sa set.length sc] w fun e w' => e = .returned (.bool (okZ l room set)) ∧ Below w.heap.size w w' := by
  have bA := (Below.refl w.heap.size w).alloc (Nat.le_refl _) (.cells #[.slice a l.length cap, .int .i64 room] 25)
  have HC := hide (inForm_any a l cap room sa set sc _ (h.on bA) (hs.on bA))
  clear h hs
  go_enter Try.func10, Try.ntmps10
  go_wp2_with fail
  refine (unhide HC).mono ?_
  rintro e w1 ⟨hf, hb1⟩
  have HB1 := hide (bA.trans (hb1.mono (by simp)))
  clear HC hb1 bA
  unfold FormOut at hf
  cases hfm : formB l room set with
  | false =>
    rw [hfm] at hf
    simp at hf
    subst hf
    have HE := hide (show okZ l room set = false by unfold okZ; rw [hfm]; rfl)
    clear hfm
    unfold emptyStock
    go_wp2_with fail
    go_ret
    exact ⟨ret_bool (unhide HE).symm, (unhide HB1).alloc (unhide HB1).size _⟩
  | true =>
    rw [hfm] at hf
    simp at hf
    obtain ⟨V, rfl, hst⟩ := hf
    have HE := hide (show okZ l room set = healthB l room (setBits set) by unfold okZ; rw [hfm]; rfl)
    have hsm := setBits_small hfm
    have hpl : ∀ p ∈ placesTo (setBits set) 8, p < l.length := by rw [set_places hfm]; exact set_lt hfm
    have hok := form_ok hfm
    have HSZ := hide (fun (o : Obj) => healthy_any l room V (setBits set) hsm hpl hok (w1.alloc o) (hst.on ((Below.refl _ _).alloc (Nat.le_refl _) _)))
    obtain ⟨a', cap', bm, v, rfl, hP, ⟨xa, xc, rfl⟩, hA⟩ := hst
    have z1 := (unhide HB1).size
    clear hfm hP hA hpl hok
    go_wp2_with (first
      | (go_at_call 30; refine (unhide HSZ _).mono ?_; rintro e w2 ⟨rfl, hb2⟩; have HB2 := hide hb2; clear hb2))
    go_ret
    exact ⟨ret_bool (unhide HE).symm, ((unhide HB1).alloc z1 _).trans ((unhide HB2).mono (by simp; omega))⟩
end Go.Proofs.Ytecipjdbfmldlab
