/- The law's comparison, marks and tests of marks of rows of numbers. -/
import Derived.Test.YtgolmagpdbmahatRowsL
import Derived.Test.YtgolmagpdbmahatToI
namespace Go.Proofs.Ytgolmagpdbmahat
set_option linter.unusedVariables false
set_option linter.unusedSimpArgs false
open Go.RowKit Go.Deep

set_option maxRecDepth 10000 in
set_option maxHeartbeats 2000000 in
theorem eqIntSS_any (B B' : Nat) (v v' : Value) (lss : List (List Int)) (vs vs' : List Value) (w : World) (h : LstI B w v lss vs) (h' : LstI B' w v' lss vs') (hl : lss.length ≤ 100000) (hr : ∀ i, i < lss.length → (lss.getD i []).length ≤ 1000) :
    Calls Try.prog 14 #[v, v'] w fun e w' => e = .returned (.bool true) ∧ Below w.heap.size w w' := by
  obtain ⟨a, cap, hv⟩ := h.slice
  obtain ⟨a', cap', hv'⟩ := h'.slice
  have HH := hide h
  have HH' := hide h'
  clear h h'
  subst hv
  subst hv'
  go_enter Try.func14, Try.ntmps14
  go_wp2_with fail
  go_loopw [5] (fun i wr => ∃ k : Nat, k ≤ lss.length ∧ i = .int .i64 k ∧ Hid (Below w.heap.size w wr)) (fun i _ => lss.length - (intOf i).toNat)
  case atStart => exact ⟨0, Nat.zero_le _, rfl, Below.refl _ _⟩
  case round =>
    rename World => wo
    obtain ⟨k, hk, rfl, HB⟩ := hrel
    by_cases hlt : k < lss.length
    · have j1 : (k : Int) < (lss.length : Int) := by omega
      obtain ⟨g, c1, hg, _, hgl, c0⟩ := ((unhide HH).on (unhide HB)).cell hlt
      obtain ⟨g', c1', hg', _, hgl', c0'⟩ := ((unhide HH').on (unhide HB)).cell hlt
      simp at hg hg'
      obtain ⟨rfl, rfl⟩ := hg
      obtain ⟨rfl, rfl⟩ := hg'
      have hrl := hr k hlt
      obtain ⟨ra, rc, hrv, hset⟩ := RowI.set (((unhide HH).on (unhide HB)).row k hlt) (by omega)
      obtain ⟨ra', rc', hrv', hset'⟩ := RowI.set (((unhide HH').on (unhide HB)).row k hlt) (by omega)
      rw [hrv] at c0
      rw [hrv'] at c0'
      generalize lss.getD k [] = row at c0 c0' hset hset'
      have HC := hide (fun x (hx : Below wo.heap.size wo x) => eqIntS_same ra ra' row rc rc' x (hset.on hx) (hset'.on hx))
      have HF := hide (And.intro c0 c0')
      clear hset hset' c0 c0' hrv hrv'
      go_upto_region 6 with fail
      refine wp_region_mix (k := 100) 9 [] [.slice (some ⟨g, 0, none⟩) lss.length cap, .int .i64 (k : Int), .pointer (some ⟨g, k, none⟩), .slice ra row.length rc, .slice (some ⟨g', 0, none⟩) lss.length cap', .int .i64 (k : Int), .pointer (some ⟨g', k, none⟩), .slice ra' row.length rc', .bool true] (C0 wo) (by kernel_rfl) (by kernel_rfl) (by kernel_rfl) (by kernel_rfl) (by kernel_rfl) (by kernel_rfl) ⟨(Below.refl _ _).drew⟩ ?_ ?_ ?_
      · intro full hfull i oo hi hns ho x fl us hC hb
        simp [putAll, slotOf, Act.put] at hfull
        subst hfull
        have hq := hC.below
        obtain ⟨c0, c0'⟩ := unhide HF
        rw [← hq.cell (p := ⟨g, _, none⟩) hgl] at c0
        rw [← hq.cell (p := ⟨g', _, none⟩) hgl'] at c0'
        have hC0 := hC.on (b' := fl) (Below.refl _ _)
        match i with
        | 0 => simp at ho; subst ho; simp [gwp, Region.wanted, yielded]; go_simp; first | done | exact hC0 | exact ⟨rfl, hC0⟩
        | 1 => simp at ho; subst ho; simp [gwp, Region.wanted, yielded]; go_simp; first | done | exact hC0 | exact ⟨rfl, hC0⟩
        | 2 => simp at ho; subst ho; simp [gwp, Region.wanted, yielded]; go_simp; first | done | exact hC0 | exact ⟨rfl, hC0⟩
        | 3 => simp at ho; subst ho; simp [gwp, Region.wanted, yielded]; go_simp; first | done | exact hC0 | exact ⟨rfl, hC0⟩
        | 4 => simp at ho; subst ho; simp [gwp, Region.wanted, yielded]; go_simp; first | done | exact hC0 | exact ⟨rfl, hC0⟩
        | 5 => simp at ho; subst ho; simp [gwp, Region.wanted, yielded]; go_simp; first | done | exact hC0 | exact ⟨rfl, hC0⟩
        | 6 => simp at ho; subst ho; simp [gwp, Region.wanted, yielded]; go_simp; first | done | exact hC0 | exact ⟨rfl, hC0⟩
        | 7 => simp at ho; subst ho; simp [gwp, Region.wanted, yielded]; go_simp; first | done | exact hC0 | exact ⟨rfl, hC0⟩
        | 8 =>
          simp at ho; subst ho; simp [gwp, Region.wanted, yielded]; go_simp
          refine (unhide HC x hq).mono ?_
          rintro e w' ⟨rfl, hb2⟩
          go_simp
          first | done | exact hC.on hb2 | exact ⟨rfl, hC.on hb2⟩
        | i + 9 => omega
      · intro full hfull us j hj
        simp at hj
      · intro full hfull us w2 hus hC
        simp [putAll, slotOf, Act.put] at hfull
        subst hfull
        match us, hus with
        | [], _ =>
        have HB2 := hide ((unhide HB).trans (hC.below.mono (unhide HB).size))
        clear hC
        simp [putP]
        go_wp2_with fail
        go_roundw
        case rel => exact ⟨k + 1, by omega, by go_num, unhide HB2⟩
        case measure => simp [intOf]; omega
    · have j1 : ¬ (k : Int) < (lss.length : Int) := by omega
      go_wp2_with fail
      go_ret
      exact ⟨rfl, unhide HB⟩

set_option maxRecDepth 10000 in
set_option maxHeartbeats 2000000 in
theorem heldIntSS_any (B : Nat) (v : Value) (lss : List (List Int)) (vs : List Value) (k0 : Int) (w : World) (h : LstI B w v (markL k0 lss) vs) (hl : lss.length ≤ 100000) (hr : ∀ l ∈ lss, l.length ≤ 1000) (hk0 : 0 ≤ k0) (hk1 : k0 ≤ 1000) :
    Calls Try.prog 20 #[v, .int .i64 k0] w fun e w' => e = .returned (.int .i64 (endK k0 lss)) ∧ Below w.heap.size w w' := by
  have hml := markL_len k0 lss
  obtain ⟨a, cap, hv⟩ := h.slice
  rw [hml] at hv
  have HH := hide h
  have HML := hide hml
  clear h hml
  subst hv
  go_enter Try.func20, Try.ntmps20
  go_wp2_with fail
  go_loopw [1, 5] (fun z i wr => ∃ k : Nat, k ≤ lss.length ∧ i = .int .i64 k ∧ z = .int .i64 (endK k0 (lss.take k)) ∧ Hid (Below w.heap.size w wr)) (fun _ i _ => lss.length - (intOf i).toNat)
  case atStart => exact ⟨0, Nat.zero_le _, rfl, rfl, Below.refl _ _⟩
  case round =>
    rename World => wo
    obtain ⟨k, hk, rfl, rfl, HB⟩ := hrel
    by_cases hlt : k < lss.length
    · have j1 : (k : Int) < (lss.length : Int) := by omega
      obtain ⟨g, c1, hg, _, hgl, c0⟩ := ((unhide HH).on (unhide HB)).cell (i := k) (by rw [unhide HML]; exact hlt)
      simp at hg
      obtain ⟨rfl, hgx, rfl⟩ := hg
      clear hgx
      have hrow := ((unhide HH).on (unhide HB)).row k (by rw [unhide HML]; exact hlt)
      rw [markL_getD k0 lss k hlt] at hrow
      have hbd := endK_bound k0 (lss.take k) hk0 (fun l hl => hr l (List.mem_of_mem_take hl))
      have htl : (lss.take k).length = k := by simp; omega
      rw [htl] at hbd
      have hrl := hr (lss.getD k []) (getD_mem hlt)
      have hend : endK k0 (lss.take (k + 1)) = endK k0 (lss.take k) + (lss.getD k []).length := by
        rw [List.take_succ_eq_append_getElem hlt, endK_snoc]
        simp [List.getD, hlt]
      obtain ⟨ra, rc, hrv, hset⟩ := RowI.set hrow (by rw [upsK_length]; omega)
      rw [upsK_length] at hrv
      rw [hrv] at c0
      generalize (lss.getD k []).length = n at c0 hset hend hrl
      generalize endK k0 (lss.take k) = z at hset hend hbd ⊢
      have HC := hide (heldIntS_k z ra n rc wo hset (by omega) (by omega))
      have HEND := hide hend
      have hnn : ¬ z + (n : Int) < 0 := by omega
      clear hset hrow hrv hend htl hbd hrl
      go_wp2_with (first
        | (go_at_call 29; refine (unhide HC).mono ?_; rintro e w2 ⟨rfl, hb2⟩; have HB2 := hide hb2; clear hb2))
      go_roundw
      case rel => exact ⟨k + 1, by omega, by go_num, by rw [unhide HEND], (unhide HB).trans ((unhide HB2).mono (unhide HB).size)⟩
      case measure => simp [intOf]; omega
    · have j1 : ¬ (k : Int) < (lss.length : Int) := by omega
      have hke : k = lss.length := by omega
      subst hke
      rw [List.take_length]
      go_wp2_with fail
      go_ret
      exact ⟨rfl, unhide HB⟩

/-- The rows, the first k of them marked. -/
def partL (k0 : Int) (lss : List (List Int)) (k : Nat) : List (List Int) := (markL k0 lss).take k ++ lss.drop k
theorem partL_len (k0 : Int) (lss : List (List Int)) (k : Nat) (hk : k ≤ lss.length) : (partL k0 lss k).length = lss.length := by
  unfold partL
  simp [markL_len]
  omega
theorem partL_lt {k0 : Int} {lss : List (List Int)} {k i : Nat} (hk : k ≤ lss.length) (hi : i < k) : (partL k0 lss k).getD i [] = (markL k0 lss).getD i [] := by
  unfold partL
  have hl := markL_len k0 lss
  have h1 : i < ((markL k0 lss).take k).length := by simp [hl]; omega
  simp only [List.getD]
  rw [List.getElem?_append_left h1, List.getElem?_take, if_pos hi]
theorem partL_ge {k0 : Int} {lss : List (List Int)} {k i : Nat} (hk : k ≤ lss.length) (hi : k ≤ i) : (partL k0 lss k).getD i [] = lss.getD i [] := by
  unfold partL
  have hl := markL_len k0 lss
  have h1 : ((markL k0 lss).take k).length = k := by simp [hl]; omega
  simp only [List.getD]
  rw [List.getElem?_append_right (by omega), h1, List.getElem?_drop, show k + (i - k) = i by omega]

end Go.Proofs.Ytgolmagpdbmahat
