/- Clauses of few variables by bits: the program's fewOf, models, CoreCount. -/
import Derived.Test.YthkhaemlcmkkjaqCoA
import Derived.Maps.AppendAt
namespace Go.Proofs.Ythkhaemlcmkkjaq
set_option linter.unusedVariables false
set_option linter.unusedSimpArgs false
open Go.RowKit Go.Deep

theorem Try.infoBc : (Try.prog.info? 77).map (fun i => (i.zero, i.size, i.bytes)) = some (some (.agg #[.int .u16 0, .int .u16 0]), 2, 4) := by kernel_rfl
theorem Try.infoVb : (Try.prog.info? 75).map (fun i => (i.zero, i.size, i.bytes)) = some (some (.int .u16 0), 1, 2) := by kernel_rfl
/-- Clauses by bits, cell by cell. -/
def bcVs (cs : List (List Int)) : List Value := cs.flatMap fun c => [.int .u16 ((soN c : Nat) : Int), .int .u16 ((notN c : Nat) : Int)]
theorem bcVs_len (cs : List (List Int)) : (bcVs cs).length = cs.length * 2 := by
  induction cs with
  | nil => rfl
  | cons c cs ih =>
    have e : bcVs (c :: cs) = [.int .u16 ((soN c : Nat) : Int), .int .u16 ((notN c : Nat) : Int)] ++ bcVs cs := rfl
    rw [e, List.length_append, ih, List.length_cons]
    simp
    omega
theorem bcVs_app (a b : List (List Int)) : bcVs (a ++ b) = bcVs a ++ bcVs b := by simp [bcVs]
theorem bcVs_at : ∀ (cs : List (List Int)) (i : Nat), i < cs.length → (bcVs cs)[i * 2]? = some (.int .u16 ((soN (cs.getD i []) : Nat) : Int)) ∧ (bcVs cs)[i * 2 + 1]? = some (.int .u16 ((notN (cs.getD i []) : Nat) : Int))
  | c :: cs, 0, _ => ⟨rfl, rfl⟩
  | c :: cs, i + 1, h => by
    have e : bcVs (c :: cs) = [.int .u16 ((soN c : Nat) : Int), .int .u16 ((notN c : Nat) : Int)] ++ bcVs cs := rfl
    obtain ⟨h1, h2⟩ := bcVs_at cs i (by simpa using h)
    rw [e, show (i + 1) * 2 = i * 2 + 2 by omega, List.getElem?_append_right (by simp), List.getElem?_append_right (by simp)]
    simp only [List.length_cons, List.length_nil, Nat.zero_add]
    refine ⟨?_, ?_⟩
    · rw [show i * 2 + 2 - (1 + 1) = i * 2 by omega, h1]; simp
    · rw [show i * 2 + 2 + 1 - (1 + 1) = i * 2 + 1 by omega, h2]; simp
/-- Clauses by bits in memory of their own. -/
def BcI (B : Nat) (w : World) (v : Value) (cs : List (List Int)) : Prop := w.ownsRow B 77 2 v cs.length (bcVs cs)
theorem BcI.slice {B : Nat} {w : World} {v : Value} {cs : List (List Int)} (h : BcI B w v cs) : ∃ a cap, v = .slice a cs.length cap := by
  rcases h.2 with ⟨hv, h0⟩ | ⟨g, cap, cur, hv, _⟩
  · exact ⟨none, 0, by rw [hv, h0]⟩
  · exact ⟨_, _, hv⟩
theorem BcI.cell {B : Nat} {w : World} {a : Option Addr} {cap : Nat} {cs : List (List Int)} (h : BcI B w (.slice a cs.length cap) cs) {i : Nat} (hi : i < cs.length) : ∃ g, a = some ⟨g, 0, none⟩ ∧ g < w.heap.size ∧ w.cell? ⟨g, i * 2, none⟩ = some (.int .u16 ((soN (cs.getD i []) : Nat) : Int)) ∧ w.cell? ⟨g, i * 2 + 1, none⟩ = some (.int .u16 ((notN (cs.getD i []) : Nat) : Int)) := by
  have h' := h
  rcases h.2 with ⟨_, h0⟩ | ⟨g, cap', cur, hv, _, hc, _⟩
  · omega
  · simp only [Value.slice.injEq, true_and] at hv
    obtain ⟨rfl, rfl⟩ := hv
    obtain ⟨h1, h2⟩ := bcVs_at cs i hi
    exact ⟨g, rfl, (Array.getElem?_eq_some_iff.1 hc).1, by rw [World.ownsRow.cellAt h' (i * 2) (by omega), h1], by rw [World.ownsRow.cellAt h' (i * 2 + 1) (by omega), h2]⟩
theorem BcI.on {B : Nat} {w w' : World} {v : Value} {cs : List (List Int)} (h : BcI B w v cs) (hb : Below w.heap.size w w') : BcI B w' v cs := ownsRow_on h hb

set_option maxHeartbeats 1000000 in
theorem litCl_any (m : Nat) (s t g : Nat) (hm : m < 65536) (hs : s < 65536) (ht : t < 65536) (w : World) (hg : w.cell? ⟨g, 0, none⟩ = some (.func (.func 45) #[.int .u16 (m : Int)] #[])) :
    Calls Try.prog 59 #[.agg #[.int .u16 (s : Int), .int .u16 (t : Int)], .pointer (some ⟨g, 0, none⟩)] w fun e w' => e = .returned (.bool (!(decide (m &&& s ≠ 0) || decide (t &&& (65535 - m) ≠ 0)))) ∧ Below w.heap.size w w' := by
  have HF := hide (fun W => fulfils_any m s t hm hs ht W)
  generalize (decide (m &&& s ≠ 0) || decide (t &&& (65535 - m) ≠ 0)) = r at HF
  have hgl := block_lt_of_cell hg
  have b0 := (Below.refl w.heap.size w).alloc (Nat.le_refl _) (.cells #[.int .u16 (s : Int), .int .u16 (t : Int)] 77)
  rw [← b0.cell (p := ⟨g, 0, none⟩) hgl] at hg
  go_enter Try.func59, Try.ntmps59
  go_wp2_with fail
  refine (unhide HF _).mono ?_
  rintro e w1 ⟨rfl, b1⟩
  have HB := hide (b0.trans (b1.mono (by simp)))
  clear b0 b1 HF
  go_wp2_with fail
  go_ret
  exact ⟨rfl, unhide HB⟩

set_option maxRecDepth 100000 in
set_option maxHeartbeats 2000000 in
theorem searchCl_any (m : Nat) (hm : m < 65536) (B : Nat) (a : Option Addr) (cs : List (List Int)) (cap g : Nat) (hl : cs.length ≤ 1000) (hr : ∀ c, c ∈ cs → soN c < 65536 ∧ notN c < 65536) (w : World) (h : BcI B w (.slice a cs.length cap) cs)
    (hg : w.cell? ⟨g, 0, none⟩ = some (.func (.func 45) #[.int .u16 (m : Int)] #[])) :
    Calls Try.prog 58 #[.slice a cs.length cap, .int .i64 0, .func (.func 59) #[] #[.pointer (some ⟨g, 0, none⟩)]] w
      fun e w' => (∃ k : Nat, e = .returned (.int .i64 k) ∧ k ≤ cs.length ∧ ((k == cs.length) = cs.all (fulB m))) ∧ Below w.heap.size w w' := by
  have HB := hide h
  have HG := hide hg
  have HRR := hide hr
  have hgl := block_lt_of_cell hg
  clear h hg hr
  go_enter Try.func58, Try.ntmps58
  go_wp2
  go_loopw [1] (fun i wr => ∃ k : Nat, k ≤ cs.length ∧ i = .int .i64 k ∧ Hid ((cs.take k).all (fulB m) = true) ∧ Hid (Below w.heap.size w wr)) (fun i _ => cs.length - (intOf i).toNat)
  case atStart => exact ⟨0, Nat.zero_le _, rfl, rfl, Below.refl _ _⟩
  case round =>
    rename World => wo
    obtain ⟨k, hk, rfl, hl', HW⟩ := hrel
    by_cases hlt : k < cs.length
    · obtain ⟨sg, hsa, hsl, c0, c1⟩ := (unhide HB).cell hlt
      subst hsa
      rw [← (unhide HW).cell (p := ⟨sg, _, none⟩) hsl] at c0 c1
      have H := hide (@all_take_succ (List Int) cs [] (fulB m) k hlt)
      have HN := hide (@all_not_take (List Int) cs [] (fulB m) k hlt)
      obtain ⟨hs1, hs2⟩ := unhide HRR _ (getD_mem (d := ([] : List Int)) hlt)
      have HLC := hide (litCl_any m (soN (cs.getD k [])) (notN (cs.getD k [])) g hm hs1 hs2 wo (((unhide HW).cell (p := ⟨g, 0, none⟩) hgl).trans (unhide HG)))
      rw [show (decide (m &&& soN (cs.getD k []) ≠ 0) || decide (notN (cs.getD k []) &&& (65535 - m) ≠ 0)) = fulB m (cs.getD k []) from rfl] at HLC
      clear hs1 hs2
      generalize fulB m (cs.getD k []) = fb at H HN HLC
      generalize soN (cs.getD k []) = sv at c0 HLC
      generalize notN (cs.getD k []) = tv at c1 HLC
      have j0 : (0 : Int) ≤ (k : Int) := by omega
      have j1 : (k : Int) < (cs.length : Int) := by omega
      go_wp2_with fail
      refine (unhide HLC).mono ?_
      rintro e w1 ⟨rfl, b1⟩
      have HBE := hide ((unhide HW).trans (b1.mono (unhide HW).size))
      clear b1 HLC HW
      cases fb with
      | true =>
        go_wp2_with fail
        go_roundw
        case rel => exact ⟨k + 1, by omega, by go_num, by show _ = true; rw [unhide H, hl'.out]; rfl, HBE⟩
        case measure => simp [intOf]; omega
      | false =>
        have HE := hide (unhide HN rfl)
        go_wp2_with fail
        go_ret
        refine ⟨⟨k, rfl, by omega, ?_⟩, unhide HBE⟩
        rw [unhide HE, beq_eq_false_iff_ne]; omega
    · have j1 : ¬ (k : Int) < (cs.length : Int) := by omega
      go_wp2_with fail
      go_ret
      refine ⟨⟨k, rfl, by omega, ?_⟩, unhide HW⟩
      rw [all_of_take hlt hl'.out, beq_iff_eq]; omega

set_option maxHeartbeats 1000000 in
theorem allCl_any (m : Nat) (hm : m < 65536) (B : Nat) (a : Option Addr) (cs : List (List Int)) (cap : Nat) (hl : cs.length ≤ 1000) (hr : ∀ c, c ∈ cs → soN c < 65536 ∧ notN c < 65536) (w : World) (h : BcI B w (.slice a cs.length cap) cs) :
    Calls Try.prog 44 #[.slice a cs.length cap, .func (.func 45) #[.int .u16 (m : Int)] #[]] w fun e w' => e = .returned (.bool (cs.all (fulB m))) ∧ Below w.heap.size w w' := by
  have H := hide (fun (o : Obj) g hg => searchCl_any m hm B a cs cap g hl hr (w.alloc o) (h.on ((Below.refl _ _).alloc (Nat.le_refl _) _)) hg)
  clear h
  go_enter Try.func44, Try.ntmps44
  go_wp2_with fail
  refine (unhide H _ _ ?_).mono ?_
  · simp
  · rintro e w1 ⟨⟨k, rfl, hk, he⟩, b1⟩
    have HE := hide he
    have HB := hide (((Below.refl w.heap.size w).alloc (Nat.le_refl _) _).trans (b1.mono (by simp)))
    clear he b1
    go_wp2_with fail
    go_ret
    refine ⟨ret_bool ?_, unhide HB⟩
    rw [← unhide HE, Bool.eq_iff_iff]; simp; omega
end Go.Proofs.Ythkhaemlcmkkjaq
