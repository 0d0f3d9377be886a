/- The program's test of all places, and of all sets of bits. -/
import Derived.Test.YtecipjdbfmldlabStO
import Derived.Test.YtecipjdbfmldlabImplB
namespace Go.Proofs.Ytecipjdbfmldlab
set_option linter.unusedVariables false
set_option linter.unusedSimpArgs false
open Go.RowKit Go.Deep

/-- What a function value answers of the places ns, from the world w0 on. -/
def Asked (w0 : World) (fid : FuncId) (c1 c2 : Value) (f : Nat → Bool) (ns : List Nat) : Prop := ∀ W, Below w0.heap.size w0 W → ∀ p ∈ ns, Calls Try.prog fid #[.int .i64 (p : Int), c1, c2] W fun e w' => e = .returned (.bool (f p)) ∧ Below W.heap.size W w'

set_option maxHeartbeats 1000000 in
theorem litInt_any (w0 : World) (fid : FuncId) (c1 c2 : Value) (f : Nat → Bool) (hcf : ∀ (v : Value) (W : World), Sem.run Try.prog (callFunc fid #[v, c1, c2]) W = Result.ok (Next.enter fid #[v, c1, c2]) W) (ns : List Nat) (hA : Asked w0 fid c1 c2 f ns) (p g : Nat) (hp : p ∈ ns) (w : World) (hw : Below w0.heap.size w0 w)
    (hg : w.cell? ⟨g, 0, none⟩ = some (.func (.func fid) #[] #[c1, c2])) :
    Calls Try.prog 66 #[.int .i64 (p : Int), .pointer (some ⟨g, 0, none⟩)] w fun e w' => e = .returned (.bool (!f p)) ∧ Below w.heap.size w w' := by
  have H := hide (hA w hw p hp)
  clear hA
  go_enter Try.func66, Try.ntmps66
  go_wp2_with fail
  refine (unhide H).mono ?_
  rintro e w1 ⟨rfl, hb⟩
  go_wp2_with fail
  go_ret
  exact ⟨rfl, hb⟩

set_option maxHeartbeats 1000000 in
theorem searchInt_any (w0 : World) (fid : FuncId) (c1 c2 : Value) (f : Nat → Bool) (hcf : ∀ (v : Value) (W : World), Sem.run Try.prog (callFunc fid #[v, c1, c2]) W = Result.ok (Next.enter fid #[v, c1, c2]) W) (a : Option Addr) (l : List Nat) (cap g : Nat) (hl : l.length ≤ 1000) (hA : Asked w0 fid c1 c2 f l) (w : World) (hw0 : Below w0.heap.size w0 w) (h : PlAt w (.slice a l.length cap) l)
    (hg : w.cell? ⟨g, 0, none⟩ = some (.func (.func fid) #[] #[c1, c2])) :
    Calls Try.prog 65 #[.slice a l.length cap, .int .i64 0, .func (.func 66) #[] #[.pointer (some ⟨g, 0, none⟩)]] w
      fun e w' => (∃ k : Nat, e = .returned (.int .i64 k) ∧ k ≤ l.length ∧ ((k == l.length) = l.all f)) ∧ Below w.heap.size w w' := by
  obtain ⟨a', cap', hv, h⟩ := h
  simp at hv
  obtain ⟨rfl, rfl⟩ := hv
  have HA := hide hA
  have HW0 := hide hw0
  have HCF := hide hcf
  clear hA hw0 hcf
  go_enter Try.func65, Try.ntmps65
  go_wp2
  go_loopw [1] (fun i wr => ∃ k : Nat, k ≤ l.length ∧ i = .int .i64 k ∧ Hid ((l.take k).all f = true) ∧ Below w.heap.size w wr) (fun i _ => l.length - (intOf i).toNat)
  case atStart => exact ⟨0, Nat.zero_le _, rfl, rfl, Below.refl _ _⟩
  case round =>
    rename World => wo
    obtain ⟨k, hk, rfl, hl', hw⟩ := hrel
    by_cases hlt : k < l.length
    · rcases h with h | ⟨b, rfl, hSb, h⟩
      · subst h; simp at hlt
      · have c0 := h k hlt
        clear h
        have H := hide (@all_take_succ Nat l 0 f k hlt)
        have HN := hide (@all_not_take Nat l 0 f k hlt)
        have hmem : l.getD k 0 ∈ l := getD_mem hlt
        generalize l.getD k 0 = q at c0 H HN hmem
        rw [← hw.cell (p := ⟨b, _, none⟩) hSb] at c0
        have hg' := (hw.cell (p := ⟨g, 0, none⟩) (block_lt_of_cell hg)).trans hg
        have HW := hide hw
        clear hw
        go_wp2_with fail
        refine (litInt_any w0 fid c1 c2 f (unhide HCF) l (unhide HA) q g hmem _ ((unhide HW0).trans ((unhide HW).mono (unhide HW0).size)) hg').mono ?_
        rintro e w1 ⟨rfl, hb⟩
        have hbe := (unhide HW).trans (hb.mono (unhide HW).size)
        have HBE := hide hbe
        clear hb hbe
        cases hv : f q with
        | true =>
          go_wp2_with fail
          go_roundw
          case rel => exact ⟨k + 1, by omega, by go_num, by show _ = true; rw [unhide H, hl'.out, hv]; rfl, unhide HBE⟩
          case measure => simp [intOf]; omega
        | false =>
          have e1 := unhide HN hv
          have HE := hide e1
          clear e1
          go_wp2_with fail
          go_ret
          refine ⟨⟨k, rfl, by omega, ?_⟩, unhide HBE⟩
          rw [unhide HE, beq_eq_false_iff_ne]; omega
    · go_wp2_with fail
      go_ret
      refine ⟨⟨k, rfl, by omega, ?_⟩, hw⟩
      rw [all_of_take hlt hl'.out, beq_iff_eq]; omega

set_option maxHeartbeats 1000000 in
theorem allInt_any (fid : FuncId) (c1 c2 : Value) (f : Nat → Bool) (hcf : ∀ (v : Value) (W : World), Sem.run Try.prog (callFunc fid #[v, c1, c2]) W = Result.ok (Next.enter fid #[v, c1, c2]) W) (a : Option Addr) (l : List Nat) (cap : Nat) (hl : l.length ≤ 1000) (w : World) (hA : Asked w fid c1 c2 f l) (h : PlAt w (.slice a l.length cap) l) :
    Calls Try.prog 49 #[.slice a l.length cap, .func (.func fid) #[] #[c1, c2]] w fun e w' => e = .returned (.bool (l.all f)) ∧ Below w.heap.size w w' := by
  have H := hide (fun (o : Obj) g hg => searchInt_any w fid c1 c2 f hcf a l cap g hl hA (w.alloc o) ((Below.refl _ _).alloc (Nat.le_refl _) _) (h.on ((Below.refl _ _).alloc (Nat.le_refl _) _)) hg)
  clear h hA hcf
  go_enter Try.func49, Try.ntmps49
  go_wp2_with fail
  refine (unhide H _ _ ?_).mono ?_
  · simp
  · rintro e w1 ⟨⟨k, rfl, hk, he⟩, hb⟩
    have HE := hide he
    clear he
    go_wp2_with fail
    go_ret
    refine ⟨ret_bool ?_, ((Below.refl _ _).alloc (Nat.le_refl _) _).trans (hb.mono (by simp))⟩
    rw [← unhide HE, Bool.eq_iff_iff]; simp; omega

/-- A set of bits meets others. -/
def meetB (s n : Nat) : Bool := decide (s &&& n ≠ 0)
set_option maxHeartbeats 1000000 in
theorem litBits_any (s n g : Nat) (hs : s < 65536) (hn : n < 65536) (w : World) (hg : w.cell? ⟨g, 0, none⟩ = some (.func (.func 63) #[.int .u64 (s : Int)] #[])) :
    Calls Try.prog 75 #[.int .u64 (n : Int), .pointer (some ⟨g, 0, none⟩)] w fun e w' => e = .returned (.bool (!meetB s n)) ∧ w' = w := by
  go_enter Try.func75, Try.ntmps75
  go_wp2_with fail
  refine (meets_any s n hs hn _).mono ?_
  rintro e w1 ⟨rfl, rfl⟩
  go_wp2_with fail
  go_ret
  exact ⟨ret_bool (by simp [meetB]), rfl⟩

set_option maxHeartbeats 1000000 in
theorem searchBits_any (s : Nat) (hs : s < 65536) (ag : Nat) (a : Option Addr) (l : List Nat) (cap g : Nat) (hl : l.length ≤ 1000) (hn : ∀ n ∈ l, n < 65536) (w : World) (h : BitsAt w ag (.slice a l.length cap) l)
    (hg : w.cell? ⟨g, 0, none⟩ = some (.func (.func 63) #[.int .u64 (s : Int)] #[])) :
    Calls Try.prog 74 #[.slice a l.length cap, .int .i64 0, .func (.func 75) #[] #[.pointer (some ⟨g, 0, none⟩)]] w
      fun e w' => (∃ k : Nat, e = .returned (.int .i64 k) ∧ k ≤ l.length ∧ ((k == l.length) = l.all (meetB s))) ∧ w' = w := by
  obtain ⟨a', cap', hv, h⟩ := h
  simp at hv
  obtain ⟨rfl, rfl⟩ := hv
  go_enter Try.func74, Try.ntmps74
  go_wp2
  go_loopw [1] (fun i wr => ∃ k : Nat, k ≤ l.length ∧ i = .int .i64 k ∧ Hid ((l.take k).all (meetB s) = true) ∧ wr = w) (fun i _ => l.length - (intOf i).toNat)
  case atStart => exact ⟨0, Nat.zero_le _, rfl, rfl, rfl⟩
  case round =>
    rename World => wo
    obtain ⟨k, hk, rfl, hl', rfl⟩ := hrel
    by_cases hlt : k < l.length
    · rcases h with h | ⟨b, rfl, hSb, _, h⟩
      · subst h; simp at hlt
      · have c0 := h k hlt
        clear h
        have H := hide (@all_take_succ Nat l 0 (meetB s) k hlt)
        have HN := hide (@all_not_take Nat l 0 (meetB s) k hlt)
        have hmem := hn _ (getD_mem (d := 0) hlt)
        generalize l.getD k 0 = q at c0 H HN hmem
        go_wp2_with fail
        refine (litBits_any s q g hs hmem _ hg).mono ?_
        rintro e w1 ⟨rfl, rfl⟩
        cases hv : meetB s q with
        | true =>
          go_wp2_with fail
          go_roundw
          case rel => exact ⟨k + 1, by omega, by go_num, by show _ = true; rw [unhide H, hl'.out, hv]; rfl, by first | rfl | trivial⟩
          case measure => simp [intOf]; omega
        | false =>
          have e1 := unhide HN hv
          have HE := hide e1
          clear e1
          go_wp2_with fail
          go_ret
          refine ⟨⟨k, rfl, by omega, ?_⟩, rfl⟩
          rw [unhide HE, beq_eq_false_iff_ne]; omega
    · go_wp2_with fail
      go_ret
      refine ⟨⟨k, rfl, by omega, ?_⟩, rfl⟩
      rw [all_of_take hlt hl'.out, beq_iff_eq]; omega

set_option maxHeartbeats 1000000 in
theorem allBits_any (s : Nat) (hs : s < 65536) (ag : Nat) (a : Option Addr) (l : List Nat) (cap : Nat) (hl : l.length ≤ 1000) (hn : ∀ n ∈ l, n < 65536) (w : World) (h : BitsAt w ag (.slice a l.length cap) l) :
    Calls Try.prog 64 #[.slice a l.length cap, .func (.func 63) #[.int .u64 (s : Int)] #[]] w fun e w' => e = .returned (.bool (l.all (meetB s))) ∧ Below w.heap.size w w' := by
  have H := hide (fun (o : Obj) g hg => searchBits_any s hs ag a l cap g hl hn (w.alloc o) (h.on (World.grownBy_alloc _ _ _)) hg)
  clear h
  go_enter Try.func64, Try.ntmps64
  go_wp2_with fail
  refine (unhide H _ _ ?_).mono ?_
  · simp
  · rintro e w1 ⟨⟨k, rfl, hk, he⟩, rfl⟩
    have HE := hide he
    clear he
    go_wp2_with fail
    go_ret
    refine ⟨ret_bool ?_, (Below.refl _ _).alloc (Nat.le_refl _) _⟩
    rw [← unhide HE, Bool.eq_iff_iff]; simp; omega
end Go.Proofs.Ytecipjdbfmldlab
