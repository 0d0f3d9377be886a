/- The specification's drawn rows of requests. -/
import Derived.Test.YtecipjdbfmldlabDrawB
import Derived.OwnWalk
namespace Go.Proofs.Ytecipjdbfmldlab
set_option linter.unusedVariables false
set_option linter.unusedSimpArgs false
set_option maxRecDepth 10000
open Go.RowKit Go.Deep

def reqVals (q : ReqD) : List Value := [.string q.name, .int .i64 q.low, .int .i64 q.high]
theorem Try.infoReq : (Try.prog.info? 71).map (fun i => (i.zero, i.size, i.bytes)) = some (some (.agg #[.string ⟨#[]⟩, .int .i64 0, .int .i64 0]), 3, 32) := by kernel_rfl

theorem Wrote.grown {B : Nat} {ts : TypeId → Prop} {a w w' : World} {row : Option Nat} (h : Wrote B ts a w) (hg : w.grownBy w' row) (hrow : ∀ k, row = some k → a.heap.size ≤ k) : Wrote B ts a w' := by
  have e : ∀ b, b < a.heap.size → w'.heap[b]? = w.heap[b]? := fun b hb => hg.block b (Nat.lt_of_lt_of_le hb h.size) (fun x => by have := hrow b x.symm; omega)
  exact ⟨hg.os.trans h.os, hg.tape.trans h.tape, hg.output.trans h.output, Nat.le_trans h.size hg.size, fun b hb hc => (e b hb).trans (h.block b hb hc), fun b t n hr => (h.shape b t n hr).of_block (e b hr.lt)⟩
theorem Rd.grown {B : Nat} {w w' : World} {rb : Nat} {m : Int} {row : Option Nat} (h : Rd B w rb m) (hg : w.grownBy w' row) (hrow : ∀ k, row = some k → rb < k) : Rd B w' rb m := by
  have e : ∀ b, b ≤ rb → w'.heap[b]? = w.heap[b]? := fun b hb => hg.block b (Nat.lt_of_le_of_lt hb h.lt) (fun x => by have := hrow b x.symm; omega)
  exact h.on hg.size (fun b hb => e b (by have := h.past; omega)) (e rb (Nat.le_refl _))
/-- A slice of the call's own stays where the reader alone is written. -/
theorem owns_wrote {B base : Nat} {x y : World} {e : TypeId} {size : Nat} {v : Value} {n : Nat} {xs : List Value} (h : x.ownsRow base e size v n xs) (hw : Wrote B isRd x y) (he : e ≠ 73) : y.ownsRow base e size v n xs := by
  refine ⟨h.1, ?_⟩
  rcases h.2 with hn | ⟨g, cap, cur, hv, hb, hg, rest⟩
  · exact .inl hn
  · exact .inr ⟨g, cap, cur, hv, hb, hw.blk hg he, rest⟩

set_option maxHeartbeats 2000000 in
theorem l71Reqs_any (B rb : Nat) (m : Int) (most : Int) (w : World) (h : Rd B w rb m) (hm : m ≤ 90000) (h0 : 0 ≤ most) (h2 : most ≤ 2) :
    Calls Try.prog 59 #[.pointer (some ⟨rb, 0, none⟩), .int .i64 most] w fun e w' => (∃ (v : Value) (l : List ReqD), e = .returned v ∧ l.length ≤ 2 ∧ (∀ q ∈ l, OkReq q) ∧ w'.ownsRow w.heap.size 71 3 v l.length (l.flatMap reqVals)) ∧ Rd B w' rb (m + 50) ∧ Wrote B isRd w w' := by
  have hrl := h.lt
  have h1 := h.alloc (.cells #[] 71 (0, 0))
  have W1 : Wrote B isRd w (w.alloc (.cells #[] 71 (0, 0))) := Wrote.of_below ((Below.refl _ _).alloc (Nat.le_refl _) _)
  have O1 := World.ownsRow_made (base := w.heap.size) (e := 71) (size := 3) w #[] 0 (Nat.le_refl _) (Nat.zero_le _) rfl
  have hmo := wr64 (most + 1) (by omega)
  go_enter Try.func59, Try.ntmps59
  go_wp2_with fail
  refine (pick_any B rb _ (most + 1) _ h1 (by omega) (by omega) (by omega)).mono ?_
  rintro e w1 ⟨⟨r, rfl, hr0, hr1⟩, R1, V1⟩
  have O2 := owns_wrote O1 V1 reqNotRd
  have W2 := W1.trans V1
  obtain ⟨r, rfl⟩ : ∃ n : Nat, r = n := ⟨r.toNat, by omega⟩
  clear O1 V1 W1 h1
  go_wp2_with fail
  go_loopw [5, 6] (fun v i wr => ∃ (k : Nat) (l : List ReqD), i = .int .i64 k ∧ k + l.length ≤ 2 ∧ (∀ q ∈ l, OkReq q) ∧ wr.ownsRow w.heap.size 71 3 v l.length (l.flatMap reqVals) ∧ Rd B wr rb (m + 1 + 20 * l.length) ∧ Wrote B isRd w wr) (fun _ i _ => (intOf i).toNat)
  case atStart => exact ⟨r, [], rfl, by simp; omega, by simp, O2, by simpa using R1, W2⟩
  case round =>
    rename World => wo
    obtain ⟨k, l, rfl, hk, hl, hown, hR, hW⟩ := hrel
    by_cases hk0 : 0 < k
    · have hk1 : (0 : Int) < (k : Int) := by omega
      go_wp2_with fail
      refine (l71Req_any B rb _ _ hR (by omega)).mono ?_
      rintro e w2 ⟨⟨q, rfl, hq⟩, R2, V2⟩
      have own2 := owns_wrote hown V2 reqNotRd
      have W3 := hW.trans V2
      have hz := W3.size
      obtain ⟨i0, hi, hz0, hz1, hz2⟩ := info_parts Try.infoReq
      go_wp2_with (at_builtin; refine wpList_append_own _ rfl _ _ 31 rfl w.heap.size 71 i0 (.agg #[.string ⟨#[]⟩, .int .i64 0, .int .i64 0]) 3 32 Try.underlying31 hi hz0 hz1 hz2 rfl (by decide) _ _ _ rfl (own2.alloc _) ⟨w2.heap.size, 0, none⟩ 1 1 (reqVals q) rfl rfl ?c1 ?c2 ?c3 ?c4 ?c5 ?_)
      case c1 =>
        intro j u hj
        match j, hj with
        | 0, hj => simp [reqVals] at hj; subst hj; simp [Addr.add]
        | 1, hj => simp [reqVals] at hj; subst hj; simp [Addr.add]
        | 2, hj => simp [reqVals] at hj; subst hj; simp [Addr.add]
      case c2 => intro u hu; simp [reqVals] at hu; rcases hu with rfl | rfl | rfl <;> rfl
      case c3 => unfold maxLen; omega
      case c4 => omega
      case c5 => simp; omega
      intro v' w3 hown' hgrow _
      have hlo := fun k hk => (World.ownsRow.lt own2 k hk).1
      have HW := hide ((W3.trans (Wrote.of_below ((Below.refl _ _).alloc (Nat.le_refl _) _))).grown hgrow hlo)
      have HR := hide ((R2.alloc _).grown hgrow (fun k hk => Nat.lt_of_lt_of_le hrl (hlo k hk)))
      have HO := hide hown'
      clear hown' hgrow hown own2 hlo hW R2 V2 W3 hz hR
      go_wp2_with fail
      go_roundw
      case rel =>
        refine ⟨k - 1, l ++ [q], by go_num, by simp; omega, ?_, ?_, (unhide HR).more (by simp; omega), unhide HW⟩
        · intro x hx
          rcases List.mem_append.1 hx with hx | hx
          · exact hl x hx
          · rw [List.mem_singleton.1 hx]; exact hq
        · simpa using unhide HO
      case measure => simp [intOf]; omega
    · have hk1 : ¬ (0 : Int) < (k : Int) := by omega
      go_wp2_with fail
      go_ret
      exact ⟨⟨_, rfl, l, by omega, hl, hown⟩, hR.more (by omega), hW⟩
end Go.Proofs.Ytecipjdbfmldlab
