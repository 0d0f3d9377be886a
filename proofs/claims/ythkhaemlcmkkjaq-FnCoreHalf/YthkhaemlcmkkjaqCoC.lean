/- Clauses of few variables by bits: the program's fewOf, models, CoreCount. -/
import Derived.Test.YthkhaemlcmkkjaqCoB
import Derived.Test.YthkhaemlcmkkjaqGDcn
namespace Go.Proofs.Ythkhaemlcmkkjaq
set_option linter.unusedVariables false
set_option linter.unusedSimpArgs false
open Go.RowKit Go.Deep

theorem own_lowC {w : World} {B B' : Nat} {e : TypeId} {sz n : Nat} {v : Value} {xs : List Value} (h : w.ownsRow B e sz v n xs) (hb : B' ≤ B) : w.ownsRow B' e sz v n xs := by
  refine ⟨h.1, h.2.imp id ?_⟩
  rintro ⟨g, cap, cur, hv, hg, r⟩
  exact ⟨g, cap, cur, hv, Nat.le_trans hb hg, r⟩
/-- Models by bits, as the program has them. -/
def mdVs (ms : List Nat) : List Value := ms.map fun (n : Nat) => .int .u16 ((n : Nat) : Int)

set_option maxRecDepth 100000 in
set_option maxHeartbeats 4000000 in
theorem models_any (v : Nat) (hv : v ≤ 10) (B : Nat) (a : Option Addr) (cs : List (List Int)) (cap : Nat) (hl : cs.length ≤ 60) (hok : cnfB (v : Int) cs = true) (w : World) (h : BcI B w (.slice a cs.length cap) cs) :
    Calls Try.prog 25 #[.agg #[.int .i64 (v : Int), .slice a cs.length cap]] w fun e w' => (∃ u, e = .returned u ∧ w'.ownsRow w.heap.size 75 1 u (modelsN v cs).length (mdVs (modelsN v cs))) ∧ Below w.heap.size w w' := by
  obtain ⟨i0, hi, hz0, hz1, hz2⟩ := info_parts Try.infoVb
  have hr : ∀ c, c ∈ cs → soN c < 65536 ∧ notN c < 65536 := fun c hc => by
    have h1 := (cnf_rng hok).2.2 c hc
    have h2 := soN_lt (c := c) (fun x hx => (lit_small (by omega) (h1.2 x hx)).2.2)
    have h3 := notN_lt (c := c) (fun x hx => (lit_small (by omega) (h1.2 x hx)).2.1)
    omega
  obtain ⟨hpw, hshl⟩ := pow_u16 hv
  have HFA := hide (fun b (hb : b < 2 ^ v) => ful_all hok hv hb)
  have hmod : modelsN v cs = modelsTo v cs (2 ^ v) := rfl
  have HMOD := hide hmod
  have b1 := (Below.refl w.heap.size w).alloc (Nat.le_refl _) (.cells #[.int .i64 (v : Int), .slice a cs.length cap] 47)
  have HAC := hide (fun (m : Nat) (hm : m < 65536) x (hx : Below w.heap.size w x) => allCl_any m hm B a cs cap (by omega) hr x (h.on hx))
  obtain ⟨w1, hw1⟩ : ∃ w1, w1 = w.alloc (.cells #[.int .i64 (v : Int), .slice a cs.length cap] 47) := ⟨_, rfl⟩
  have hbx : w1.heap[w.heap.size]? = some (.cells #[.int .i64 (v : Int), .slice a cs.length cap] 47 (0, 0)) := by rw [hw1]; exact blk_alloc_new _ _
  rw [← hw1] at b1
  obtain ⟨x0, x1, xf⟩ := two hbx
  have hlt1 : w.heap.size < w1.heap.size := by rw [hw1]; simp
  have HB1 := hide b1
  have HO0 : Hid (w1.ownsRow w1.heap.size 75 1 (.slice none 0 0) (modelsTo v cs 0).length (mdVs (modelsTo v cs 0))) := World.ownsRow_nil _ _ _ _
  clear b1 h hr hbx xf hmod hok
  go_enter Try.func25, Try.ntmps25
  go_upto_region 1 with fail
  rw [← hw1]
  clear hw1
  generalize hN : 2 ^ v = N at hpw hshl
  have HN := hide hN
  clear hN
  go_wp2_with fail
  go_loopw [3, 8] (fun u i wr => ∃ n : Nat, n ≤ N ∧ i = .int .u16 (n : Int) ∧ Hid (wr.ownsRow w1.heap.size 75 1 u (modelsTo v cs n).length (mdVs (modelsTo v cs n))) ∧ Hid (Below w1.heap.size w1 wr)) (fun _ i _ => N - (intOf i).toNat)
  case atStart => exact ⟨0, Nat.zero_le _, rfl, HO0, Below.refl _ _⟩
  case round =>
    rename World => wo
    obtain ⟨n, hn, rfl, HO, HW⟩ := hrel
    clear HO0
    have y0 := ((unhide HW).cell (p := ⟨w.heap.size, 0, none⟩) hlt1).trans x0
    have y1 := ((unhide HW).cell (p := ⟨w.heap.size, 1, none⟩) hlt1).trans x1
    have hml := models_len v cs n
    obtain ⟨ua, uc, huv⟩ : ∃ ua uc, u3 = .slice ua (modelsTo v cs n).length uc := by
      rcases (unhide HO).2 with ⟨hv, h0⟩ | ⟨g, cp, cur, hv, _⟩
      · exact ⟨none, 0, by rw [hv, h0]⟩
      · exact ⟨_, _, hv⟩
    subst huv
    by_cases hnN : n < N
    · have j1 : (n : Int) < (N : Int) := by omega
      have hw1 : IntKind.u16.wrap ((n : Int) + 1) = ((n + 1 : Nat) : Int) := by rw [IntKind.wrap_u16]; omega
      have HF := hide (unhide HFA n (by have := unhide HN; omega))
      have HA := hide (unhide HAC n (by omega) wo ((unhide HB1).trans ((unhide HW).mono (unhide HB1).size)))
      rw [unhide HF] at HA
      have HMM := hide (models_more v cs n)
      clear HF
      cases hhold : holdN v cs n with
      | false =>
        rw [hhold] at HA HMM
        have HO2 : Hid (wo.ownsRow w1.heap.size 75 1 (.slice ua (modelsTo v cs n).length uc) (modelsTo v cs (n + 1)).length (mdVs (modelsTo v cs (n + 1)))) := by
          rw [unhide HMM]
          exact HO
        clear hhold HMM
        generalize (modelsTo v cs n).length = ml at HO2 hml ⊢
        go_wp2_with fail
        refine (unhide HA).mono ?_
        rintro e w5 ⟨rfl, b5⟩
        have HO5 := hide (ownsRow_on (unhide HO2) b5)
        have HW5 := hide ((unhide HW).trans (b5.mono (unhide HW).size))
        clear b5 HO2 HW HO HA
        go_wp2_with fail
        go_roundw
        case rel => exact ⟨n + 1, by omega, by simp, HO5, HW5⟩
        case measure => simp [intOf]; omega
      | true =>
        rw [hhold, if_pos rfl] at HMM
        rw [hhold] at HA
        clear hhold
        go_wp2_with fail
        refine (unhide HA).mono ?_
        rintro e w5 ⟨rfl, b5⟩
        have HO5 := hide (ownsRow_on (unhide HO) b5)
        have HW5 := hide ((unhide HW).trans (b5.mono (unhide HW).size))
        have hz5 := (unhide HW5).size
        clear b5 HW HO HA
        have hown := unhide HO5
        go_wp2_with (first
          | (at_builtin; refine wpList_append_own _ rfl _ _ 50 rfl w1.heap.size 75 i0 (.int .u16 0) 1 2 Try.underlying50 hi hz0 hz1 hz2 rfl (by decide) _ _ _ rfl (hown.alloc _) ⟨w5.heap.size, 0, none⟩ 1 1 [.int .u16 (n : Int)] rfl rfl ?c1 ?c2 ?c3 ?c4 ?c5 ?_))
        case c1 =>
          intro j u hj
          match j, hj with
          | 0, hj => simp at hj; subst hj; simp [Addr.add]
        case c2 => intro u hu; simp at hu; subst hu; rfl
        case c3 => unfold maxLen; omega
        case c4 => omega
        case c5 => simp; omega
        intro v' w6 hown' hgrow _
        have HO6 : Hid (w6.ownsRow w1.heap.size 75 1 v' (modelsTo v cs (n + 1)).length (mdVs (modelsTo v cs (n + 1)))) := by
          rw [unhide HMM]
          show World.ownsRow _ _ _ _ _ _ _
          rw [List.length_append]
          simpa [mdVs] using hown'
        have hzj := hgrow.size
        simp at hzj
        have hblk : ∀ b, (Value.slice ua (modelsTo v cs n).length uc).ownBlock = some b → w1.heap.size ≤ b := fun b hb => (World.ownsRow.lt hown b hb).1
        have HW6 : Hid (Below w1.heap.size w1 w6) := ⟨hgrow.os.trans (unhide HW5).os, hgrow.tape.trans (unhide HW5).tape, hgrow.output.trans (unhide HW5).output, by omega, fun b hb => (hgrow.block b (by simp; omega) (fun e => by have := hblk b e.symm; omega)).trans ((blk_alloc_lt _ _ _ (by omega)).trans ((unhide HW5).block b hb))⟩
        clear hown hown' hgrow HO5 HW5
        go_wp2_with fail
        go_roundw
        case rel => exact ⟨n + 1, by omega, by simp, HO6, HW6⟩
        case measure => simp [intOf]; omega
    · have j1 : ¬ (n : Int) < (N : Int) := by omega
      have hnn : n = 2 ^ v := by have := unhide HN; omega
      have HF : Hid (wo.ownsRow w1.heap.size 75 1 (.slice ua (modelsTo v cs n).length uc) (modelsN v cs).length (mdVs (modelsN v cs))) := by
        rw [unhide HMOD, ← hnn]
        exact HO
      have HBF := hide ((unhide HB1).trans ((unhide HW).mono (unhide HB1).size))
      clear hnn
      generalize (modelsTo v cs n).length = ml at HF hml ⊢
      go_wp2_with fail
      go_ret
      exact ⟨⟨_, rfl, own_lowC (unhide HF) (Nat.le_of_lt hlt1)⟩, unhide HBF⟩
end Go.Proofs.Ythkhaemlcmkkjaq
