/- Texts of packs as lists of bytes; the specification's own decimals and requests. -/
import Derived.Test.YtlabpejmmkeacauDoorSpecB
import Derived.Test.YtlabpejmmkeacauDoorConv
import Derived.Lib.ItoaNum
import Derived.Lib.QuietBelow
import Derived.Deep.RegionWith
namespace Go.Proofs.YtlabpejmmkeacauDoor
set_option linter.unusedVariables false
set_option linter.unusedSimpArgs false
open Go.RowKit Go.Sort

def bs (l : List UInt8) : ByteArray := ⟨l.toArray⟩
theorem bs_eq {s : ByteArray} {l : List UInt8} (h : s.data.toList = l) : s = bs l := by
  subst h; cases s; simp [bs]
theorem bs_data (l : List UInt8) : (bs l).data.toList = l := by simp [bs]
theorem bs_size (l : List UInt8) : (bs l).size = l.length := by simp [bs, ByteArray.size]
theorem size_data (s : ByteArray) : s.size = s.data.toList.length := by show s.data.size = _; simp

def dL (n : Int) : List UInt8 := Lib.decDigits n.toNat
def reqL (q : ReqD) : List UInt8 := 32 :: (q.name.data.toList ++ 32 :: (dL q.low ++ 32 :: dL q.high))
def reqsL (l : List ReqD) : List UInt8 := l.flatMap reqL
def rowL (l : List ReqD) : List UInt8 := [100, 101, 112] ++ (reqsL l ++ [10])
def moreL (w : List UInt8) (l : List ReqD) : List UInt8 := if 0 < l.length then w ++ (reqsL l ++ [10]) else []
def headL (p : PackD) : List UInt8 := [112, 97, 99, 107, 32] ++ (p.name.data.toList ++ (32 :: (dL p.ver ++ (32 :: (dL p.size ++ [10])))))
def packL (p : PackD) : List UInt8 := headL p ++ (p.deps.flatMap rowL ++ (moreL [112, 114, 101] p.pres ++ moreL [98, 97, 110] p.bans))
def repoL (packs : List PackD) (room : Int) : List UInt8 := [114, 111, 111, 109, 32] ++ (dL room ++ [10]) ++ packs.flatMap packL
def writeL (packs : List PackD) (room : Int) : List UInt8 := if repoB ⟨packs, room⟩ then (if 3000 < (repoL packs room).length then [] else repoL packs room) else []

theorem dL_small (n : Int) (h0 : 0 ≤ n) (h : n < 10) : dL n = [UInt8.ofNat (48 + n.toNat)] := by
  unfold dL; rw [Lib.decDigits, dif_pos (by omega)]
theorem dL_step (n : Int) (h0 : 0 ≤ n) (h : ¬ n < 10) : dL n = dL (n / 10) ++ [UInt8.ofNat (48 + n.toNat % 10)] := by
  unfold dL
  rw [Lib.decDigits, dif_neg (by omega), show (n / 10).toNat = n.toNat / 10 by omega]
theorem dL_len (n : Int) (h0 : 0 ≤ n) (h : n ≤ 999) : (dL n).length ≤ 3 := by
  by_cases h1 : n < 10
  · rw [dL_small n h0 h1]; simp
  · rw [dL_step n h0 h1, List.length_append]
    by_cases h2 : n / 10 < 10
    · rw [dL_small _ (by omega) h2]; simp
    · rw [dL_step _ (by omega) h2, List.length_append, dL_small _ (by omega) (by omega)]; simp

set_option maxHeartbeats 1000000 in
theorem l6Dec_one (n : Int) (w : World) (h0 : 0 ≤ n) (hn3 : n < 10) :
    Calls Tryd.prog 11 #[.int .i64 n] w fun e w' => e = .returned (.string (bs (dL n))) ∧ Below w.heap.size w w' := by
  have hn1 : ¬ n < -9223372036854775807 := by omega
  have hn2 : ¬ n < 0 := by omega
  have HE := hide (dL_small n h0 hn3)
  have hcv := conv_one (P := Tryd.prog) (w.alloc (.cells #[.int .u8 (48 + n)] 5)) 52 9 5 w.heap.size (48 + n) Tryd.underlying52 Tryd.underlying5 Tryd.underlying9 (by simp) (by omega) (by omega)
  go_enter Tryd.func11, Tryd.ntmps11
  go_wp2
  go_ret
  refine ⟨?_, (Below.refl _ _).alloc (Nat.le_refl _) _⟩
  rw [unhide HE, ← (show (48 + n).toNat = 48 + n.toNat by omega)]
  rfl

theorem cell_new {w w1 : World} {v : Value} {t : TypeId} (hb : Below (w.alloc (.cells #[v] t)).drew.heap.size (w.alloc (.cells #[v] t)).drew w1) : w1.cell? ⟨w.heap.size, 0, none⟩ = some v :=
  (hb.cell (p := ⟨w.heap.size, 0, none⟩) (by simp)).trans (by simp)

theorem below_a {w w1 : World} {o : Obj} (hb : Below (w.alloc o).drew.heap.size (w.alloc o).drew w1) : Below w.heap.size w w1 :=
  (((Below.refl _ _).alloc (Nat.le_refl _) _).drew).trans (hb.mono (by simp))
theorem below_b {w w1 : World} (hb : Below w.drew.heap.size w.drew w1) (o : Obj) : Below w.heap.size w (w1.alloc o) :=
  ((Below.refl w.heap.size w).drew.trans hb).alloc hb.size _
theorem dec_ret (n : Int) (h0 : 0 ≤ n) : Ending.returned (.string (bs (dL (n / 10)) ++ ⟨#[UInt8.ofNat (48 + n % 10).toNat]⟩)) = .returned (.string (bs (dL (n / 10) ++ [UInt8.ofNat (48 + n.toNat % 10)]))) := by
  rw [show (48 + n % 10).toNat = 48 + n.toNat % 10 by omega]
  congr 2

set_option maxHeartbeats 2000000 in
theorem l6Dec_any : ∀ (k : Nat) (n : Int) (w : World), 0 ≤ n → n < 10 ^ (k + 1) → n ≤ 999 →
    Calls Tryd.prog 11 #[.int .i64 n] w fun e w' => e = .returned (.string (bs (dL n))) ∧ Below w.heap.size w w' := by
  intro k
  induction k with
  | zero => intro n w h0 h1 h2; exact l6Dec_one n w h0 (by simpa using h1)
  | succ k ih =>
    intro n w h0 h1 h2
    by_cases hn3 : n < 10
    · exact l6Dec_one n w h0 hn3
    · have hn1 : ¬ n < -9223372036854775807 := by omega
      have hn2 : ¬ n < 0 := by omega
      have hp : n / 10 < 10 ^ (k + 1) := by
        have : (10 : Int) ^ (k + 1 + 1) = 10 ^ (k + 1) * 10 := Int.pow_succ 10 (k + 1)
        omega
      have HI := hide (fun W => ih (n / 10) W (by omega) hp (by omega))
      have HE := hide (dL_step n h0 hn3)
      have hlen := dL_len (n / 10) (by omega) (by omega)
      have hsz : (bs (dL (n / 10))).size ≤ 3 := by rw [bs_size]; exact hlen
      clear ih hp h1 hlen
      have hd : IntKind.i64.wrap (n.tdiv 10) = n / 10 := by rw [IntKind.wrap_i64, Int.tdiv_eq_ediv_of_nonneg h0]; omega
      have hm : IntKind.u8.wrap (IntKind.i64.wrap (48 + n.tmod 10)) = 48 + n % 10 := by rw [IntKind.wrap_i64, Int.tmod_eq_emod_of_nonneg h0, IntKind.wrap_u8]; omega
      have hcv := fun W g (hc : W.cell? ⟨g, 0, none⟩ = some (.int .u8 (48 + n % 10))) => conv_one (P := Tryd.prog) W 52 9 5 g (48 + n % 10) Tryd.underlying52 Tryd.underlying5 Tryd.underlying9 hc (by omega) (by omega)
      go_enter Tryd.func11, Tryd.ntmps11
      go_wp2_with fail
      go_region_with (go_at_call 11; refine (unhide HI _).mono ?_; rintro e w1 ⟨rfl, hb⟩; (try have hcc := cell_new hb))
      all_goals
        go_wp2_with fail
        go_ret
        refine ⟨?_, ?_⟩
        · rw [unhide HE]
          exact dec_ret n h0
        · first | exact below_a hb | exact below_b hb _

theorem l6Dec_at (n : Int) (w : World) (h0 : 0 ≤ n) (h2 : n ≤ 999) :
    Calls Tryd.prog 11 #[.int .i64 n] w fun e w' => e = .returned (.string (bs (dL n))) ∧ Below w.heap.size w w' := l6Dec_any 2 n w h0 (by omega) h2

theorem reqsL_take {l : List ReqD} {k : Nat} (h : k < l.length) : reqsL (l.take (k + 1)) = reqsL (l.take k) ++ reqL (l.getD k dReq) := by
  unfold reqsL
  rw [List.take_succ_eq_append_getElem h, List.flatMap_append]
  simp [List.getD, h]

structure ReqOk (q : ReqD) : Prop where
  name : q.name.size ≤ 6
  low0 : 0 ≤ q.low
  low1 : q.low ≤ 999
  high0 : 0 ≤ q.high
  high1 : q.high ≤ 999
theorem reqOk_of {q : ReqD} (h : reqB q = true) : ReqOk q := by
  simp only [reqB, nameB, inB, Bool.and_eq_true, decide_eq_true_eq] at h
  obtain ⟨⟨⟨⟨_, h1⟩, _⟩, h2, h3⟩, h4, h5⟩ := h
  exact ⟨by omega, by omega, by omega, by omega, by omega⟩
theorem reqsOk_of {l : List ReqD} (h : reqsB l = true) : l.length ≤ 4 ∧ ∀ i, i < l.length → ReqOk (l.getD i dReq) := by
  simp only [reqsB, Bool.and_eq_true, decide_eq_true_eq, List.all_eq_true] at h
  exact ⟨h.1, fun i hi => reqOk_of (h.2 _ (getD_mem hi))⟩
theorem reqL_len {q : ReqD} (h : ReqOk q) : (reqL q).length ≤ 15 := by
  have a := dL_len q.low h.low0 h.low1
  have b := dL_len q.high h.high0 h.high1
  have c := h.name
  rw [size_data] at c
  simp only [reqL, List.length_cons, List.length_append]
  omega
theorem reqsL_len {l : List ReqD} (h : ∀ i, i < l.length → ReqOk (l.getD i dReq)) : ∀ k, k ≤ l.length → (reqsL (l.take k)).length ≤ 15 * k := by
  intro k
  induction k with
  | zero => intro _; simp [reqsL]
  | succ k ih =>
    intro hk
    have a := ih (by omega)
    have b := reqL_len (h k (by omega))
    rw [reqsL_take (by omega), List.length_append]
    omega

set_option maxHeartbeats 2000000 in
theorem l1Say_any (a : Option Addr) (l : List ReqD) (cap : Nat) (w : World) (h : ReqsAt (Old w) w a l) (hok : reqsB l = true) :
    Calls Tryd.prog 12 #[.slice a l.length cap] w fun e w' => e = .returned (.string (bs (reqsL l))) ∧ Below w.heap.size w w' := by
  obtain ⟨hm, h⟩ := h
  obtain ⟨h4, hq4⟩ := reqsOk_of hok
  have HQ4 := hide hq4
  clear hok hm hq4
  go_enter Tryd.func12, Tryd.ntmps12
  go_wp2
  go_loopw [3, 4] (fun s i wr => ∃ k : Nat, k ≤ l.length ∧ i = .int .i64 k ∧ s = .string (bs (reqsL (l.take k))) ∧ Below w.heap.size w wr) (fun _ i _ => l.length - (intOf i).toNat)
  case atStart => exact ⟨0, Nat.zero_le _, rfl, by simp [reqsL, bs], Below.refl _ _⟩
  case round =>
    rename World => wo
    obtain ⟨k, hk, rfl, rfl, hw⟩ := hrel
    by_cases hlt : k < l.length
    · rcases h with h | ⟨b, o, rfl, hSb, h⟩
      · subst h; simp at hlt
      · have hq := h k hlt
        have hqo := unhide HQ4 k hlt
        clear h
        have hlen := reqsL_len (unhide HQ4) k hk
        have HT := hide (@reqsL_take l k hlt)
        obtain ⟨q, hqe⟩ : ∃ q, q = l.getD k dReq := ⟨_, rfl⟩
        rw [← hqe] at hq hqo HT
        obtain ⟨c0, c1, c2, hn⟩ := hq
        rw [← hw.cell (p := ⟨b, _, none⟩) hSb] at c0 c1 c2
        obtain ⟨s, hse⟩ : ∃ s, s = bs (reqsL (l.take k)) := ⟨_, rfl⟩
        have hss : s.size ≤ 60 := by rw [hse, bs_size]; omega
        rw [← hse]
        obtain ⟨da, hda⟩ : ∃ d, d = bs (dL q.low) := ⟨_, rfl⟩
        have hsa : da.size ≤ 3 := by rw [hda, bs_size]; exact dL_len _ hqo.low0 hqo.low1
        obtain ⟨db, hdb⟩ : ∃ d, d = bs (dL q.high) := ⟨_, rfl⟩
        have hsb : db.size ≤ 3 := by rw [hdb, bs_size]; exact dL_len _ hqo.high0 hqo.high1
        have hsn := hqo.name
        have n1 : ¬ 9223372036854775807 < s.size + 1 := by omega
        have n2 : ¬ 9223372036854775807 < s.size + 1 + q.name.size := by omega
        have n3 : ¬ 9223372036854775807 < s.size + 1 + q.name.size + 1 := by omega
        have n4 : ¬ 9223372036854775807 < s.size + 1 + q.name.size + 1 + da.size := by omega
        have n5 : ¬ 9223372036854775807 < s.size + 1 + q.name.size + 1 + da.size + 1 := by omega
        have n6 : ¬ 9223372036854775807 < s.size + 1 + q.name.size + 1 + da.size + 1 + db.size := by omega
        have cA := hide (fun d os => Calls.regrown_of (by rw [hda]; exact l6Dec_at q.low (grow (redrawn wo d) os) hqo.low0 hqo.low1 : Calls Tryd.prog 11 #[.int .i64 q.low] (grow (redrawn wo d) os) fun e w' => e = .returned (.string da) ∧ Below (grow (redrawn wo d) os).heap.size (grow (redrawn wo d) os) w'))
        have cB := hide (fun d os => Calls.regrown_of (by rw [hdb]; exact l6Dec_at q.high (grow (redrawn wo d) os) hqo.high0 hqo.high1 : Calls Tryd.prog 11 #[.int .i64 q.high] (grow (redrawn wo d) os) fun e w' => e = .returned (.string db) ∧ Below (grow (redrawn wo d) os).heap.size (grow (redrawn wo d) os) w'))
        have j0 : (0 : Int) ≤ (k : Int) := by omega
        have j1 : (k : Int) < (l.length : Int) := by omega
        have r0 := cell_regrown c0
        have r1 := cell_regrown c1
        have r2 := cell_regrown c2
        have HW := hide hw
        have HD := hide (And.intro hse (And.intro hda hdb))
        clear hw hse hda hdb hqe hqo hlen
        go_wp2_with fail
        refine wp_region_quiet_below (by kernel_rfl) (by kernel_rfl) ?_
        repeat (quiet_step (first | (go_at_call_of 11 q.low; exact unhide cA _ _) | (go_at_call_of 11 q.high; exact unhide cB _ _)))
        refine wpQuiet_nil ?_
        intro _ hw'
        obtain ⟨⟨dq, osq⟩, hw''⟩ := hw'
        subst hw''
        have HBE := hide ((unhide HW).trans ((below_regrown wo dq osq).mono (unhide HW).size))
        clear r0 r1 r2
        go_wp2_with fail
        go_roundw
        case rel =>
          refine ⟨k + 1, by omega, by go_num, ?_, unhide HBE⟩
          obtain ⟨h1, h2, h3⟩ := unhide HD
          subst h1 h2 h3
          congr 1
          exact bs_eq (by rw [unhide HT]; simp [bs_data, reqL])
        case measure => simp [intOf]; omega
    · go_wp2_with fail
      go_ret
      refine ⟨?_, hw⟩
      rw [List.take_of_length_le (by omega)]
      rfl
end Go.Proofs.YtlabpejmmkeacauDoor
