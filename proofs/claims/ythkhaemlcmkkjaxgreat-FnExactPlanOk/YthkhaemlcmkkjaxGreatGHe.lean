/- What inForm answers, with where the stock lies. The program's inHealth. -/
import Derived.Test.YthkhaemlcmkkjaxGreatGForm
import Derived.Test.YthkhaemlcmkkjaxGreatGSv
import Derived.Test.YthkhaemlcmkkjaxGreatGRn
namespace Go.Proofs.YthkhaemlcmkkjaxGreat
set_option linter.unusedVariables false
set_option linter.unusedSimpArgs false
open Go.RowKit Go.Deep

/-- What inForm answers, with where its parts lie. -/
def FormOut2 (w w' : World) (a : Option Addr) (cap : Nat) (l : List PackD) (room : Int) (set : List Int) (e : Ending) : Prop :=
  if formB l room set then ∃ V, e = .returned (.tuple #[V, .int .u64 ((setBits set : Nat) : Int), .bool true]) ∧ Stock w' V l room ∧ ∃ bm v, V = .agg #[.slice a l.length cap, .int .i64 room, .map (some bm), v] ∧ AsksFrom w.heap.size v l else e = .returned (.tuple #[emptyStock, .int .u64 0, .bool false])

set_option maxRecDepth 100000 in
set_option maxHeartbeats 4000000 in
theorem inForm_any2 (a : Option Addr) (l : List PackD) (cap : Nat) (room : Int) (sa : Option Addr) (set : List Int) (sc : Nat) (w : World) (h : PacksAt (Old w) w a l) (hs : SetAt w sa set) :
    Calls Tryz.prog 59 #[.agg #[.slice a l.length cap, .int .i64 room], .slice sa set.length sc] w fun e w' => FormOut2 w w' a cap l room set e ∧ Below w.heap.size w w' := by
  obtain ⟨hsl, hset⟩ := hs
  have hm := h.1
  unfold maxLen at hm
  have hw1 := IntKind.wrap_i64 ((l.length : Int) - 1)
  have hw2 : IntKind.i64.wrap ((l.length : Int) - 1) = (l.length : Int) - 1 := by rw [hw1]; omega
  have HP := hide h
  have HSET := hide hset
  clear h hw1 hset
  go_enter Tryz.func59, Tryz.ntmps59
  have bA := ((Below.refl w.heap.size w).alloc (Nat.le_refl _) (.cells #[.slice a l.length cap, .int .i64 room] 33)).alloc (by simp) (.cells #[.slice none 0 0, .int .i64 0, .map none, .slice none 0 0] 73)
  have HC := hide (implRepoOk_any a l cap room _ ((unhide HP).on bA))
  go_wp2_with fail
  refine (unhide HC).mono ?_
  rintro e w1 ⟨rfl, hb1⟩
  have z1 := hb1.size
  simp at z1
  have x0 := hb1.cell (p := ⟨w.heap.size, 0, none⟩) (by simp; omega)
  have x1 := hb1.cell (p := ⟨w.heap.size, 1, none⟩) (by simp; omega)
  simp at x0 x1
  have rb1 : w1.heap[w.heap.size + 1]? = some (.cells #[.slice none 0 0, .int .i64 0, .map none, .slice none 0 0] 73 (0, 0)) := (hb1.block (w.heap.size + 1) (by simp)).trans (by
    have := blk_alloc_new (w.alloc (.cells #[.slice a l.length cap, .int .i64 room] 33)) (.cells #[.slice none 0 0, .int .i64 0, .map none, .slice none 0 0] 73)
    simpa using this)
  have HB1 := hide (bA.trans (hb1.mono (by simp; omega)))
  have HR1 := hide rb1
  clear HC bA hb1 rb1
  cases hok : repoB ⟨l, room⟩ with
  | false =>
    have HE : Hid (formB l room set = false) := by show _ = _; unfold formB; rw [hok]; simp
    obtain ⟨r0, r1, r2, r3, f0, f1, f2, f3⟩ := cells4 (unhide HR1)
    go_wp2_with fail
    obtain ⟨e0, e1, e2, e3, hg⟩ := set4_facts (unhide HR1) (.slice none 0 0) (.int .i64 0) (.map none) (.slice none 0 0)
    change bodyPost _ _ _ _ _ (set4 w1 (w.heap.size + 1) (.slice none 0 0) (.int .i64 0) (.map none) (.slice none 0 0))
    generalize set4 w1 (w.heap.size + 1) (.slice none 0 0) (.int .i64 0) (.map none) (.slice none 0 0) = W' at e0 e1 e2 e3 hg ⊢
    refine bodyPost_ret (v := .tuple #[emptyStock, .int .u64 0, .bool false]) (by simp [results, Tryz.results59, go_sem, e0, e1, e2, e3, emptyStock]) rfl ?_
    refine ⟨?_, below_var (unhide HB1) (by omega) hg⟩
    unfold FormOut2
    rw [unhide HE]
    rfl
  | true =>
    have okl := OkL.of hok
    have hl8 := okl.l8
    have HOK := hide okl
    clear okl
    go_wp2_with fail
    go_loopw [7, 8, 17] (fun sv lv i wr => ∃ k : Nat, k ≤ set.length ∧ i = .int .i64 k ∧ sv = .int .u64 ((setBits (set.take k) : Nat) : Int) ∧ lv = .int .i64 (leastZ set k) ∧ Hid ((List.range k).all (placeB l.length set) = true) ∧ wr = w1) (fun _ _ i _ => set.length - (intOf i).toNat)
    case atStart => exact ⟨0, Nat.zero_le _, rfl, rfl, rfl, rfl, rfl⟩
    case round =>
      rename World => wo
      obtain ⟨k, hk, rfl, rfl, rfl, HA, rfl⟩ := hrel
      by_cases hlt : k < set.length
      · have j1 : (k : Int) < (set.length : Int) := by omega
        rcases unhide HSET with hnil | ⟨b, o, rfl, hbl, hsc⟩
        · rw [hnil] at hlt; simp at hlt
        have c0 := hsc k hlt
        rw [← World.cell?_of_block (w := w) (a := ⟨b, o + k, none⟩) ((unhide HB1).block b hbl)] at c0
        have hpl := place_step (n := l.length) (unhide HA)
        have hall : (List.range (k + 1)).all (placeB l.length set) = ((List.range k).all (placeB l.length set) && placeB l.length set k) := by rw [List.range_succ]; simp
        have hsb := setBits_succ set k hlt
        have hbl16 := setBits_lt (unhide HA) hk hl8
        have hnext : leastZ set (k + 1) = set.getD k 0 + 1 := by simp [leastZ]
        have hno : placeB l.length set k = false → formB l room set = false := fun hf => by
          unfold formB placesB
          rw [Bool.and_eq_false_iff]
          left
          rw [List.all_eq_false]
          exact ⟨k, List.mem_range.2 hlt, by simp [hf]⟩
        have hzz : placeB l.length set k = true → 0 ≤ set.getD k 0 := fun h => by
          unfold placeB inB at h
          simp only [Bool.and_eq_true, decide_eq_true_eq] at h
          omega
        have HNO := hide hno
        have HALL := hide hall
        have HSB := hide hsb
        have HNX := hide hnext
        have HZZ := hide hzz
        have hbw : b < wo.heap.size := by omega
        generalize setBits (set.take k) = sb at HSB hbl16 ⊢
        generalize leastZ set k = lz at hpl ⊢
        generalize set.getD k 0 = z at c0 hpl HSB HNX HZZ
        clear hsc hall hno hsb hnext hzz
        cases hin : inB z lz ((l.length : Int) - 1) with
        | false =>
          rw [hin] at hpl
          have HE := hide (unhide HNO hpl.symm)
          obtain ⟨r0, r1, r2, r3, f0, f1, f2, f3⟩ := cells4 (unhide HR1)
          clear HNO HALL hpl
          go_wp2_with (first
            | (go_at_call 83; refine (within_any _ _ _ _).mono ?_; rintro e w' ⟨rfl, hww⟩; obtain rfl := hww.symm; rw [hin]))
          obtain ⟨e0, e1, e2, e3, hg⟩ := set4_facts (unhide HR1) (.slice none 0 0) (.int .i64 0) (.map none) (.slice none 0 0)
          change bodyPost _ _ _ _ _ (set4 wo (w.heap.size + 1) (.slice none 0 0) (.int .i64 0) (.map none) (.slice none 0 0))
          generalize set4 wo (w.heap.size + 1) (.slice none 0 0) (.int .i64 0) (.map none) (.slice none 0 0) = W' at e0 e1 e2 e3 hg ⊢
          refine bodyPost_ret (v := .tuple #[emptyStock, .int .u64 0, .bool false]) (by simp [results, Tryz.results59, go_sem, e0, e1, e2, e3, emptyStock]) rfl ?_
          refine ⟨?_, below_var (unhide HB1) (by omega) hg⟩
          unfold FormOut2
          rw [unhide HE]
          rfl
        | true =>
          rw [hin] at hpl
          have HA' := hide ((unhide HALL).trans (by rw [unhide HA, ← hpl, Bool.and_self]))
          have hz0 := unhide HZZ hpl.symm
          have hz' : 0 ≤ z ∧ z < 8 := by
            have h1 := hin
            unfold inB at h1
            simp only [Bool.and_eq_true, decide_eq_true_eq] at h1
            omega
          obtain ⟨p, rfl⟩ : ∃ p : Nat, z = (p : Int) := ⟨z.toNat, by omega⟩
          have hp16 : p < 16 := by omega
          have hw3 : IntKind.i64.wrap ((p : Int) + 1) = (p : Int) + 1 := by rw [IntKind.wrap_i64]; omega
          clear HNO HALL hpl hz0 HZZ
          go_wp2_with (first
            | (go_at_call 83; refine (within_any _ _ _ _).mono ?_; rintro e w' ⟨rfl, hww⟩; obtain rfl := hww.symm; rw [hin])
            | (go_at_call 84; refine (with_any sb p hbl16 hp16 _).mono ?_; rintro e w' ⟨rfl, hww⟩; obtain rfl := hww.symm))
          go_roundw
          case rel => exact ⟨k + 1, by omega, by go_num, by rw [unhide HSB]; rfl, by rw [unhide HNX], unhide HA', by first | rfl | trivial⟩
          case measure => simp [intOf]; omega
      · have hke : k = set.length := by omega
        subst hke
        have j1 : ¬ ((set.length : Nat) : Int) < (set.length : Int) := by omega
        have HE : Hid (formB l room set = true) := by
          show _ = _
          unfold formB placesB
          rw [unhide HA, hok]
          rfl
        rw [List.take_length]
        have HCS := hide (stockOf_any a l cap room wo ((unhide HP).on (unhide HB1)) hl8 (unhide HOK).reqs)
        go_wp2_with fail
        refine (unhide HCS).mono ?_
        rintro e w2 ⟨⟨bm, v, rfl, hAs, hfrom⟩, hb2⟩
        have rb2 := (hb2.block (w.heap.size + 1) (by omega)).trans (unhide HR1)
        obtain ⟨r0, r1, r2, r3, f0, f1, f2, f3⟩ := cells4 rb2
        have HR2 := hide rb2
        have HAS := hide hAs
        have HB2 := hide ((unhide HB1).trans (hb2.mono (unhide HB1).size))
        obtain ⟨⟨xa, xc, rfl⟩, _⟩ := hAs
        have hz2 := hb2.size
        clear HCS rb2 hb2
        go_wp2_with fail
        obtain ⟨e0, e1, e2, e3, hg⟩ := set4_facts (unhide HR2) (.slice a l.length cap) (.int .i64 room) (.map (some bm)) (.slice xa l.length xc)
        change bodyPost _ _ _ _ _ (set4 w2 (w.heap.size + 1) (.slice a l.length cap) (.int .i64 room) (.map (some bm)) (.slice xa l.length xc))
        generalize set4 w2 (w.heap.size + 1) (.slice a l.length cap) (.int .i64 room) (.map (some bm)) (.slice xa l.length xc) = W' at e0 e1 e2 e3 hg ⊢
        refine bodyPost_ret (v := .tuple #[.agg #[.slice a l.length cap, .int .i64 room, .map (some bm), .slice xa l.length xc], .int .u64 ((setBits set : Nat) : Int), .bool true]) (by simp [results, Tryz.results59, go_sem, e0, e1, e2, e3]) rfl ?_
        have hbW := below_var (unhide HB2) (by omega) hg
        refine ⟨?_, hbW⟩
        unfold FormOut2
        rw [unhide HE]
        refine ⟨_, rfl, ⟨a, cap, bm, _, rfl, (unhide HP).on hbW, (unhide HAS).var hfrom hg (by omega)⟩, bm, _, rfl, fun h0 ag ac hv => ?_⟩
        have := hfrom h0 ag ac hv
        omega
end Go.Proofs.YthkhaemlcmkkjaxGreat

namespace Go.Proofs.YthkhaemlcmkkjaxGreat
set_option linter.unusedVariables false
set_option linter.unusedSimpArgs false
open Go.RowKit Go.Deep

theorem set4_block (W : World) (rb : Nat) (v0 v1 v2 v3 : Value) {k : Nat} (h : k ≠ rb) : (set4 W rb v0 v1 v2 v3).heap[k]? = W.heap[k]? := by
  unfold set4
  exact (blk_setCell_other _ ⟨rb, 3, none⟩ _ _ h).trans ((blk_setCell_other _ ⟨rb, 2, none⟩ _ _ h).trans ((blk_setCell_other _ ⟨rb, 1, none⟩ _ _ h).trans (blk_setCell_other _ ⟨rb, 0, none⟩ _ _ h)))
/-- All along the statement that answers: the result's block, as it was and as it shall be. -/
structure CY (W : World) (rb : Nat) (v0 v1 v2 v3 : Value) (b : Bool) (us : List Value) (x : World) : Prop where
  os : x.os = W.os
  tape : x.tape = W.tape
  output : x.output = W.output
  size : W.heap.size ≤ x.heap.size
  block : ∀ k, k < W.heap.size → k ≠ rb → x.heap[k]? = W.heap[k]?
  res : x.heap[rb]? = some (.cells (if b then #[v0, v1, v2, v3] else #[.slice none 0 0, .int .i64 0, .map none, .slice none 0 0]) 73 (0, 0))
section
variable {W : World} {rb : Nat} {v0 v1 v2 v3 : Value} {us : List Value} {x y : World}
theorem CY.grown {b : Bool} (h : CY W rb v0 v1 v2 v3 b us x) : W.grownBy x (some rb) := ⟨h.os, h.tape, h.output, h.size, fun k hk hne => h.block k hk (fun e => hne (by rw [e]))⟩
theorem CY.cell {b : Bool} (h : CY W rb v0 v1 v2 v3 b us x) {p : Addr} (hp : p.block < W.heap.size) (hne : p.block ≠ rb) : x.cell? p = W.cell? p := World.cell?_of_block (w := W) (h.block p.block hp hne)
theorem CY.on {b : Bool} (h : CY W rb v0 v1 v2 v3 b us x) (hb : Below x.heap.size x y) : CY W rb v0 v1 v2 v3 b us y :=
  ⟨hb.os.trans h.os, hb.tape.trans h.tape, hb.output.trans h.output, Nat.le_trans h.size hb.size, fun k hk hne => (hb.block k (Nat.lt_of_lt_of_le hk h.size)).trans (h.block k hk hne), (hb.block rb (Array.getElem?_eq_some_iff.1 h.res).1).trans h.res⟩
theorem CY.store (h : CY W rb v0 v1 v2 v3 false us x) : CY W rb v0 v1 v2 v3 true us (set4 x rb v0 v1 v2 v3) := by
  refine ⟨h.os, h.tape, h.output, ?_, fun k hk hne => (set4_block x rb v0 v1 v2 v3 hne).trans (h.block k hk hne), ?_⟩
  · have := h.size
    unfold set4
    simpa [nblk_setCell] using this
  · have hr := h.res
    simp only [Bool.false_eq_true, if_false] at hr
    unfold set4
    rw [blk_set (blk_set (blk_set (blk_set hr 0 _) 1 _) 2 _) 3 _]
    rfl
end
/-- What inHealth answers. -/
def HealthOut (w' : World) (l : List PackD) (room : Int) (set : List Int) (e : Ending) : Prop :=
  ∃ xa xn xc ro mp ya yn yc n, e = .returned (.tuple #[.agg #[.slice xa xn xc, .int .i64 ro, .map mp, .slice ya yn yc], .int .u64 n, .bool (okZ l room set)]) ∧ (okZ l room set = true → n = ((setBits set : Nat) : Int) ∧ Stock w' (.agg #[.slice xa xn xc, .int .i64 ro, .map mp, .slice ya yn yc]) l room)

set_option maxRecDepth 100000 in
set_option maxHeartbeats 8000000 in
theorem inHealth_any (a : Option Addr) (l : List PackD) (cap : Nat) (room : Int) (sa : Option Addr) (set : List Int) (sc : Nat) (w : World) (h : PacksAt (Old w) w a l) (hs : SetAt w sa set) :
    Calls Tryz.prog 40 #[.agg #[.slice a l.length cap, .int .i64 room], .slice sa set.length sc] w fun e w' => HealthOut w' l room set e ∧ Below w.heap.size w w' := by
  have bA := ((Below.refl w.heap.size w).alloc (Nat.le_refl _) (.cells #[.slice a l.length cap, .int .i64 room] 33)).alloc (by simp) (.cells #[.slice none 0 0, .int .i64 0, .map none, .slice none 0 0] 73)
  have HC := hide (inForm_any2 a l cap room sa set sc _ (h.on bA) (hs.on bA))
  have HPW := hide h
  clear h hs
  go_enter Tryz.func40, Tryz.ntmps40
  go_wp2_with fail
  refine (unhide HC).mono ?_
  rintro e w1 ⟨hf, hb1⟩
  have z1 := hb1.size
  simp at z1
  have rb1 : w1.heap[w.heap.size + 1]? = some (.cells #[.slice none 0 0, .int .i64 0, .map none, .slice none 0 0] 73 (0, 0)) := (hb1.block (w.heap.size + 1) (by simp)).trans (by
    have := blk_alloc_new (w.alloc (.cells #[.slice a l.length cap, .int .i64 room] 33)) (.cells #[.slice none 0 0, .int .i64 0, .map none, .slice none 0 0] 73)
    simpa using this)
  have HB1 := hide (bA.trans (hb1.mono (by simp; omega)))
  have HR1 := hide rb1
  clear HC hb1 bA rb1
  unfold FormOut2 at hf
  cases hfm : formB l room set with
  | false =>
    rw [hfm] at hf
    simp at hf
    subst hf
    have HE := hide (show okZ l room set = false by unfold okZ; rw [hfm]; rfl)
    clear hfm
    unfold emptyStock
    go_upto_region 2 with fail
    obtain ⟨w2, hw2⟩ : ∃ w2, w2 = w1.alloc (.cells #[.slice none 0 0, .int .i64 0, .map none, .slice none 0 0] 73) := ⟨_, rfl⟩
    rw [← hw2]
    have b2 : Below w1.heap.size w1 w2 := by rw [hw2]; exact (Below.refl _ _).alloc (Nat.le_refl _) _
    have x0 : w2.cell? ⟨w1.heap.size, 0, none⟩ = some (.slice none 0 0) := by rw [hw2]; simp
    have x1 : w2.cell? ⟨w1.heap.size, 1, none⟩ = some (.int .i64 0) := by rw [hw2]; simp
    have x2 : w2.cell? ⟨w1.heap.size, 2, none⟩ = some (.map none) := by rw [hw2]; simp
    have x3 : w2.cell? ⟨w1.heap.size, 3, none⟩ = some (.slice none 0 0) := by rw [hw2]; simp
    have hlt2 : w1.heap.size < w2.heap.size := by rw [hw2]; simp
    have hne1 : w1.heap.size ≠ w.heap.size + 1 := by omega
    have HR2 := hide ((b2.block (w.heap.size + 1) (by omega)).trans (unhide HR1))
    have HB2 := hide ((unhide HB1).trans (b2.mono (unhide HB1).size))
    clear hw2 b2 HR1 HB1
    refine wp_region_mixN (k := 8) 10 [] [.agg #[.slice none 0 0, .int .i64 0, .map none, .slice none 0 0], .int .u64 0, .bool false, .bool false, undef, undef, undef, .bool false, undef, .int .u64 0] (CY w2 (w.heap.size + 1) (.slice none 0 0) (.int .i64 0) (.map none) (.slice none 0 0)) (by kernel_rfl) (by kernel_rfl) (by kernel_rfl) (by kernel_rfl) (by kernel_rfl) (by kernel_rfl) ⟨(Below.refl 0 _).drew.os, (Below.refl 0 _).drew.tape, (Below.refl 0 _).drew.output, (Below.refl 0 _).drew.size, fun k hk _ => (Below.refl w2.heap.size _).drew.block k hk, ((Below.refl w2.heap.size _).drew.block _ (by omega)).trans (unhide HR2)⟩ ?_ ?_ ?_
    · intro full hfull i oo hi hns ho x fl us hC hb
      simp [putAll, slotOf, Act.put] at hfull
      subst hfull
      rw [← hC.cell (p := ⟨w1.heap.size, _, none⟩) hlt2 hne1] at x0 x1 x2 x3
      have hC0 : CY w2 (w.heap.size + 1) (.slice none 0 0) (.int .i64 0) (.map none) (.slice none 0 0) fl us x := hC
      match i with
      | 0 => simp at ho; subst ho; simp [gwp, Region.wanted, yielded]; go_simp; first | done | exact hC0 | exact ⟨rfl, hC0⟩ | (simp; exact hC0)
      | 1 => simp at ho; subst ho; simp [gwp, Region.wanted, yielded]; go_simp; first | done | exact hC0 | exact ⟨rfl, hC0⟩ | (simp; exact hC0)
      | 2 => simp at ho; subst ho; simp [gwp, Region.wanted, yielded]; go_simp; first | done | exact hC0 | exact ⟨rfl, hC0⟩ | (simp; exact hC0)
      | 3 => simp at ho; subst ho; simp [gwp, Region.wanted, yielded]; go_simp; first | done | exact hC0 | exact ⟨rfl, hC0⟩ | (simp; exact hC0)
      | 4 => simp at ho; subst ho; simp [gwp, Region.wanted, yielded]; go_simp; first | done | exact hC0 | exact ⟨rfl, hC0⟩ | (simp; exact hC0)
      | 5 => simp at ho; subst ho; simp [gwp, Region.wanted, yielded]; go_simp; first | done | exact hC0 | exact ⟨rfl, hC0⟩ | (simp; exact hC0)
      | 6 => simp at ho; subst ho; simp [gwp, Region.wanted, yielded]; go_simp; first | done | exact hC0 | exact ⟨rfl, hC0⟩ | (simp; exact hC0)
      | 7 => simp at ho; subst ho; simp [gwp, Region.wanted, yielded]; go_simp; first | done | exact hC0 | exact ⟨rfl, hC0⟩ | (simp; exact hC0)
      | 8 =>
        simp at ho; subst ho; simp [gwp, Region.wanted, yielded]
        have hbf := hb rfl
        subst hbf
        obtain ⟨r0, r1, r2, r3, f0, f1, f2, f3⟩ := cells4 hC.res
        go_simp
        have hC9 := hC.store
        unfold set4 at hC9
        first | done | exact hC9 | exact ⟨rfl, hC9⟩ | (simp; exact hC9)
      | 9 => simp at ho; subst ho; simp [gwp, Region.wanted, yielded]; go_simp; first | done | exact hC0 | exact ⟨rfl, hC0⟩ | (simp; exact hC0)
      | i + 10 => omega
    · intro full hfull us j hj
      simp at hj
    · intro full hfull us wz hus hC
      simp [putAll, slotOf, Act.put] at hfull
      subst hfull
      match us, hus with
      | [], _ =>
      obtain ⟨e0, e1, e2, e3, _, _, _, _⟩ := cells4 hC.res
      first | (simp at e0 e1 e2 e3) | skip
      have HG := hide hC.grown
      clear hC x0 x1 x2 x3
      simp [putP, slotOf, Act.put]
      go_wp2_with fail
      refine bodyPost_ret (v := .tuple #[.agg #[.slice none 0 0, .int .i64 0, .map none, .slice none 0 0], .int .u64 0, .bool false]) (by simp [results, Tryz.results40, go_sem, e0, e1, e2, e3]) rfl ?_
      refine ⟨⟨_, _, _, _, _, _, _, _, _, by rw [unhide HE], fun h => ?_⟩, below_var (unhide HB2) (by omega) (unhide HG)⟩
      rw [unhide HE] at h
      cases h
  | true =>
    rw [hfm] at hf
    simp at hf
    obtain ⟨V, rfl, hst, bm, v, hV, hfrom⟩ := hf
    subst hV
    have hokz : okZ l room set = healthB l room (setBits set) := by unfold okZ; rw [hfm]; rfl
    have hsm := setBits_small hfm
    have hpl : ∀ p ∈ placesTo (setBits set) 8, p < l.length := by rw [set_places hfm]; exact set_lt hfm
    have hok := form_ok hfm
    obtain ⟨a', cap', bm', v', hV', _, hAs⟩ := hst
    simp at hV'
    obtain ⟨⟨rfl, rfl⟩, rfl, rfl⟩ := hV'
    have HAS := hide hAs
    have HFR := hide hfrom
    obtain ⟨⟨ya, yc, rfl⟩, _⟩ := hAs
    have HOKZ := hide hokz
    generalize hbs : setBits set = bs at *
    obtain ⟨hb, hhb⟩ : ∃ hb, healthB l room bs = hb := ⟨_, rfl⟩
    have HHB := hide hhb
    rw [hhb] at HOKZ
    have HBS := hide hbs
    clear hfm hokz hfrom hhb hbs
    go_upto_region 2 with fail
    obtain ⟨w2, hw2⟩ : ∃ w2, w2 = w1.alloc (.cells #[.slice a l.length cap, .int .i64 room, .map (some bm), .slice ya l.length yc] 73) := ⟨_, rfl⟩
    rw [← hw2]
    have b2 : Below w1.heap.size w1 w2 := by rw [hw2]; exact (Below.refl _ _).alloc (Nat.le_refl _) _
    have x0 : w2.cell? ⟨w1.heap.size, 0, none⟩ = some (.slice a l.length cap) := by rw [hw2]; simp
    have x1 : w2.cell? ⟨w1.heap.size, 1, none⟩ = some (.int .i64 room) := by rw [hw2]; simp
    have x2 : w2.cell? ⟨w1.heap.size, 2, none⟩ = some (.map (some bm)) := by rw [hw2]; simp
    have x3 : w2.cell? ⟨w1.heap.size, 3, none⟩ = some (.slice ya l.length yc) := by rw [hw2]; simp
    have hlt2 : w1.heap.size < w2.heap.size := by rw [hw2]; simp
    have hne1 : w1.heap.size ≠ w.heap.size + 1 := by omega
    have HR2 := hide ((b2.block (w.heap.size + 1) (by omega)).trans (unhide HR1))
    have HB2 := hide ((unhide HB1).trans (b2.mono (unhide HB1).size))
    have HAS2 := hide ((unhide HAS).on b2)
    have HHC := hide (fun x (hx : w2.grownBy x (some (w.heap.size + 1))) => healthy_any l room (.agg #[.slice a l.length cap, .int .i64 room, .map (some bm), .slice ya l.length yc]) bs hsm hpl hok x ⟨a, cap, bm, _, rfl, (unhide HPW).on (below_var (unhide HB2) (by omega) hx), (unhide HAS2).var (unhide HFR) hx (by simp)⟩)
    rw [unhide HHB] at HHC
    clear hw2 b2 HR1 HB1 hsm hpl hok HHB
    refine wp_region_mixN (k := 8) 10 [] [.agg #[.slice a l.length cap, .int .i64 room, .map (some bm), .slice ya l.length yc], .int .u64 ((bs : Nat) : Int), .bool true, .bool true, .agg #[.slice a l.length cap, .int .i64 room, .map (some bm), .slice ya l.length yc], .int .u64 ((bs : Nat) : Int), .bool hb, .bool hb, undef, .int .u64 ((bs : Nat) : Int)] (CY w2 (w.heap.size + 1) (.slice a l.length cap) (.int .i64 room) (.map (some bm)) (.slice ya l.length yc)) (by kernel_rfl) (by kernel_rfl) (by kernel_rfl) (by kernel_rfl) (by kernel_rfl) (by kernel_rfl) ⟨(Below.refl 0 _).drew.os, (Below.refl 0 _).drew.tape, (Below.refl 0 _).drew.output, (Below.refl 0 _).drew.size, fun k hk _ => (Below.refl w2.heap.size _).drew.block k hk, ((Below.refl w2.heap.size _).drew.block _ (by omega)).trans (unhide HR2)⟩ ?_ ?_ ?_
    · intro full hfull i oo hi hns ho x fl us hC hb
      simp [putAll, slotOf, Act.put] at hfull
      subst hfull
      rw [← hC.cell (p := ⟨w1.heap.size, _, none⟩) hlt2 hne1] at x0 x1 x2 x3
      have hC0 : CY w2 (w.heap.size + 1) (.slice a l.length cap) (.int .i64 room) (.map (some bm)) (.slice ya l.length yc) fl us x := hC
      match i with
      | 0 => simp at ho; subst ho; simp [gwp, Region.wanted, yielded]; go_simp; first | done | exact hC0 | exact ⟨rfl, hC0⟩ | (simp; exact hC0)
      | 1 => simp at ho; subst ho; simp [gwp, Region.wanted, yielded]; go_simp; first | done | exact hC0 | exact ⟨rfl, hC0⟩ | (simp; exact hC0)
      | 2 => simp at ho; subst ho; simp [gwp, Region.wanted, yielded]; go_simp; first | done | exact hC0 | exact ⟨rfl, hC0⟩ | (simp; exact hC0)
      | 3 => simp at ho; subst ho; simp [gwp, Region.wanted, yielded]; go_simp; first | done | exact hC0 | exact ⟨rfl, hC0⟩ | (simp; exact hC0)
      | 4 => simp at ho; subst ho; simp [gwp, Region.wanted, yielded]; go_simp; first | done | exact hC0 | exact ⟨rfl, hC0⟩ | (simp; exact hC0)
      | 5 => simp at ho; subst ho; simp [gwp, Region.wanted, yielded]; go_simp; first | done | exact hC0 | exact ⟨rfl, hC0⟩ | (simp; exact hC0)
      | 6 =>
        simp at ho; subst ho; simp [gwp, Region.wanted, yielded]; go_simp
        refine (unhide HHC x hC.grown).mono ?_
        rintro e w' ⟨rfl, hb2⟩
        go_simp
        first | done | exact hC.on hb2 | exact ⟨rfl, hC.on hb2⟩ | (simp; exact hC.on hb2)
      | 7 => simp at ho; subst ho; simp [gwp, Region.wanted, yielded]; go_simp; first | done | exact hC0 | exact ⟨rfl, hC0⟩ | (simp; exact hC0)
      | 8 =>
        simp at ho; subst ho; simp [gwp, Region.wanted, yielded]
        have hbf := hb rfl
        subst hbf
        obtain ⟨r0, r1, r2, r3, f0, f1, f2, f3⟩ := cells4 hC.res
        go_simp
        have hC9 := hC.store
        unfold set4 at hC9
        first | done | exact hC9 | exact ⟨rfl, hC9⟩ | (simp; exact hC9)
      | 9 => simp at ho; subst ho; simp [gwp, Region.wanted, yielded]; go_simp; first | done | exact hC0 | exact ⟨rfl, hC0⟩ | (simp; exact hC0)
      | i + 10 => omega
    · intro full hfull us j hj
      simp at hj
    · intro full hfull us wz hus hC
      simp [putAll, slotOf, Act.put] at hfull
      subst hfull
      match us, hus with
      | [], _ =>
      obtain ⟨e0, e1, e2, e3, _, _, _, _⟩ := cells4 hC.res
      first | (simp at e0 e1 e2 e3) | skip
      have HG := hide hC.grown
      clear hC x0 x1 x2 x3
      simp [putP, slotOf, Act.put]
      go_wp2_with fail
      refine bodyPost_ret (v := .tuple #[.agg #[.slice a l.length cap, .int .i64 room, .map (some bm), .slice ya l.length yc], .int .u64 ((bs : Nat) : Int), .bool hb]) (by simp [results, Tryz.results40, go_sem, e0, e1, e2, e3]) rfl ?_
      have hbW := below_var (unhide HB2) (by omega) (unhide HG)
      exact ⟨⟨_, _, _, _, _, _, _, _, ((bs : Nat) : Int), by rw [unhide HOKZ], fun _ => ⟨by rw [unhide HBS], a, cap, bm, _, rfl, (unhide HPW).on hbW, (unhide HAS2).var (unhide HFR) (unhide HG) (by simp)⟩⟩, hbW⟩
end Go.Proofs.YthkhaemlcmkkjaxGreat
