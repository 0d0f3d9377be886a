/- Clauses of few variables by bits: the program's contracts, up to a clause. -/
import Derived.Test.YthkhaemlcmkkjaqCoP
import Derived.Test.YthkhaemlcmkkjaqGCn
import Derived.Test.YthkhaemlcmkkjaqGReg
import Derived.Test.YthkhaemlcmkkjaqGStA
import Derived.Test.YthkhaemlcmkkjaqGStO
import Derived.Test.YthkhaemlcmkkjaqGImpl
import Derived.Test.YthkhaemlcmkkjaqGStL
import Derived.Deep.Cut
import Derived.Deep.QuietTactic
import Derived.BigQuiet
namespace Go.Proofs.Ythkhaemlcmkkjaq
set_option linter.unusedVariables false
set_option linter.unusedSimpArgs false
open Go.RowKit Go.Deep

theorem pow_u16 {k : Nat} (hk : k ≤ 10) : 2 ^ k ≤ 1024 ∧ IntKind.u16.wrap (2 ^ k) = ((2 ^ k : Nat) : Int) := by
  have h1 : 2 ^ k ≤ 2 ^ 10 := Nat.pow_le_pow_right (by omega) hk
  refine ⟨h1, ?_⟩
  rw [show ((2 : Int) ^ k) = ((2 ^ k : Nat) : Int) by simp]
  exact wr_u16 _ (by omega)

set_option maxHeartbeats 400000 in
theorem bitOf_any (x : Int) (k : Nat) (hk : k ≤ 9) (hx : x = (k : Int) + 1) (w : World) :
    Calls Try.prog 55 #[.int .i64 x] w fun e w' => e = .returned (.int .u16 ((2 ^ k : Nat) : Int)) ∧ w' = w := by
  obtain ⟨hp, hw⟩ := pow_u16 (k := k) (by omega)
  have hs : IntKind.i64.wrap (x - 1) = (k : Int) := by rw [IntKind.wrap_i64]; omega
  have h0 : (0 : Int) ≤ (k : Int) := by omega
  clear hx
  generalize 2 ^ k = t at hp hw
  go_enter Try.func55, Try.ntmps55
  go_wp2_with fail
  go_ret
  exact ⟨rfl, rfl⟩

set_option maxHeartbeats 1000000 in
theorem fulfils_any (m s t : Nat) (hm : m < 65536) (hs : s < 65536) (ht : t < 65536) (w : World) :
    Calls Try.prog 45 #[.int .u16 (m : Int), .agg #[.int .u16 (s : Int), .int .u16 (t : Int)]] w fun e w' => e = .returned (.bool (decide (m &&& s ≠ 0) || decide (t &&& (65535 - m) ≠ 0))) ∧ Below w.heap.size w w' := by
  have h1 := bits_and16 m s hm hs
  have h2 := bits_not16 t m ht hm
  generalize m &&& s = p at h1
  generalize t &&& (65535 - m) = q at h2
  by_cases hp : p = 0
  · subst hp
    by_cases hq : q = 0
    · subst hq
      go_enter Try.func45, Try.ntmps45
      go_wp2_with fail
      go_ret
      exact ⟨rfl, (Below.refl _ _).alloc (Nat.le_refl _) _⟩
    · have hq2 : ((q : Int) != 0) = true := by rw [bne_iff_ne]; omega
      go_enter Try.func45, Try.ntmps45
      go_wp2_with fail
      go_ret
      exact ⟨ret_bool (by simp [hq]), (Below.refl _ _).alloc (Nat.le_refl _) _⟩
  · have hp2 : ((p : Int) != 0) = true := by rw [bne_iff_ne]; omega
    go_enter Try.func45, Try.ntmps45
    go_wp2_with fail
    go_ret
    exact ⟨ret_bool (by simp [hp]), (Below.refl _ _).alloc (Nat.le_refl _) _⟩

/-- Worlds behind W that leave all of it. -/
structure CGb (W : World) (b : Bool) (us : List Value) (x : World) : Prop where
  below : Below W.heap.size W x
theorem CGb.on {W x y : World} {b b' : Bool} {us us' : List Value} (h : CGb W b us x) (hb : Below x.heap.size x y) : CGb W b' us' y := ⟨h.below.trans (hb.mono h.below.size)⟩
def bcCells (s t : Nat) : Obj := .cells #[.int .u16 (s : Int), .int .u16 (t : Int)] 77
/-- A clause's bits so far. -/
structure BcS (w wr : World) (s t : Nat) : Prop where
  low : Below w.heap.size w wr
  res : wr.heap[w.heap.size]? = some (bcCells 0 0)
  cell : wr.heap[w.heap.size + 1]? = some (bcCells s t)
theorem BcS.set0 {w wr : World} {s t s' : Nat} (h : BcS w wr s t) : BcS w (wr.setCell ⟨w.heap.size + 1, 0, none⟩ (.int .u16 (s' : Int))) s' t :=
  ⟨Below.setCell h.low (by show w.heap.size ≤ w.heap.size + 1; omega) _, (blk_setCell_other _ _ _ _ (by show w.heap.size ≠ w.heap.size + 1; omega)).trans h.res, by rw [blk_set h.cell]; rfl⟩
theorem BcS.set1 {w wr : World} {s t t' : Nat} (h : BcS w wr s t) : BcS w (wr.setCell ⟨w.heap.size + 1, 1, none⟩ (.int .u16 (t' : Int))) s t' :=
  ⟨Below.setCell h.low (by show w.heap.size ≤ w.heap.size + 1; omega) _, (blk_setCell_other _ _ _ _ (by show w.heap.size ≠ w.heap.size + 1; omega)).trans h.res, by rw [blk_set h.cell]; rfl⟩
theorem BcS.on {w wr wz : World} {s t : Nat} (h : BcS w wr s t) (hb : Below wr.heap.size wr wz) : BcS w wz s t :=
  ⟨h.low.trans (hb.mono h.low.size), (hb.block _ (Array.getElem?_eq_some_iff.1 h.res).1).trans h.res, (hb.block _ (Array.getElem?_eq_some_iff.1 h.cell).1).trans h.cell⟩

set_option maxRecDepth 100000 in
set_option maxHeartbeats 4000000 in
theorem bitClauseOf_any (a : Option Addr) (l : List Int) (c : Nat) (w : World) (h : SetAt w a l) (hl : ∀ x, x ∈ l → x ≠ 0 ∧ -10 ≤ x ∧ x ≤ 10) :
    Calls Try.prog 43 #[.slice a l.length c] w fun e w' => e = .returned (.agg #[.int .u16 ((soN l : Nat) : Int), .int .u16 ((notN l : Nat) : Int)]) ∧ Below w.heap.size w w' := by
  obtain ⟨hm, h⟩ := h
  obtain ⟨w0, hw0⟩ : ∃ w0, w0 = (w.alloc (bcCells 0 0)).alloc (bcCells 0 0) := ⟨_, rfl⟩
  have s1 : (w.alloc (bcCells 0 0)).heap.size = w.heap.size + 1 := by simp
  have HB0 : Hid (BcS w w0 (soN (l.take 0)) (notN (l.take 0))) := by
    rw [hw0]
    refine ⟨((Below.refl _ _).alloc (Nat.le_refl _) _).alloc (by simp) _, ?_, ?_⟩
    · rw [blk_alloc_lt _ _ _ (by rw [s1]; omega)]
      exact blk_alloc_new _ _
    · rw [← s1]
      exact blk_alloc_new _ _
  have HLL := hide hl
  clear s1 hl
  unfold bcCells at hw0
  go_enter Try.func43, Try.ntmps43
  go_upto_region 2 with fail
  simp only [Int.natCast_zero] at hw0
  rw [← hw0]
  clear hw0
  go_wp2_with fail
  go_loopw [8] (fun i wr => ∃ k : Nat, k ≤ l.length ∧ i = .int .i64 k ∧ Hid (BcS w wr (soN (l.take k)) (notN (l.take k)))) (fun i _ => l.length - (intOf i).toNat)
  case atStart => exact ⟨0, Nat.zero_le _, rfl, HB0⟩
  case round =>
    rename World => wo
    obtain ⟨k, hk, rfl, HS⟩ := hrel
    clear HB0
    obtain ⟨y0, y1, yf⟩ := two (unhide HS).cell
    have yf0 := yf 0
    have yf1 := yf 1
    clear yf
    by_cases hlt : k < l.length
    · have j1 : (k : Int) < (l.length : Int) := by omega
      have j0 : (0 : Int) ≤ (k : Int) := by omega
      rcases h with h | ⟨b, o, rfl, hb, h⟩
      · subst h; simp at hlt
      have c0 := ((unhide HS).low.cell (p := ⟨b, o + k, none⟩) hb).trans (h k hlt)
      obtain ⟨z1, z2, z3⟩ := unhide HLL _ (getD_mem (d := (0 : Int)) hlt)
      have ht1 := soN_take hlt
      have ht2 := notN_take hlt
      have hb1 : soN (l.take k) < 1024 := soN_lt (fun x hx => (unhide HLL x (List.mem_of_mem_take hx)).2.2)
      have hb2 : notN (l.take k) < 1024 := notN_lt (fun x hx => (unhide HLL x (List.mem_of_mem_take hx)).2.1)
      have HT := hide (And.intro ht1 ht2)
      clear h ht1 ht2
      generalize soN (l.take k) = S at hb1 HS y0 HT
      generalize notN (l.take k) = T at hb2 HS y1 HT
      generalize l.getD k 0 = z at c0 z1 z2 z3 HT
      by_cases hz : 0 < z
      · obtain ⟨kk, hkk⟩ : ∃ kk : Nat, z = (kk : Int) + 1 := ⟨(z - 1).toNat, by omega⟩
        have hk9 : kk ≤ 9 := by omega
        have hp := (pow_u16 (k := kk) (by omega)).1
        have hor := bits_or16 S (2 ^ kk) (by omega) (by omega)
        have HBO := hide (fun x => bitOf_any z kk hk9 hkk x)
        have HT2 : Hid (soN (l.take (k + 1)) = S ||| 2 ^ kk ∧ notN (l.take (k + 1)) = T) := by
          obtain ⟨h1, h2⟩ := unhide HT
          rw [soStep, if_pos hz, show z.toNat - 1 = kk by omega] at h1
          rw [notStep, if_pos hz] at h2
          exact ⟨h1, h2⟩
        clear HT hkk
        generalize S ||| 2 ^ kk = O at hor HT2
        generalize 2 ^ kk = P at hor HBO hp
        have hcl := (Array.getElem?_eq_some_iff.1 (unhide HS).cell).1
        go_upto_region 6 with fail
        refine wp_region_mix (k := 100) 6 [] [.pointer (some ⟨w.heap.size + 1, 0, none⟩), .int .u16 (S : Int), .int .i64 z, .int .u16 (P : Int), .int .u16 (O : Int), .pointer (some ⟨w.heap.size + 1, 0, none⟩)] (CGb wo) (by kernel_rfl) (by kernel_rfl) (by kernel_rfl) (by kernel_rfl) (by kernel_rfl) (by kernel_rfl) ⟨(Below.refl _ _).drew⟩ ?_ ?_ ?_
        · intro full hfull i oo hi' hns ho x fl us hC hb'
          simp [putAll, slotOf, Act.put] at hfull
          subst hfull
          have bx := hC.below
          have p0 := (bx.cell (p := ⟨w.heap.size + 1, 0, none⟩) hcl).trans y0
          have hC0 := hC.on (b' := fl) (us' := us) (Below.refl _ _)
          match i with
          | 3 =>
            simp at ho; subst ho; simp [gwp, Region.wanted, yielded]; go_simp
            refine (unhide HBO x).mono ?_
            rintro e wy ⟨rfl, hwy⟩
            subst hwy
            go_simp
            first | done | exact hC0 | exact ⟨rfl, hC0⟩ | (simp; exact hC0)
          | 0 => simp at ho; subst ho; simp [gwp, Region.wanted, yielded]; go_simp; first | done | exact hC0 | exact ⟨rfl, hC0⟩ | (simp; exact hC0)
          | 1 => simp at ho; subst ho; simp [gwp, Region.wanted, yielded]; go_simp; first | done | exact hC0 | exact ⟨rfl, hC0⟩ | (simp; exact hC0)
          | 2 => simp at ho; subst ho; simp [gwp, Region.wanted, yielded]; go_simp; first | done | exact hC0 | exact ⟨rfl, hC0⟩ | (simp; exact hC0)
          | 4 => simp at ho; subst ho; simp [gwp, Region.wanted, yielded]; go_simp; first | done | exact hC0 | exact ⟨rfl, hC0⟩ | (simp; exact hC0)
          | 5 => simp at ho; subst ho; simp [gwp, Region.wanted, yielded]; go_simp; first | done | exact hC0 | exact ⟨rfl, hC0⟩ | (simp; exact hC0)
          | i + 6 => omega
        · intro full hfull us j hj
          simp at hj
        intro full hfull us x hus hC
        simp [putAll, slotOf, Act.put] at hfull
        subst hfull
        match us, hus with
        | [], _ =>
        have HX := hide ((unhide HS).on hC.below)
        clear hC HS y0 y1 yf0 yf1
        obtain ⟨y0, y1, yf⟩ := two (unhide HX).cell
        have yf0 := yf 0
        have HN : Hid (BcS w (x.setCell ⟨w.heap.size + 1, 0, none⟩ (.int .u16 (O : Int))) (soN (l.take (k + 1))) (notN (l.take (k + 1)))) := by
          rw [(unhide HT2).1, (unhide HT2).2]
          exact (unhide HX).set0
        clear yf
        simp [putP, slotOf, Act.put]
        go_wp2_with fail
        go_roundw
        case rel => exact ⟨k + 1, by omega, by go_num, HN⟩
        case measure => simp [intOf]; omega
      · obtain ⟨kk, hkk⟩ : ∃ kk : Nat, -z = (kk : Int) + 1 := ⟨(-z - 1).toNat, by omega⟩
        have hk9 : kk ≤ 9 := by omega
        have hp := (pow_u16 (k := kk) (by omega)).1
        have hor := bits_or16 T (2 ^ kk) (by omega) (by omega)
        have HBO := hide (fun x => bitOf_any (-z) kk hk9 hkk x)
        have hwn : IntKind.i64.wrap (-z) = -z := by rw [IntKind.wrap_i64]; omega
        have HT2 : Hid (soN (l.take (k + 1)) = S ∧ notN (l.take (k + 1)) = T ||| 2 ^ kk) := by
          obtain ⟨h1, h2⟩ := unhide HT
          rw [soStep, if_neg hz] at h1
          rw [notStep, if_neg hz, show (-z).toNat - 1 = kk by omega] at h2
          exact ⟨h1, h2⟩
        clear HT hkk
        generalize T ||| 2 ^ kk = O at hor HT2
        generalize 2 ^ kk = P at hor HBO hp
        have hcl := (Array.getElem?_eq_some_iff.1 (unhide HS).cell).1
        go_upto_region 7 with fail
        refine wp_region_mix (k := 100) 7 [] [.pointer (some ⟨w.heap.size + 1, 1, none⟩), .int .u16 (T : Int), .int .i64 z, .int .i64 (-z), .int .u16 (P : Int), .int .u16 (O : Int), .pointer (some ⟨w.heap.size + 1, 1, none⟩)] (CGb wo) (by kernel_rfl) (by kernel_rfl) (by kernel_rfl) (by kernel_rfl) (by kernel_rfl) (by kernel_rfl) ⟨(Below.refl _ _).drew⟩ ?_ ?_ ?_
        · intro full hfull i oo hi' hns ho x fl us hC hb'
          simp [putAll, slotOf, Act.put] at hfull
          subst hfull
          have bx := hC.below
          have p1 := (bx.cell (p := ⟨w.heap.size + 1, 1, none⟩) hcl).trans y1
          have hC0 := hC.on (b' := fl) (us' := us) (Below.refl _ _)
          match i with
          | 4 =>
            simp at ho; subst ho; simp [gwp, Region.wanted, yielded]; go_simp
            refine (unhide HBO x).mono ?_
            rintro e wy ⟨rfl, hwy⟩
            subst hwy
            go_simp
            first | done | exact hC0 | exact ⟨rfl, hC0⟩ | (simp; exact hC0)
          | 0 => simp at ho; subst ho; simp [gwp, Region.wanted, yielded]; go_simp; first | done | exact hC0 | exact ⟨rfl, hC0⟩ | (simp; exact hC0)
          | 1 => simp at ho; subst ho; simp [gwp, Region.wanted, yielded]; go_simp; first | done | exact hC0 | exact ⟨rfl, hC0⟩ | (simp; exact hC0)
          | 2 => simp at ho; subst ho; simp [gwp, Region.wanted, yielded]; go_simp; first | done | exact hC0 | exact ⟨rfl, hC0⟩ | (simp; exact hC0)
          | 3 => simp at ho; subst ho; simp [gwp, Region.wanted, yielded]; go_simp; first | done | exact hC0 | exact ⟨rfl, hC0⟩ | (simp; exact hC0)
          | 5 => simp at ho; subst ho; simp [gwp, Region.wanted, yielded]; go_simp; first | done | exact hC0 | exact ⟨rfl, hC0⟩ | (simp; exact hC0)
          | 6 => simp at ho; subst ho; simp [gwp, Region.wanted, yielded]; go_simp; first | done | exact hC0 | exact ⟨rfl, hC0⟩ | (simp; exact hC0)
          | i + 7 => omega
        · intro full hfull us j hj
          simp at hj
        intro full hfull us x hus hC
        simp [putAll, slotOf, Act.put] at hfull
        subst hfull
        match us, hus with
        | [], _ =>
        have HX := hide ((unhide HS).on hC.below)
        clear hC HS y0 y1 yf0 yf1
        obtain ⟨y0, y1, yf⟩ := two (unhide HX).cell
        have yf1 := yf 1
        have HN : Hid (BcS w (x.setCell ⟨w.heap.size + 1, 1, none⟩ (.int .u16 (O : Int))) (soN (l.take (k + 1))) (notN (l.take (k + 1)))) := by
          rw [(unhide HT2).1, (unhide HT2).2]
          exact (unhide HX).set1
        clear yf
        simp [putP, slotOf, Act.put]
        go_wp2_with fail
        go_roundw
        case rel => exact ⟨k + 1, by omega, by go_num, HN⟩
        case measure => simp [intOf]; omega
    · have j1 : ¬ (k : Int) < (l.length : Int) := by omega
      have hkl : l.take k = l := List.take_of_length_le (by omega)
      rw [hkl] at HS y0 y1
      obtain ⟨r0, r1, rf⟩ := two (unhide HS).res
      have rf0 := rf 0
      have rf1 := rf 1
      obtain ⟨S, hS⟩ : ∃ S, soN l = S := ⟨_, rfl⟩
      obtain ⟨T, hT⟩ : ∃ T, notN l = T := ⟨_, rfl⟩
      rw [hS, hT] at HS
      rw [hS] at y0
      rw [hT] at y1
      have HE := hide (And.intro hS hT)
      clear hS hT
      have e1 := blk_set (unhide HS).res 0 (.int .u16 (S : Int))
      have hy : ((wo.setCell ⟨w.heap.size, 0, none⟩ (.int .u16 (S : Int))).setCell ⟨w.heap.size, 1, none⟩ (.int .u16 (T : Int))).heap[w.heap.size]? = some (bcCells S T) := by rw [blk_set e1 1 _]; rfl
      obtain ⟨q0, q1, _⟩ := two hy
      have HF := hide (Below.setCell (Below.setCell (unhide HS).low (Nat.le_refl _) (.int .u16 (S : Int)) (p := ⟨w.heap.size, 0, none⟩)) (Nat.le_refl _) (.int .u16 (T : Int)) (p := ⟨w.heap.size, 1, none⟩))
      clear hkl rf e1 hy HS HLL
      go_wp2_with fail
      exact bodyPost_ret (v := .agg #[.int .u16 (S : Int), .int .u16 (T : Int)]) (by simp [results, Try.results43, go_sem, q0, q1]) rfl ⟨by rw [(unhide HE).1, (unhide HE).2], unhide HF⟩
end Go.Proofs.Ythkhaemlcmkkjaq
