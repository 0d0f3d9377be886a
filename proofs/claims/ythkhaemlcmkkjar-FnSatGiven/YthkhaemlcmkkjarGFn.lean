/- What of a clause is open: the program's open. A clause is taken up: the program's add, addAll. Clauses and literals are taken up, one by one: the program's addAll, learnAll. -/
import Derived.Test.YthkhaemlcmkkjarGFm
import Derived.Test.YthkhaemlcmkkjarGCn
namespace Go.Proofs.Ythkhaemlcmkkjar
set_option linter.unusedVariables false
set_option linter.unusedSimpArgs false
open Go.RowKit Go.Deep Go.Sort

/-- What open answers. -/
def OpenP (w : World) (K : Nat → Int) (c : List Int) (e : Ending) (w' : World) : Prop :=
  Below w.heap.size w w' ∧ (((∃ x, x ∈ c ∧ valK K x = 1) ∧ e = .returned (.tuple #[.slice none 0 0, .bool true])) ∨
    ((∀ x, x ∈ c → valK K x ≠ 1) ∧ ∃ v, e = .returned (.tuple #[v, .bool false]) ∧ w'.ownsRow w.heap.size 3 1 v (openL K c).length (iV (openL K c))))
/-- Which literals were seen, in memory. -/
structure SeenAt (w : World) (g : Nat) (d : List Int) : Prop where
  cell : ∀ q : Nat, q < 801 → w.cell? ⟨g, q, none⟩ = some (.bool (decide (((q : Int) - 400) ∈ d)))
  fz : ∀ i, w.frozen? ⟨g, i, none⟩ = false
theorem SeenAt.kept {w w' : World} {g : Nat} {d : List Int} (h : SeenAt w g d) (hb : w'.heap[g]? = w.heap[g]?) : SeenAt w' g d :=
  ⟨fun q hq => (World.cell?_of_block (w := w) (a := ⟨g, q, none⟩) hb).trans (h.cell q hq), fun i => (World.frozen?_of_block (w := w) (a := ⟨g, i, none⟩) hb).trans (h.fz i)⟩
theorem SeenAt.add {w : World} {g : Nat} {d : List Int} (h : SeenAt w g d) {x : Int} {n : Nat} (hn : n < 801) (hx : x = (n : Int) - 400) : SeenAt (w.setCell ⟨g, n, none⟩ (.bool true)) g (d ++ [x]) := by
  refine ⟨fun q hq => ?_, fun i => ?_⟩
  · by_cases e : q = n
    · subst e
      rw [setF_same (h.cell q hq)]
      simp [hx]
    · rw [setF_other e, h.cell q hq]
      have : ((q : Int) - 400 ∈ d ++ [x]) ↔ ((q : Int) - 400 ∈ d) := by
        rw [List.mem_append, List.mem_singleton]
        constructor
        · rintro (h | h)
          · exact h
          · omega
        · exact fun h => .inl h
      simp only [this]
  · rw [setF_frozen]; exact h.fz i
theorem seen_start (w : World) : SeenAt (w.alloc (.cells Try.zeroCells151 151)) w.heap.size [] := by
  rw [seenZ]
  have hb := blk_alloc_new w (.cells (Array.replicate 801 (Value.bool false)) 151)
  refine ⟨fun q hq => ?_, fun i => by unfold World.frozen?; rw [hb]; simp⟩
  rw [cell_of_row _ _ _ _ _ _ hb]
  simp [hq]
theorem openL_len (K : Nat → Int) (c : List Int) : (openL K c).length ≤ c.length := by
  have key : ∀ (c a : List Int), (c.foldl (fun a x => if valK K x = 0 ∧ x ∉ a then a ++ [x] else a) a).length ≤ a.length + c.length := fun c => by
    induction c with
    | nil => intro a; simp
    | cons x c ih =>
      intro a
      rw [List.foldl_cons]
      have := ih (if valK K x = 0 ∧ x ∉ a then a ++ [x] else a)
      have h2 : (if valK K x = 0 ∧ x ∉ a then a ++ [x] else a).length ≤ a.length + 1 := by split <;> simp
      simp only [List.length_cons]
      omega
  have := key c []
  simpa [openL] using this

theorem own_mono {w : World} {B B' : Nat} {e : TypeId} {sz n : Nat} {v : Value} {xs : List Value} (h : w.ownsRow B e sz v n xs) (hb : B' ≤ B) : w.ownsRow B' e sz v n xs := by
  refine ⟨h.1, h.2.imp id ?_⟩
  rintro ⟨g, cap, cur, hv, hB, r⟩
  exact ⟨g, cap, cur, hv, Nat.le_trans hb hB, r⟩
theorem make_eq0 {P : Program} (t e : TypeId) (z : Value) (size bytes : Nat) (ht : P.underlying t = some (.slice e)) (hinfo : (P.info? e).map (fun i => (i.zero, i.size, i.bytes)) = some (some z, size, bytes))
    (n : Nat) (hbytes : bytes * n ≤ 281474976710656) (h63 : n ≤ 9223372036854775807) (w : World) :
    (Instr.makeSlice t (.int .i64 0) (.int .i64 (n : Int))).run P w = .ok (.slice (some ⟨w.heap.size, 0, none⟩) 0 n) (w.alloc (.cells (madeCells z.cells (n * size)) e)) := by
  obtain ⟨i, hi, hzz⟩ := Option.map_eq_some_iff.1 hinfo
  simp only [Prod.mk.injEq] at hzz
  obtain ⟨hz, hs, hb⟩ := hzz
  have hb' : (i.bytes : Int) * (n : Int) ≤ 281474976710656 := by
    have h : ((i.bytes * n : Nat) : Int) ≤ 281474976710656 := by rw [hb]; omega
    rwa [Int.natCast_mul] at h
  have hr := run_make (P := P) w t e i z ht hi hz .i64 .i64 0 n (by omega) (by omega) hb' (by omega)
  simp only [Int.toNat_natCast, hs] at hr
  exact hr

set_option maxRecDepth 100000 in
set_option maxHeartbeats 8000000 in
theorem open_any (F : Nat) (K : Nat → Int) (ht : TriK K) (a : Option Addr) (c : List Int) (cap : Nat) (hc4 : c.length ≤ 400) (hr : ∀ x, x ∈ c → x ≠ 0 ∧ -400 ≤ x ∧ x ≤ 400) (w : World) (hk : KnownAt w F K) (hF : F < w.heap.size) (h : SetAt w a c) :
    Calls Try.prog 73 #[.pointer (some ⟨F, 0, none⟩), .slice a c.length cap] w fun e w' => OpenP w K c e w' := by
  obtain ⟨i0, hi, hz0, hz1, hz2⟩ := info_parts Try.infoI
  have hmk := make_eq0 (P := Try.prog) 26 3 _ 1 8 Try.underlying26 Try.infoI c.length (by omega) (by omega)
  have hs0 := seen_start w
  have hvt := fun x => valK_tri ht x
  have HV := hide (fun (x : Int) (h1 : -400 ≤ x) (h2 : x ≤ 400) W hW => value_any F K ht x h1 h2 W hW)
  have HR := hide hr
  have HTK := hide (fun k (hk : k < c.length) => openL_take K c hk)
  have HOL := hide (fun k => openL_len K (c.take k))
  have HKN := hide hk
  have HTR := hide (fun x => valK_tri ht x)
  clear hr hk ht hvt
  obtain ⟨hm, h⟩ := h
  go_enter Try.func73, Try.ntmps73
  go_upto_region 2 with fail
  obtain ⟨w1, hw1⟩ : ∃ w1, w1 = w.alloc (.cells Try.zeroCells151 151) := ⟨_, rfl⟩
  rw [← hw1] at hs0 ⊢
  have b1 : Below w.heap.size w w1 := by rw [hw1]; exact (Below.refl _ _).alloc (Nat.le_refl _) _
  have z1 : w1.heap.size = w.heap.size + 1 := by rw [hw1]; simp
  clear hw1
  go_upto_region 3 with fail
  obtain ⟨w2, hw2⟩ : ∃ w2, w2 = w1.alloc (.cells (madeCells #[Value.int .i64 0] c.length) 3) := ⟨_, rfl⟩
  have HS1 : Hid (SeenAt w2 w.heap.size (openL K (c.take 0))) := by
    show SeenAt _ _ _
    rw [hw2, List.take_zero]
    exact hs0.kept (((Below.refl w1.heap.size w1).alloc (Nat.le_refl _) _).block _ (by omega))
  have HO1 : Hid (w2.ownsRow (w.heap.size + 1) 3 1 (.slice (some ⟨w.heap.size + 1, 0, none⟩) 0 c.length) (openL K (c.take 0)).length (iV (openL K (c.take 0)))) := by
    show World.ownsRow _ _ _ _ _ _ _
    rw [hw2, List.take_zero, ← z1]
    exact World.ownsRow_made (base := w1.heap.size) (e := 3) (size := 1) w1 (madeCells #[Value.int .i64 0] c.length) c.length (by omega) (by unfold maxLen; omega) (by rw [size_madeCells]; omega)
  have HB1 : Hid (Below w.heap.size w w2) := by
    show Below _ _ _
    rw [hw2]
    exact b1.alloc (by omega) _
  clear hmk hs0 b1
  go_wp2_with fail
  rw [← hw2]
  clear hw2
  go_loopw [7, 15] (fun lv kv wr => ∃ k : Nat, k ≤ c.length ∧ kv = .int .i64 k ∧ Hid (∀ x, x ∈ c.take k → valK K x ≠ 1) ∧ Hid (SeenAt wr w.heap.size (openL K (c.take k))) ∧ Hid (wr.ownsRow (w.heap.size + 1) 3 1 lv (openL K (c.take k)).length (iV (openL K (c.take k)))) ∧ Hid (Below w.heap.size w wr)) (fun _ k _ => c.length - (intOf k).toNat)
  case atStart => exact ⟨0, Nat.zero_le _, rfl, fun x hx => by simp at hx, HS1, HO1, HB1⟩
  case round =>
    rename World => wo
    obtain ⟨k, hk, rfl, HN, HS, HO, HB⟩ := hrel
    by_cases hlt : k < c.length
    · have j1 : (k : Int) < (c.length : Int) := by omega
      have j0 : (0 : Int) ≤ (k : Int) := by omega
      rcases h with h | ⟨b, o, rfl, hSb, h⟩
      · subst h; simp at hlt
      have c0 := h k hlt
      rw [← (unhide HB).cell (p := ⟨b, _, none⟩) hSb] at c0
      have htk := unhide HTK k hlt
      have hmem := getD_mem (d := 0) hlt
      obtain ⟨y, hy⟩ : ∃ y, y = c.getD k 0 := ⟨_, rfl⟩
      rw [← hy] at c0 htk hmem
      have htake : ∀ x, x ∈ c.take (k + 1) → x ∈ c.take k ∨ x = y := fun x hx => by
        rw [List.take_succ_eq_append_getElem hlt, List.mem_append, List.mem_singleton] at hx
        rw [hy]
        simpa [List.getD, hlt] using hx
      have hry := unhide HR y hmem
      have hkn : KnownAt wo F K := fun v hv => ((unhide HB).cell (p := ⟨F, v, none⟩) hF).trans (unhide HKN v hv)
      have HVC := hide (unhide HV y hry.2.1 hry.2.2 wo hkn)
      have tri := unhide HTR y
      obtain ⟨z, hz⟩ : ∃ z, z = valK K y := ⟨_, rfl⟩
      rw [← hz] at HVC tri htk
      have HZ := hide hz
      have HMEM := hide hmem
      have HTAKE := hide htake
      clear h hy hkn hz hmem htake
      by_cases h1 : z = 1
      · subst h1
        clear htk tri
        go_wp2_with fail
        refine (unhide HVC).mono ?_
        rintro e w3 ⟨rfl, hww⟩
        have hww := hww.symm
        subst hww
        clear HVC
        go_wp2_with fail
        exact bodyPost_ret (v := .tuple #[.slice none 0 0, .bool true]) (by simp [results, Try.results73, go_sem]) rfl ⟨unhide HB, .inl ⟨⟨y, unhide HMEM, (unhide HZ).symm⟩, rfl⟩⟩
      · have hgt : (decide (0 < z)) = false := by
          rw [decide_eq_false_iff_not]
          rcases tri with e | e | e <;> omega
        have HN2 : Hid (∀ x, x ∈ c.take (k + 1) → valK K x ≠ 1) := fun x hx => by
          rcases unhide HTAKE x hx with h | h
          · exact unhide HN x h
          · rw [h, ← unhide HZ]; exact h1
        by_cases h0 : z = 0
        · subst h0
          obtain ⟨q, hq⟩ : ∃ q : Nat, q = (y + 400).toNat := ⟨_, rfl⟩
          have hyq : y + 400 = (q : Int) := by omega
          have q1 : (q : Int) < 801 := by omega
          have q0 : (0 : Int) ≤ (q : Int) := by omega
          have HP := hide (fun W => litPlace_any y hry.2.1 hry.2.2 W)
          rw [hyq] at HP
          have s0 := (unhide HS).cell q (by omega)
          have f0 := (unhide HS).fz q
          rw [show (q : Int) - 400 = y by omega] at s0
          clear hq
          have hltw : w.heap.size < wo.heap.size := World.block_lt_of_cell? _ _ s0
          by_cases hin : y ∈ openL K (c.take k)
          · rw [if_neg (fun hh => hh.2 hin)] at htk
            rw [decide_eq_true hin] at s0
            have HTK2 := hide htk
            clear htk tri hin
            go_wp2_with fail
            refine (unhide HVC).mono ?_
            rintro e w3 ⟨rfl, hww⟩
            have hww := hww.symm
            subst hww
            go_wp2_with fail
            refine (unhide HVC).mono ?_
            rintro e w3 ⟨rfl, hww⟩
            have hww := hww.symm
            subst hww
            clear HVC
            go_wp2_with fail
            refine (unhide HP _).mono ?_
            rintro e w3 ⟨rfl, hww⟩
            have hww := hww.symm
            subst hww
            go_wp2_with fail
            go_roundw
            case rel => exact ⟨k + 1, by omega, by go_num, HN2, by rw [unhide HTK2]; exact HS, by rw [unhide HTK2]; exact HO, HB⟩
            case measure => simp [intOf]; omega
          · rw [if_pos ⟨rfl, hin⟩] at htk
            rw [decide_eq_false hin] at s0
            have HTK2 := hide htk
            have hol := unhide HOL k
            have hol2 : (c.take k).length ≤ 400 := by simp; omega
            have hS2 := hide ((unhide HS).add (x := y) (n := q) (by omega) (by omega))
            have hHO := unhide HO
            obtain ⟨la, lc, hlv⟩ := own_shape hHO
            subst hlv
            obtain ⟨d, hd⟩ : ∃ d, d = openL K (c.take k) := ⟨_, rfl⟩
            rw [← hd] at hS2 HTK2 hHO hol HS HO ⊢
            have hown1 : (wo.setCell ⟨w.heap.size, q, none⟩ (.bool true)).ownsRow (w.heap.size + 1) 3 1 (.slice la d.length lc) d.length (iV d) := hHO.kept (grownF_set wo w.heap.size q (.bool true)) (by
              cases hv : (Value.slice la d.length lc).ownBlock with
              | none => exact .inl rfl
              | some g =>
                right
                intro e
                have := (World.ownsRow.lt hHO g hv).1
                simp at e
                omega)
            have hb1 : Below w.heap.size w (wo.setCell ⟨w.heap.size, q, none⟩ (.bool true)) := (unhide HB).setCell (Nat.le_refl _) _
            obtain ⟨w4, hw4⟩ : ∃ w4, w4 = wo.setCell ⟨w.heap.size, q, none⟩ (.bool true) := ⟨_, rfl⟩
            have hz4 : wo.heap.size ≤ w4.heap.size := by rw [hw4, nblk_setCell]; exact Nat.le_refl _
            have HW4 := hide hw4
            rw [← hw4] at hS2 hown1 hb1
            have HB4 := hide hb1
            clear htk tri hin hd hw4 hHO HO HS HB
            go_wp2_with fail
            refine (unhide HVC).mono ?_
            rintro e w3 ⟨rfl, hww⟩
            have hww := hww.symm
            subst hww
            go_wp2_with fail
            refine (unhide HVC).mono ?_
            rintro e w3 ⟨rfl, hww⟩
            have hww := hww.symm
            subst hww
            clear HVC
            go_wp2_with fail
            refine (unhide HP _).mono ?_
            rintro e w3 ⟨rfl, hww⟩
            have hww := hww.symm
            subst hww
            go_wp2_with fail
            refine (unhide HP _).mono ?_
            rintro e w3 ⟨rfl, hww⟩
            have hww := hww.symm
            subst hww
            clear HP
            go_upto_region 10 with fail
            rw [← unhide HW4]
            go_wp2_with (first
              | (at_builtin; refine wpList_append_two rfl _ _ 26 rfl (w.heap.size + 1) 3 i0 (.int .i64 0) 1 8 Try.underlying26 hi hz0 hz1 hz2 rfl (by decide) _ _ _ rfl (hown1.alloc _) ⟨w4.heap.size, 0, none⟩ 1 [.int .i64 y] rfl rfl ?c1 ?c2 ?c3 ?c4 ?c5 ?_))
            case c1 =>
              intro j u hj
              match j, hj with
              | 0, hj => simp at hj; subst hj; simp [Addr.add]
            case c2 => intro u hu; simp at hu; subst hu; rfl
            case c3 => unfold maxLen; omega
            case c4 => omega
            case c5 => simp; omega
            intro v' w5 hown' hgrow hfr
            have hb5 := ((unhide HB4).alloc (by omega) (.cells #[.int .i64 y] 3)).grown hgrow (by simp; omega) (fun j hj => by have := (World.ownsRow.lt hown1 j hj).1; omega)
            have HS5 := hide ((unhide hS2).kept (w' := w5) (by
              rw [hgrow.block w.heap.size (by simp; omega) (fun e => by have := (World.ownsRow.lt hown1 w.heap.size e.symm).1; omega)]
              exact ((Below.refl w4.heap.size w4).alloc (Nat.le_refl _) _).block _ (by omega)))
            have HO5 : Hid (w5.ownsRow (w.heap.size + 1) 3 1 v' (d ++ [y]).length (iV (d ++ [y]))) := by
              show World.ownsRow _ _ _ _ _ _ _
              rw [iV_snoc]
              simpa using hown'
            have HB5 := hide hb5
            clear hown1 hown' hgrow hfr hb5 hS2 HB4
            go_wp2_with fail
            go_roundw
            case rel => exact ⟨k + 1, by omega, by go_num, HN2, by rw [unhide HTK2]; exact HS5, by rw [unhide HTK2]; exact HO5, HB5⟩
            case measure => simp [intOf]; omega
        · have heq : (z == 0) = false := by rw [beq_eq_false_iff_ne]; exact h0
          rw [if_neg (fun hh => h0 hh.1)] at htk
          have HTK2 := hide htk
          clear htk tri
          go_wp2_with fail
          refine (unhide HVC).mono ?_
          rintro e w3 ⟨rfl, hww⟩
          have hww := hww.symm
          subst hww
          go_wp2_with fail
          refine (unhide HVC).mono ?_
          rintro e w3 ⟨rfl, hww⟩
          have hww := hww.symm
          subst hww
          clear HVC
          go_wp2_with fail
          go_roundw
          case rel => exact ⟨k + 1, by omega, by go_num, HN2, by rw [unhide HTK2]; exact HS, by rw [unhide HTK2]; exact HO, HB⟩
          case measure => simp [intOf]; omega
    · have j1 : ¬ (k : Int) < (c.length : Int) := by omega
      have hke : c.take k = c := List.take_of_length_le (by omega)
      rw [hke] at HN HO
      have HO2 := hide (own_mono (unhide HO) (show w.heap.size ≤ w.heap.size + 1 by omega))
      clear HO
      obtain ⟨la, lc, hlv⟩ := own_shape (unhide HO2)
      subst hlv
      go_wp2_with fail
      exact bodyPost_ret (v := .tuple #[.slice la (openL K c).length lc, .bool false]) (by simp [results, Try.results73, go_sem]) rfl ⟨unhide HB, .inr ⟨unhide HN, _, rfl, unhide HO2⟩⟩
end Go.Proofs.Ythkhaemlcmkkjar

namespace Go.Proofs.Ythkhaemlcmkkjar
set_option linter.unusedVariables false
set_option linter.unusedSimpArgs false
open Go.RowKit Go.Deep Go.Sort

/-- All that was there is there, and no value is drawn. -/
structure CQ (w : World) (us : List Value) (x : World) : Prop where
  nil : us = []
  below : Below w.heap.size w x
theorem wl_len {cl : List (List Int)} {wt : Int → List Nat} (h : ∀ l, WatL cl l (wt l)) (l : Int) : (wt l).length ≤ cl.length :=
  nodup_len cl.length (wt l) (h l).1 fun i hi => by
    obtain ⟨d, hd, _⟩ := ((h l).2 i).1 hi
    exact (List.getElem?_eq_some_iff.1 hd).1
/-- What add leaves. -/
def AddP (vars : Nat) (C : List (List Int)) (L : List Int) (w : World) (B F : Nat) (rl : Rl) (S : FSt) (c : List Int) (e : Ending) (w' : World) : Prop :=
  ∃ rl' S' V', FAt w' B F rl' none S' V' ∧ Kp B w rl w' rl' ∧ ((e = .returned (.bool false) ∧ Conf (C ++ [c]) L) ∨
    (e = .returned (.bool true) ∧ InvU vars (C ++ [c]) L [] S'.tr.length S' ∧ WatK S'.cl (S'.tr.take S'.ask) S'.tr ∧ (∀ x, x ∈ S.tr → x ∈ S'.tr)))
theorem Try.infoIs : (Try.prog.info? 26).map (fun i => (i.zero, i.size, i.bytes)) = some (some (.slice none 0 0), 1, 24) := by kernel_rfl
theorem row_int {w : World} {B : Nat} {g cap : Nat} {d : List Int} (h : w.ownsRow B 3 1 (.slice (some ⟨g, 0, none⟩) d.length cap) d.length (iV d)) {j : Nat} (hj : j < d.length) : w.cell? ⟨g, j, none⟩ = some (.int .i64 (d.getD j 0)) := by
  rw [h.cellAt j (by omega)]
  simp [iV, List.getD, hj]
theorem clause_row {w : World} {B F : Nat} {rl : Rl} {x : Option Role} {S : FSt} {V : FV} (h : FAt w B F rl x S V) {i : Nat} (hx : x ≠ some (.clause i)) {d : List Int} (hd : S.cl[i]? = some d) {v : Value} (hv : V.dv i = v) : RowR w B rl (.clause i) 3 v (iV d) := by
  have := h.rows (.clause i) (iV d) hx (by simp only [rowX]; rw [hd]; rfl)
  rw [show rowV V (.clause i) = V.dv i from rfl, hv] at this
  exact this

set_option maxRecDepth 100000 in
set_option maxHeartbeats 16000000 in
theorem add_any (vars : Nat) (hv4 : vars ≤ 400) (C : List (List Int)) (L : List Int) (hC : NzC C) (hCl : C.length ≤ 12100) (w : World) (B F : Nat) (rl : Rl) (S : FSt) (V : FV) (h : FAt w B F rl none S V) (hI : InvU vars C L [] S.tr.length S) (hw : WatK S.cl (S.tr.take S.ask) S.tr)
    (a : Option Addr) (c : List Int) (cap : Nat) (hc4 : c.length ≤ 400) (hr : ∀ x, x ∈ c → x ≠ 0 ∧ -(vars : Int) ≤ x ∧ x ≤ vars) (hS : SetAt w a c) :
    Calls Try.prog 50 #[.pointer (some ⟨F, 0, none⟩), .slice a c.length cap] w fun e w' => AddP vars C L w B F rl S c e w' := by
  have HO := hide (open_any F S.K hI.trail.tri a c cap hc4 (fun x hx => ⟨(hr x hx).1, by have := hr x hx; omega, by have := hr x hx; omega⟩) w h.cells.kn h.lt hS)
  have HF := hide h
  have HI := hide hI
  have HW := hide hw
  have HR := hide hr
  have HC := hide hC
  have hbase := h.base
  have hfew := hI.few
  obtain ⟨i0, hi, hz0, hz1, hz2⟩ := info_parts Try.infoIs
  clear h hI hw hr hC hS
  go_enter Try.func50, Try.ntmps50
  go_wp2_with fail
  refine (unhide HO).mono ?_
  rintro e w1 ⟨b1, hor⟩
  have HF1 := hide ((unhide HF).on b1)
  have HK1 := hide (kp_on (rl := rl) b1 hbase)
  have z1 := b1.size
  clear HO
  rcases hor with ⟨⟨x, hx, hxv⟩, rfl⟩ | ⟨hn, v, rfl, hown⟩
  · have HE := hide ((unhide HI).addSo hx (((unhide HI).trail.mem x (unhide HR x hx).1).1 hxv))
    clear hx hxv b1
    go_wp2_with fail
    go_ret
    exact ⟨rl, S, V, unhide HF1, unhide HK1, .inr ⟨rfl, unhide HE, unhide HW, fun _ h => h⟩⟩
  · have HN := hide hn
    obtain ⟨va, vc, hvv⟩ := own_shape hown
    subst hvv
    have HOW := hide hown
    have hnz : NzL c := fun x hx => (unhide HR x hx).1
    by_cases h0 : (openL S.K c).length = 0
    · have hz : (((openL S.K c).length : Int) == 0) = true := by rw [beq_iff_eq]; omega
      have hzz : ((openL S.K c).length : Int) = 0 := by omega
      have HE := hide ((unhide HI).addNone (unhide HC) hnz (unhide HN) (List.length_eq_zero_iff.1 h0))
      clear h0 hown hn hnz b1
      go_wp2_with fail
      go_ret
      exact ⟨rl, S, V, unhide HF1, unhide HK1, .inl ⟨rfl, unhide HE⟩⟩
    · have hz : (((openL S.K c).length : Int) == 0) = false := by rw [beq_eq_false_iff_ne]; omega
      by_cases h1 : (openL S.K c).length = 1
      · obtain ⟨x, hx⟩ := List.length_eq_one_iff.1 h1
        have hy : (((openL S.K c).length : Int) == 1) = true := by rw [beq_iff_eq]; omega
        have hyy : ((openL S.K c).length : Int) = 1 := by omega
        have hxm := openL_mem.1 (show x ∈ openL S.K c by rw [hx]; simp)
        have hxr := unhide HR x hxm.1
        have HE := hide ((unhide HI).addUnit (unhide HC) (unhide HR) (unhide HN) hx)
        obtain ⟨g, cap2, hv2, hg2, c0⟩ : ∃ g cap2, Value.slice va (openL S.K c).length vc = .slice (some ⟨g, 0, none⟩) (openL S.K c).length cap2 ∧ w.heap.size ≤ g ∧ w1.cell? ⟨g, 0, none⟩ = some (.int .i64 x) := by
          rcases hown.2 with ⟨hv, h0'⟩ | ⟨g, cap2, cur, hv, hB, hb⟩
          · omega
          · have h2 := hown
            rw [hv] at h2
            have h3 := row_int h2 (j := 0) (by omega)
            rw [hx] at h3
            exact ⟨g, cap2, hv, hB, h3⟩
        simp only [Value.slice.injEq, true_and] at hv2
        obtain ⟨rfl, rfl⟩ := hv2
        have HLRN := hide (learn_any vars hv4 w1 B F rl none S V (unhide HF1) (by intro e; cases e) (unhide HI).trail x hxr.1 hxr.2.1 hxr.2.2)
        have HX0 := hide hxm.2
        clear h0 hown hn hnz b1 h1 hx hxm hxr HOW
        go_wp2_with fail
        refine (unhide HLRN).mono ?_
        rintro e w2 (⟨hne, _⟩ | ⟨_, rfl, rl', tv', hF2, hK2, _⟩)
        · exact absurd (unhide HX0) hne
        · have HF2 := hide hF2
          have HK2 := hide ((unhide HK1).trans hK2)
          have HW2 : Hid (WatK S.cl ((S.tr ++ [x]).take S.ask) (S.tr ++ [x])) := by
            show WatK _ _ _
            rw [take_push (unhide HI).ask x]
            exact (unhide HW).mono (fun _ h => h) (fun y hy => List.mem_append_left _ hy)
          clear hF2 hK2 HLRN
          go_wp2_with fail
          go_ret
          exact ⟨rl', _, _, unhide HF2, unhide HK2, .inr ⟨rfl, unhide HE, unhide HW2, fun y hy => List.mem_append_left _ hy⟩⟩
      · have hy : (((openL S.K c).length : Int) == 1) = false := by rw [beq_eq_false_iff_ne]; omega
        have h2 : 2 ≤ (openL S.K c).length := by omega
        have HST := hide ((unhide HI).addStore (unhide HR) (unhide HN) h2)
        have HWS := hide (wa_store (unhide HI) hnz h2 (fun _ => List.mem_of_mem_take) (unhide HW))
        have hdl := openL_len S.K c
        have hdr : ∀ x, x ∈ openL S.K c → -400 ≤ x ∧ x ≤ 400 := fun x hx => by have := unhide HR x (openL_mem.1 hx).1; omega
        have hpm := pair_mem (unhide HST).stored (d := openL S.K c) (by simp)
        obtain ⟨d, hd⟩ : ∃ d, d = openL S.K c := ⟨_, rfl⟩
        rw [← hd] at HST HWS hdl hdr hpm h2 hown HOW h0 h1 hz hy ⊢
        have hl0 := hdr _ hpm.1
        have hl1 := hdr _ hpm.2.1
        obtain ⟨g, hg0, hg2, hg3⟩ : ∃ g, va = some ⟨g, 0, none⟩ ∧ w.heap.size ≤ g ∧ g < w1.heap.size := by
          rcases hown.2 with ⟨hv, h0'⟩ | ⟨g, cap2, cur, hv, hB, hb, _⟩
          · omega
          · simp only [Value.slice.injEq, true_and] at hv
            exact ⟨g, hv.1, hB, (Array.getElem?_eq_some_iff.1 hb).1⟩
        subst hg0
        have hgn : rl g = none := by
          cases e : rl g with
          | none => rfl
          | some r => have := ((unhide HF).low g r e).2; omega
        have HFg := hide ((unhide HF1).give hgn (by omega) hg3 (.clause S.cl.length))
        have HKg := hide ((unhide HK1).give hg2 (.clause S.cl.length))
        have hdrow : RowR w1 B (giveR rl g (.clause S.cl.length)) (.clause S.cl.length) 3 (.slice (some ⟨g, 0, none⟩) d.length vc) (iV d) := by
          refine ⟨?_, fun g' e => ?_⟩
          · rw [iV_len]; exact own_mono hown hbase
          · simp only [Value.ownBlock, Option.some.injEq] at e
            unfold giveR
            rw [if_pos e.symm]
        have hor := (unhide HFg).rows .outer _ (by simp) rfl
        obtain ⟨oa, oc, hcv⟩ := rlen_row hor
        have hcv' : V.cv = .slice oa S.cl.length oc := by
          have := hcv
          rw [List.length_map, List.length_range] at this
          exact this
        have howo : w1.ownsRow B 26 1 (.slice oa S.cl.length oc) S.cl.length ((List.range S.cl.length).map V.dv) := by
          have := hor.1
          rw [List.length_map, List.length_range] at this
          rw [← hcv']
          exact this
        have htc := (unhide HFg).cells.cc
        rw [hcv'] at htc
        have HCV := hide hcv'
        have HDROW := hide hdrow
        clear hown HOW hn hnz h0 h1 hd hor hcv hcv' hdrow hgn hdr b1 hg2 HF1 HK1
        go_wp2_with (first
          | (at_builtin; refine wpList_append_two rfl _ _ 39 rfl B 26 i0 (.slice none 0 0) 1 24 Try.underlying39 hi hz0 hz1 hz2 rfl (by decide) _ _ _ rfl (howo.alloc _) ⟨w1.heap.size, 0, none⟩ 1 [.slice (some ⟨g, 0, none⟩) d.length vc] rfl rfl ?c1 ?c2 ?c3 ?c4 ?c5 ?_))
        case c1 =>
          intro j u hj
          match j, hj with
          | 0, hj => simp at hj; subst hj; simp [Addr.add]
        case c2 => intro u hu; simp at hu; subst hu; rfl
        case c3 => unfold maxLen; omega
        case c4 => omega
        case c5 => simp; omega
        intro v' w3 hown' hgrow hfr
        obtain ⟨ca, cc, hvv⟩ := own_shape hown'
        subst hvv
        rw [← unhide HCV] at hgrow hfr
        have h2a := (unhide HFg).step (grownF_alloc w1 (.cells #[.slice (some ⟨g, 0, none⟩) d.length vc] 26)) (fun g e => by cases e)
        have hne : V.cv.ownBlock ≠ some F := fun e => by
          have := (h2a.rows .outer _ (by simp) rfl).2 F e
          rw [h2a.self] at this
          cases this
        have c3 := h2a.cells.kept h2a.lt hgrow hne
        have t3 := c3.cc
        have f3 := c3.fz 403
        have hdrow2 := (unhide HDROW).kept (grownF_alloc w1 (.cells #[.slice (some ⟨g, 0, none⟩) d.length vc] 26)) (fun g e => by cases e) (fun _ h => h)
        obtain ⟨h4, k4⟩ := h2a.claused (by simp) hdrow2 hgrow (by first | exact hown' | simpa using hown') (by simpa using hfr)
        have HK4 := hide (((unhide HKg).trans (kp_on ((Below.refl _ w1).alloc (Nat.le_refl _) (.cells #[.slice (some ⟨g, 0, none⟩) d.length vc] 26)) (by omega))).trans k4)
        obtain ⟨rl4, hrl4⟩ : ∃ rl4, rl4 = roleOn (giveR rl g (.clause S.cl.length)) (w1.alloc (.cells #[.slice (some ⟨g, 0, none⟩) d.length vc] 26)).heap.size .outer (.slice ca (S.cl.length + 1) cc) := ⟨_, rfl⟩
        rw [← hrl4] at h4 HK4
        clear hrl4 c3 h2a hgrow hfr hown' k4 hdrow2 HDROW HFg HKg howo htc hne
        obtain ⟨w4, hw4⟩ : ∃ w4, w4 = w3.setCell ⟨F, 403, none⟩ (.slice ca (S.cl.length + 1) cc) := ⟨_, rfl⟩
        go_upto_region 9 with fail
        rw [← hw4]
        rw [← hw4] at h4 HK4
        have hd4 : (S.cl ++ [d])[S.cl.length]? = some d := by simp
        have hcr := clause_row h4 (i := S.cl.length) (by simp) hd4 (by exact if_pos rfl)
        have hrow4 : w4.ownsRow B 3 1 (.slice (some ⟨g, 0, none⟩) d.length vc) d.length (iV d) := by
          have := hcr.1
          rw [iV_len] at this
          exact this
        have r0 := row_int hrow4 (j := 0) (by omega)
        have hg4 : g < w4.heap.size := (World.ownsRow.lt hrow4 g rfl).2
        have hcc4 := h4.cells.cc
        have hF4 := h4.lt
        have HF4 := hide h4
        have HROW4 := hide hrow4
        have hsub : IntKind.i64.wrap (((S.cl.length + 1 : Nat) : Int) - 1) = (S.cl.length : Int) := by rw [IntKind.wrap_i64]; omega
        have hsub2 : IntKind.i64.wrap (S.cl.length : Int) = (S.cl.length : Int) := by rw [IntKind.wrap_i64]; omega
        have hp0 : (0 : Int) < (d.length : Int) := by omega
        have hp1 : (1 : Int) < (d.length : Int) := by omega
        have hp0n : 0 < d.length := by omega
        have hp1n : 1 < d.length := by omega
        have hwl0 : (S.wt (d.getD 0 0)).length ≤ 20000 := by
          have := wl_len (unhide HI).wl (d.getD 0 0)
          omega
        have hwl1 : (S.wt (d.getD 1 0)).length ≤ 20000 := by
          have := wl_len (unhide HI).wl (d.getD 1 0)
          omega
        clear hw4 h4 hcr hrow4 t3 f3
        have hl01 : d.getD 0 0 ≠ d.getD 1 0 := hpm.2.2
        obtain ⟨l0, hl0e⟩ : ∃ l0, l0 = d.getD 0 0 := ⟨_, rfl⟩
        obtain ⟨l1, hl1e⟩ : ∃ l1, l1 = d.getD 1 0 := ⟨_, rfl⟩
        rw [← hl0e] at r0 hl0 hwl0 hl01
        rw [← hl1e] at hl1 hwl1 hl01
        have HE0 := hide hl0e
        have HE1 := hide hl1e
        clear hl0e hl1e hpm
        go_upto_region 9 with fail
        refine wp_region_mixN (k := 100) 10 [] [.pointer (some ⟨F, 0, none⟩), .slice (some ⟨g, 0, none⟩) d.length vc, .pointer (some ⟨g, 0, none⟩), .int .i64 l0, .pointer (some ⟨F, 0, none⟩), .pointer (some ⟨F, 0, none⟩), .pointer (some ⟨F, 403, none⟩), .slice ca (S.cl.length + 1) cc, .int .i64 ((S.cl.length + 1 : Nat) : Int), .int .i64 (S.cl.length : Int)] (fun _ us x => CQ w4 us x) (by kernel_rfl) (by kernel_rfl) (by kernel_rfl) (by kernel_rfl) (by kernel_rfl) (by kernel_rfl) ⟨rfl, (Below.refl _ _).drew⟩ ?_ ?_ ?_
        · intro full hfull i oo hi hns ho y fl us hC hb
          simp [putAll, slotOf, Act.put] at hfull
          subst hfull
          have hC0 := hC
          have hby := hC.below
          have q0 := (hby.cell (p := ⟨g, 0, none⟩) hg4).trans r0
          have q1 := (hby.cell (p := ⟨F, 403, none⟩) hF4).trans hcc4
          match i with
          | 0 => simp at ho; subst ho; simp [gwp, Region.wanted, yielded]; go_simp; first | done | exact hC0 | exact ⟨rfl, hC0⟩ | simpa using hC0
          | 1 => simp at ho; subst ho; simp [gwp, Region.wanted, yielded]; go_simp; first | done | exact hC0 | exact ⟨rfl, hC0⟩ | simpa using hC0
          | 2 => simp at ho; subst ho; simp [gwp, Region.wanted, yielded]; go_simp; first | done | exact hC0 | exact ⟨rfl, hC0⟩ | simpa using hC0
          | 3 => simp at ho; subst ho; simp [gwp, Region.wanted, yielded]; go_simp; first | done | exact hC0 | exact ⟨rfl, hC0⟩ | simpa using hC0
          | 4 => simp at ho; subst ho; simp [gwp, Region.wanted, yielded]; go_simp; first | done | exact hC0 | exact ⟨rfl, hC0⟩ | simpa using hC0
          | 5 => simp at ho; subst ho; simp [gwp, Region.wanted, yielded]; go_simp; first | done | exact hC0 | exact ⟨rfl, hC0⟩ | simpa using hC0
          | 6 => simp at ho; subst ho; simp [gwp, Region.wanted, yielded]; go_simp; first | done | exact hC0 | exact ⟨rfl, hC0⟩ | simpa using hC0
          | 7 => simp at ho; subst ho; simp [gwp, Region.wanted, yielded]; go_simp; first | done | exact hC0 | exact ⟨rfl, hC0⟩ | simpa using hC0
          | 8 => simp at ho; subst ho; simp [gwp, Region.wanted, yielded]; go_simp; first | done | exact hC0 | exact ⟨rfl, hC0⟩ | simpa using hC0
          | 9 => simp at ho; subst ho; simp [gwp, Region.wanted, yielded]; go_simp; first | done | exact hC0 | exact ⟨rfl, hC0⟩ | simpa using hC0
          | i + 10 => omega
        · intro full hfull us j hj
          simp at hj
        · intro full hfull us y hus hC
          simp [putAll, slotOf, Act.put] at hfull
          subst hfull
          obtain ⟨hus0, hby⟩ := hC
          subst hus0
          have HF5 := hide ((unhide HF4).on hby)
          have HK5 := hide ((unhide HK4).trans (kp_on hby (unhide HF4).base))
          have HWA := hide (watch_any y B F rl4 none _ _ (unhide HF5) l0 hl0.1 hl0.2 (by simp) S.cl.length hwl0)
          clear hby HF4 HK4 HROW4 hg4 hF4 hcc4 r0
          simp [putP, slotOf, Act.put]
          go_wp2_with fail
          refine (unhide HWA).mono ?_
          rintro e w6 ⟨rfl, rl6, wv6, hF6, hK6, _⟩
          have HK6 := hide ((unhide HK5).trans hK6)
          have hcr := clause_row hF6 (i := S.cl.length) (by simp) hd4 (by exact if_pos rfl)
          have hrow6 : w6.ownsRow B 3 1 (.slice (some ⟨g, 0, none⟩) d.length vc) d.length (iV d) := by
            have := hcr.1
            rw [iV_len] at this
            exact this
          have r1 := row_int hrow6 (j := 1) (by omega)
          rw [← unhide HE1] at r1
          have hg6 : g < w6.heap.size := (World.ownsRow.lt hrow6 g rfl).2
          have hcc6 := hF6.cells.cc
          have hFF6 := hF6.lt
          have HF6 := hide hF6
          clear hF6 hK6 hcr hrow6 HWA HF5 HK5
          go_upto_region 10 with fail
          refine wp_region_mixN (k := 100) 10 [] [.pointer (some ⟨F, 0, none⟩), .slice (some ⟨g, 0, none⟩) d.length vc, .pointer (some ⟨g, 1, none⟩), .int .i64 l1, .pointer (some ⟨F, 0, none⟩), .pointer (some ⟨F, 0, none⟩), .pointer (some ⟨F, 403, none⟩), .slice ca (S.cl.length + 1) cc, .int .i64 ((S.cl.length + 1 : Nat) : Int), .int .i64 (S.cl.length : Int)] (fun _ us x => CQ w6 us x) (by kernel_rfl) (by kernel_rfl) (by kernel_rfl) (by kernel_rfl) (by kernel_rfl) (by kernel_rfl) ⟨rfl, (Below.refl _ _).drew⟩ ?_ ?_ ?_
          · intro full hfull i oo hi hns ho y fl us hC hb
            simp [putAll, slotOf, Act.put] at hfull
            subst hfull
            have hC0 := hC
            have hby := hC.below
            have q0 := (hby.cell (p := ⟨g, 1, none⟩) hg6).trans r1
            have q1 := (hby.cell (p := ⟨F, 403, none⟩) hFF6).trans hcc6
            match i with
            | 0 => simp at ho; subst ho; simp [gwp, Region.wanted, yielded]; go_simp; first | done | exact hC0 | exact ⟨rfl, hC0⟩ | simpa using hC0
            | 1 => simp at ho; subst ho; simp [gwp, Region.wanted, yielded]; go_simp; first | done | exact hC0 | exact ⟨rfl, hC0⟩ | simpa using hC0
            | 2 => simp at ho; subst ho; simp [gwp, Region.wanted, yielded]; go_simp; first | done | exact hC0 | exact ⟨rfl, hC0⟩ | simpa using hC0
            | 3 => simp at ho; subst ho; simp [gwp, Region.wanted, yielded]; go_simp; first | done | exact hC0 | exact ⟨rfl, hC0⟩ | simpa using hC0
            | 4 => simp at ho; subst ho; simp [gwp, Region.wanted, yielded]; go_simp; first | done | exact hC0 | exact ⟨rfl, hC0⟩ | simpa using hC0
            | 5 => simp at ho; subst ho; simp [gwp, Region.wanted, yielded]; go_simp; first | done | exact hC0 | exact ⟨rfl, hC0⟩ | simpa using hC0
            | 6 => simp at ho; subst ho; simp [gwp, Region.wanted, yielded]; go_simp; first | done | exact hC0 | exact ⟨rfl, hC0⟩ | simpa using hC0
            | 7 => simp at ho; subst ho; simp [gwp, Region.wanted, yielded]; go_simp; first | done | exact hC0 | exact ⟨rfl, hC0⟩ | simpa using hC0
            | 8 => simp at ho; subst ho; simp [gwp, Region.wanted, yielded]; go_simp; first | done | exact hC0 | exact ⟨rfl, hC0⟩ | simpa using hC0
            | 9 => simp at ho; subst ho; simp [gwp, Region.wanted, yielded]; go_simp; first | done | exact hC0 | exact ⟨rfl, hC0⟩ | simpa using hC0
            | i + 10 => omega
          · intro full hfull us j hj
            simp at hj
          · intro full hfull us y hus hC
            simp [putAll, slotOf, Act.put] at hfull
            subst hfull
            obtain ⟨hus0, hby⟩ := hC
            subst hus0
            have HF7 := hide ((unhide HF6).on hby)
            have HK7 := hide ((unhide HK6).trans (kp_on hby (unhide HF6).base))
            have HWA := hide (watch_any y B F rl6 none _ _ (unhide HF7) l1 hl1.1 hl1.2 (by simp) S.cl.length (by
              show (if l1 = l0 then S.wt l0 ++ [S.cl.length] else S.wt l1).length ≤ 20000
              rw [if_neg (fun e => hl01 e.symm)]
              exact hwl1))
            clear hby HF6 HK6 hg6 hFF6 hcc6 r1
            simp [putP, slotOf, Act.put]
            go_wp2_with fail
            refine (unhide HWA).mono ?_
            rintro e w8 ⟨rfl, rl8, wv8, hF8, hK8, _⟩
            have HK8 := hide ((unhide HK7).trans hK8)
            have hwt : (fun m => if m = l1 then (if l1 = l0 then S.wt l0 ++ [S.cl.length] else S.wt l1) ++ [S.cl.length] else if m = l0 then S.wt l0 ++ [S.cl.length] else S.wt m) = moreW S.wt d S.cl.length := by
              funext m
              unfold moreW
              have a1 : (if l1 = l0 then S.wt l0 ++ [S.cl.length] else S.wt l1) = S.wt l1 := if_neg (fun e => hl01 e.symm)
              rw [← unhide HE0, ← unhide HE1, a1]
              by_cases e1 : m = l1
              · rw [if_pos e1, if_pos (Or.inr e1.symm), e1]
              · rw [if_neg e1]
                by_cases e0 : m = l0
                · rw [if_pos e0, if_pos (Or.inl e0.symm), e0]
                · rw [if_neg e0, if_neg (fun h => by rcases h with h | h; exact e0 h.symm; exact e1 h.symm)]
            have hF8' := hF8
            simp only at hF8'
            rw [hwt] at hF8'
            have HF8 := hide hF8'
            clear hF8 hF8' hK8 HWA HF7 HK7
            go_wp2_with fail
            go_ret
            exact ⟨rl8, _, _, unhide HF8, unhide HK8, .inr ⟨rfl, unhide HST, unhide HWS, fun _ h => h⟩⟩
end Go.Proofs.Ythkhaemlcmkkjar

namespace Go.Proofs.Ythkhaemlcmkkjar
set_option linter.unusedVariables false
set_option linter.unusedSimpArgs false
open Go.RowKit Go.Deep Go.Sort

/-- What addAll leaves. -/
def AddAllP (vars : Nat) (cs : List (List Int)) (L : List Int) (w : World) (B F : Nat) (rl : Rl) (e : Ending) (w' : World) : Prop :=
  ∃ rl' S' V', FAt w' B F rl' none S' V' ∧ Kp B w rl w' rl' ∧ ((e = .returned (.bool false) ∧ Conf cs L) ∨
    (e = .returned (.bool true) ∧ InvU vars cs L [] S'.tr.length S' ∧ WatK S'.cl (S'.tr.take S'.ask) S'.tr))
theorem take_more (cs : List (List Int)) {k : Nat} (h : k < cs.length) : cs.take (k + 1) = cs.take k ++ [cs.getD k []] := by
  rw [List.take_succ_eq_append_getElem h]
  simp [List.getD, h]
def StAll (vars : Nat) (C : List (List Int)) (L : List Int) (w : World) (B F : Nat) (rl : Rl) (w' : World) : Prop :=
  ∃ rl' S' V', FAt w' B F rl' none S' V' ∧ Kp B w rl w' rl' ∧ InvU vars C L [] S'.tr.length S' ∧ WatK S'.cl (S'.tr.take S'.ask) S'.tr

set_option maxRecDepth 100000 in
set_option maxHeartbeats 8000000 in
theorem addAll_any (vars : Nat) (hv4 : vars ≤ 400) (cs : List (List Int)) (L : List Int) (hC : cnfB vars cs = true) (w0 w : World) (F : Nat) (rl : Rl) (S : FSt) (V : FV) (h : FAt w w0.heap.size F rl none S V) (hb : Below w0.heap.size w0 w) (hI : InvU vars [] L [] S.tr.length S) (hw : WatK S.cl (S.tr.take S.ask) S.tr)
    (a : Option Addr) (cap : Nat) (hA : ClsAt w0 a cs) :
    Calls Try.prog 41 #[.pointer (some ⟨F, 0, none⟩), .slice a cs.length cap] w fun e w' => AddAllP vars cs L w w0.heap.size F rl e w' := by
  have hcl : cs.length ≤ 6000 := by
    simp only [cnfB, Bool.and_eq_true, decide_eq_true_eq] at hC
    exact hC.2.1
  have HNZ := hide (cnf_nz hC)
  have HLI := hide (cnf_lits hC)
  have HA := hide hA
  have HST : Hid (StAll vars (cs.take 0) L w w0.heap.size F rl w) := ⟨rl, S, V, h, Kp.refl _ _ _, by rw [List.take_zero]; exact hI, hw⟩
  have HB := hide hb
  clear h hI hw hA hC hb
  go_enter Try.func41, Try.ntmps41
  go_wp2_with fail
  go_loopw [9] (fun kv wr => ∃ k : Nat, k ≤ cs.length ∧ kv = .int .i64 k ∧ Hid (StAll vars (cs.take k) L w w0.heap.size F rl wr)) (fun k _ => cs.length - (intOf k).toNat)
  case atStart => exact ⟨0, Nat.zero_le _, rfl, HST⟩
  case round =>
    rename World => wo
    obtain ⟨k, hk, rfl, HS⟩ := hrel
    obtain ⟨rl1, S1, Vq1, hF1, hK1, hI1, hW1⟩ := unhide HS
    by_cases hlt : k < cs.length
    · have j1 : (k : Int) < (cs.length : Int) := by omega
      have j0 : (0 : Int) ≤ (k : Int) := by omega
      rcases (unhide HA).2 with hA | ⟨b, o, rfl, hSb, hA⟩
      · subst hA; simp at hlt
      obtain ⟨a', c', c0, hq⟩ := hA k hlt
      have hbo := (unhide HB).trans hK1.below
      rw [← hbo.cell (p := ⟨b, _, none⟩) hSb] at c0
      have htk := take_more cs hlt
      have hmem := getD_mem (d := ([] : List Int)) hlt
      generalize cs.getD k [] = c at c0 hq htk hmem
      have hli := unhide HLI c hmem
      have hc4 : c.length ≤ 400 := by
        simp only [litsB, Bool.and_eq_true, decide_eq_true_eq] at hli
        exact hli.1
      have HADD := hide (add_any vars hv4 (cs.take k) L (fun d hd => unhide HNZ d (List.mem_of_mem_take hd)) (by simp; omega) wo w0.heap.size F rl1 S1 Vq1 hF1 hI1 hW1 a' c c' hc4 (lits_in hli) (hq.on hbo))
      have HK1 := hide hK1
      have HTK := hide htk
      have HMM := hide (fun d (hd : d ∈ cs.take (k + 1)) => List.mem_of_mem_take hd)
      clear hF1 hK1 hI1 hW1 hA hq hbo htk hmem hli HS
      go_wp2_with fail
      refine (unhide HADD).mono ?_
      rintro e w2 ⟨rl2, S2, Vq2, hF2, hK2, hor⟩
      have hk2 := (unhide HK1).trans hK2
      rw [← unhide HTK] at hor
      rcases hor with ⟨rfl, hcf⟩ | ⟨rfl, hI2, hW2, _⟩
      · have HP : Hid (AddAllP vars cs L w w0.heap.size F rl (.returned (.bool false)) w2) := ⟨rl2, S2, Vq2, hF2, hk2, .inl ⟨rfl, hcf.mono (unhide HMM) (fun _ h => h)⟩⟩
        clear hF2 hK2 hk2 hcf HADD
        go_wp2_with fail
        go_ret
        exact unhide HP
      · have HS2 : Hid (StAll vars (cs.take (k + 1)) L w w0.heap.size F rl w2) := ⟨rl2, S2, Vq2, hF2, hk2, hI2, hW2⟩
        clear hF2 hK2 hk2 hI2 hW2 HADD
        go_wp2_with fail
        go_roundw
        case rel => exact ⟨k + 1, by omega, by go_num, HS2⟩
        case measure => simp [intOf]; omega
    · have j1 : ¬ (k : Int) < (cs.length : Int) := by omega
      rw [List.take_of_length_le (by omega)] at hI1
      have HP : Hid (AddAllP vars cs L w w0.heap.size F rl (.returned (.bool true)) wo) := ⟨rl1, S1, Vq1, hF1, hK1, .inr ⟨rfl, hI1, hW1⟩⟩
      clear hF1 hK1 hI1 hW1 HS
      go_wp2_with fail
      go_ret
      exact unhide HP
end Go.Proofs.Ythkhaemlcmkkjar
