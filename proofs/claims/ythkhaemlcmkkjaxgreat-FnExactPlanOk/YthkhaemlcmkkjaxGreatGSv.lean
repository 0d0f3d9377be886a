/- The program's test of all places, and of all sets of bits. The program's health of a state. The program's health of a state, all of it. -/
import Derived.Test.YthkhaemlcmkkjaxGreatGForm
import Derived.Test.YthkhaemlcmkkjaxGreatGImpl
import Derived.Test.YthkhaemlcmkkjaxGreatGReg
namespace Go.Proofs.YthkhaemlcmkkjaxGreat
set_option linter.unusedVariables false
set_option linter.unusedSimpArgs false
open Go.RowKit Go.Deep

/-- What a function value answers of the places ns, from the world w0 on. -/
def Asked (w0 : World) (fid : FuncId) (c1 c2 : Value) (f : Nat → Bool) (ns : List Nat) : Prop := ∀ W, Below w0.heap.size w0 W → ∀ p ∈ ns, Calls Tryz.prog fid #[.int .i64 (p : Int), c1, c2] W fun e w' => e = .returned (.bool (f p)) ∧ Below W.heap.size W w'

set_option maxHeartbeats 1000000 in
theorem litInt_any (w0 : World) (fid : FuncId) (c1 c2 : Value) (f : Nat → Bool) (hcf : ∀ (v : Value) (W : World), Sem.run Tryz.prog (callFunc fid #[v, c1, c2]) W = Result.ok (Next.enter fid #[v, c1, c2]) W) (ns : List Nat) (hA : Asked w0 fid c1 c2 f ns) (p g : Nat) (hp : p ∈ ns) (w : World) (hw : Below w0.heap.size w0 w)
    (hg : w.cell? ⟨g, 0, none⟩ = some (.func (.func fid) #[] #[c1, c2])) :
    Calls Tryz.prog 111 #[.int .i64 (p : Int), .pointer (some ⟨g, 0, none⟩)] w fun e w' => e = .returned (.bool (!f p)) ∧ Below w.heap.size w w' := by
  have H := hide (hA w hw p hp)
  clear hA
  go_enter Tryz.func111, Tryz.ntmps111
  go_wp2_with fail
  refine (unhide H).mono ?_
  rintro e w1 ⟨rfl, hb⟩
  go_wp2_with fail
  go_ret
  exact ⟨rfl, hb⟩

set_option maxHeartbeats 1000000 in
theorem searchInt_any (w0 : World) (fid : FuncId) (c1 c2 : Value) (f : Nat → Bool) (hcf : ∀ (v : Value) (W : World), Sem.run Tryz.prog (callFunc fid #[v, c1, c2]) W = Result.ok (Next.enter fid #[v, c1, c2]) W) (a : Option Addr) (l : List Nat) (cap g : Nat) (hl : l.length ≤ 1000) (hA : Asked w0 fid c1 c2 f l) (w : World) (hw0 : Below w0.heap.size w0 w) (h : PlAt w (.slice a l.length cap) l)
    (hg : w.cell? ⟨g, 0, none⟩ = some (.func (.func fid) #[] #[c1, c2])) :
    Calls Tryz.prog 110 #[.slice a l.length cap, .int .i64 0, .func (.func 111) #[] #[.pointer (some ⟨g, 0, none⟩)]] w
      fun e w' => (∃ k : Nat, e = .returned (.int .i64 k) ∧ k ≤ l.length ∧ ((k == l.length) = l.all f)) ∧ Below w.heap.size w w' := by
  obtain ⟨a', cap', hv, h⟩ := h
  simp at hv
  obtain ⟨rfl, rfl⟩ := hv
  have HA := hide hA
  have HW0 := hide hw0
  have HCF := hide hcf
  clear hA hw0 hcf
  go_enter Tryz.func110, Tryz.ntmps110
  go_wp2
  go_loopw [1] (fun i wr => ∃ k : Nat, k ≤ l.length ∧ i = .int .i64 k ∧ Hid ((l.take k).all f = true) ∧ Below w.heap.size w wr) (fun i _ => l.length - (intOf i).toNat)
  case atStart => exact ⟨0, Nat.zero_le _, rfl, rfl, Below.refl _ _⟩
  case round =>
    rename World => wo
    obtain ⟨k, hk, rfl, hl', hw⟩ := hrel
    by_cases hlt : k < l.length
    · rcases h with h | ⟨b, rfl, hSb, h⟩
      · subst h; simp at hlt
      · have c0 := h k hlt
        clear h
        have H := hide (@all_take_succ Nat l 0 f k hlt)
        have HN := hide (@all_not_take Nat l 0 f k hlt)
        have hmem : l.getD k 0 ∈ l := getD_mem hlt
        generalize l.getD k 0 = q at c0 H HN hmem
        rw [← hw.cell (p := ⟨b, _, none⟩) hSb] at c0
        have hg' := (hw.cell (p := ⟨g, 0, none⟩) (block_lt_of_cell hg)).trans hg
        have HW := hide hw
        clear hw
        go_wp2_with fail
        refine (litInt_any w0 fid c1 c2 f (unhide HCF) l (unhide HA) q g hmem _ ((unhide HW0).trans ((unhide HW).mono (unhide HW0).size)) hg').mono ?_
        rintro e w1 ⟨rfl, hb⟩
        have hbe := (unhide HW).trans (hb.mono (unhide HW).size)
        have HBE := hide hbe
        clear hb hbe
        cases hv : f q with
        | true =>
          go_wp2_with fail
          go_roundw
          case rel => exact ⟨k + 1, by omega, by go_num, by show _ = true; rw [unhide H, hl'.out, hv]; rfl, unhide HBE⟩
          case measure => simp [intOf]; omega
        | false =>
          have e1 := unhide HN hv
          have HE := hide e1
          clear e1
          go_wp2_with fail
          go_ret
          refine ⟨⟨k, rfl, by omega, ?_⟩, unhide HBE⟩
          rw [unhide HE, beq_eq_false_iff_ne]; omega
    · go_wp2_with fail
      go_ret
      refine ⟨⟨k, rfl, by omega, ?_⟩, hw⟩
      rw [all_of_take hlt hl'.out, beq_iff_eq]; omega

set_option maxHeartbeats 1000000 in
theorem allInt_any (fid : FuncId) (c1 c2 : Value) (f : Nat → Bool) (hcf : ∀ (v : Value) (W : World), Sem.run Tryz.prog (callFunc fid #[v, c1, c2]) W = Result.ok (Next.enter fid #[v, c1, c2]) W) (a : Option Addr) (l : List Nat) (cap : Nat) (hl : l.length ≤ 1000) (w : World) (hA : Asked w fid c1 c2 f l) (h : PlAt w (.slice a l.length cap) l) :
    Calls Tryz.prog 89 #[.slice a l.length cap, .func (.func fid) #[] #[c1, c2]] w fun e w' => e = .returned (.bool (l.all f)) ∧ Below w.heap.size w w' := by
  have H := hide (fun (o : Obj) g hg => searchInt_any w fid c1 c2 f hcf a l cap g hl hA (w.alloc o) ((Below.refl _ _).alloc (Nat.le_refl _) _) (h.on ((Below.refl _ _).alloc (Nat.le_refl _) _)) hg)
  clear h hA hcf
  go_enter Tryz.func89, Tryz.ntmps89
  go_wp2_with fail
  refine (unhide H _ _ ?_).mono ?_
  · simp
  · rintro e w1 ⟨⟨k, rfl, hk, he⟩, hb⟩
    have HE := hide he
    clear he
    go_wp2_with fail
    go_ret
    refine ⟨ret_bool ?_, ((Below.refl _ _).alloc (Nat.le_refl _) _).trans (hb.mono (by simp))⟩
    rw [← unhide HE, Bool.eq_iff_iff]; simp; omega

set_option maxHeartbeats 1000000 in
theorem litBits_any (s n g : Nat) (hs : s < 65536) (hn : n < 65536) (w : World) (hg : w.cell? ⟨g, 0, none⟩ = some (.func (.func 91) #[.int .u64 (s : Int)] #[])) :
    Calls Tryz.prog 136 #[.int .u64 (n : Int), .pointer (some ⟨g, 0, none⟩)] w fun e w' => e = .returned (.bool (!meetB s n)) ∧ w' = w := by
  go_enter Tryz.func136, Tryz.ntmps136
  go_wp2_with fail
  refine (meets_any s n hs hn _).mono ?_
  rintro e w1 ⟨rfl, rfl⟩
  go_wp2_with fail
  go_ret
  exact ⟨ret_bool (by simp [meetB]), rfl⟩

set_option maxHeartbeats 1000000 in
theorem searchBits_any (s : Nat) (hs : s < 65536) (ag : Nat) (a : Option Addr) (l : List Nat) (cap g : Nat) (hl : l.length ≤ 1000) (hn : ∀ n ∈ l, n < 65536) (w : World) (h : BitsAt w ag (.slice a l.length cap) l)
    (hg : w.cell? ⟨g, 0, none⟩ = some (.func (.func 91) #[.int .u64 (s : Int)] #[])) :
    Calls Tryz.prog 135 #[.slice a l.length cap, .int .i64 0, .func (.func 136) #[] #[.pointer (some ⟨g, 0, none⟩)]] w
      fun e w' => (∃ k : Nat, e = .returned (.int .i64 k) ∧ k ≤ l.length ∧ ((k == l.length) = l.all (meetB s))) ∧ w' = w := by
  obtain ⟨a', cap', hv, h⟩ := h
  simp at hv
  obtain ⟨rfl, rfl⟩ := hv
  go_enter Tryz.func135, Tryz.ntmps135
  go_wp2
  go_loopw [1] (fun i wr => ∃ k : Nat, k ≤ l.length ∧ i = .int .i64 k ∧ Hid ((l.take k).all (meetB s) = true) ∧ wr = w) (fun i _ => l.length - (intOf i).toNat)
  case atStart => exact ⟨0, Nat.zero_le _, rfl, rfl, rfl⟩
  case round =>
    rename World => wo
    obtain ⟨k, hk, rfl, hl', rfl⟩ := hrel
    by_cases hlt : k < l.length
    · rcases h with h | ⟨b, rfl, hSb, _, h⟩
      · subst h; simp at hlt
      · have c0 := h k hlt
        clear h
        have H := hide (@all_take_succ Nat l 0 (meetB s) k hlt)
        have HN := hide (@all_not_take Nat l 0 (meetB s) k hlt)
        have hmem := hn _ (getD_mem (d := 0) hlt)
        generalize l.getD k 0 = q at c0 H HN hmem
        go_wp2_with fail
        refine (litBits_any s q g hs hmem _ hg).mono ?_
        rintro e w1 ⟨rfl, rfl⟩
        cases hv : meetB s q with
        | true =>
          go_wp2_with fail
          go_roundw
          case rel => exact ⟨k + 1, by omega, by go_num, by show _ = true; rw [unhide H, hl'.out, hv]; rfl, by first | rfl | trivial⟩
          case measure => simp [intOf]; omega
        | false =>
          have e1 := unhide HN hv
          have HE := hide e1
          clear e1
          go_wp2_with fail
          go_ret
          refine ⟨⟨k, rfl, by omega, ?_⟩, rfl⟩
          rw [unhide HE, beq_eq_false_iff_ne]; omega
    · go_wp2_with fail
      go_ret
      refine ⟨⟨k, rfl, by omega, ?_⟩, rfl⟩
      rw [all_of_take hlt hl'.out, beq_iff_eq]; omega

set_option maxHeartbeats 1000000 in
theorem allBits_any (s : Nat) (hs : s < 65536) (ag : Nat) (a : Option Addr) (l : List Nat) (cap : Nat) (hl : l.length ≤ 1000) (hn : ∀ n ∈ l, n < 65536) (w : World) (h : BitsAt w ag (.slice a l.length cap) l) :
    Calls Tryz.prog 109 #[.slice a l.length cap, .func (.func 91) #[.int .u64 (s : Int)] #[]] w fun e w' => e = .returned (.bool (l.all (meetB s))) ∧ Below w.heap.size w w' := by
  have H := hide (fun (o : Obj) g hg => searchBits_any s hs ag a l cap g hl hn (w.alloc o) (h.on (World.grownBy_alloc _ _ _)) hg)
  clear h
  go_enter Tryz.func109, Tryz.ntmps109
  go_wp2_with fail
  refine (unhide H _ _ ?_).mono ?_
  · simp
  · rintro e w1 ⟨⟨k, rfl, hk, he⟩, rfl⟩
    have HE := hide he
    clear he
    go_wp2_with fail
    go_ret
    refine ⟨ret_bool ?_, (Below.refl _ _).alloc (Nat.le_refl _) _⟩
    rw [← unhide HE, Bool.eq_iff_iff]; simp; omega
end Go.Proofs.YthkhaemlcmkkjaxGreat

namespace Go.Proofs.YthkhaemlcmkkjaxGreat
set_option linter.unusedVariables false
set_option linter.unusedSimpArgs false
open Go.RowKit Go.Deep

set_option maxRecDepth 10000 in
set_option maxHeartbeats 2000000 in
theorem served_any (l : List PackD) (room : Int) (V : Value) (s p : Nat) (hs : s < 65536) (hp : p < l.length) (hok : OkL l) (w : World) (h : Stock w V l room) :
    Calls Tryz.prog 87 #[V, .int .u64 (s : Int), .int .i64 (p : Int)] w fun e w' => e = .returned (.bool (servedB l s p)) ∧ Below w.heap.size w w' := by
  obtain ⟨a, cap, bm, v, rfl, hP, hv, hA⟩ := h
  obtain ⟨ag, ac, C, rfl, hrow, hnum, hdone⟩ := hA (by omega)
  obtain ⟨c, hc0⟩ := hnum p hp
  obtain ⟨hc1, hc2, ⟨v3, hc3, hb3⟩, ⟨v4, hc4, hb4⟩⟩ := hdone p hp
  have hag := (Array.getElem?_eq_some_iff.1 hrow).1
  have d0 : w.cell? ⟨ag, p * 5, none⟩ = some (.int .i64 c) := by simp only [World.cell?, hrow]; exact hc0
  have d1 : w.cell? ⟨ag, p * 5 + 1, none⟩ = some (.int .u64 ((twN l p : Nat) : Int)) := by simp only [World.cell?, hrow]; exact hc1
  have d2 : w.cell? ⟨ag, p * 5 + 2, none⟩ = some (.int .u64 ((bnN l p : Nat) : Int)) := by simp only [World.cell?, hrow]; exact hc2
  have d3 : w.cell? ⟨ag, p * 5 + 3, none⟩ = some v3 := by simp only [World.cell?, hrow]; exact hc3
  have d4 : w.cell? ⟨ag, p * 5 + 4, none⟩ = some v4 := by simp only [World.cell?, hrow]; exact hc4
  have hb3' := hb3
  obtain ⟨a3, k3, rfl, _⟩ := hb3'
  obtain ⟨a4, k4, rfl, _⟩ := hb4
  have hdl : ((l.getD p dPack).deps.map (rowN l)).length ≤ 1000 := by have := (hok.reqs p hp).1; simp; simp at this; omega
  have hall : ∀ n ∈ (l.getD p dPack).deps.map (rowN l), n < 65536 := fun n hn => by
    obtain ⟨row, _, rfl⟩ := List.mem_map.1 hn
    exact rowN_lt hok.l8 row
  have htw := twN_lt hok.l8 p
  have hbn := bnN_lt hok.l8 p
  have hsv : servedB l s p = (!meetB s (twN l p) && !meetB s (bnN l p) && ((l.getD p dPack).deps.map (rowN l)).all (meetB s)) := rfl
  generalize ((l.getD p dPack).pres.map (preN l)).length = len4 at d4
  generalize hNS : (l.getD p dPack).deps.map (rowN l) = NS at hb3 hdl hall hsv d3
  generalize servedB l s p = R at hsv ⊢
  generalize twN l p = tw at htw d1 hsv
  generalize bnN l p = bn at hbn d2 hsv
  have HSV := hide hsv
  have HB3 := hide hb3
  have hpi : (p : Int) < (l.length : Int) := by omega
  have hm := hP.1
  have hl8 := hok.l8
  clear hsv hb3 hNS hrow hnum hdone hA hP hv hc0 hc1 hc2 hc3 hc4 hok
  have HCB := hide (fun (o1 o2 : Obj) => allBits_any s hs ag a3 NS k3 hdl hall ((w.alloc o1).alloc o2) ((unhide HB3).on ((World.grownBy_alloc _ _ _).trans (World.grownBy_alloc _ _ _))))
  cases h1 : meetB s tw with
  | true =>
    have HE := hide (show R = false from (unhide HSV).trans (by simp [h1]))
    clear HSV
    go_enter Tryz.func87, Tryz.ntmps87
    go_wp2_with (first
      | (go_at_call 91; refine (meets_any s tw hs htw _).mono ?_; rintro e w' ⟨rfl, hww⟩; obtain rfl := hww.symm; rw [show decide (s &&& tw ≠ 0) = true from h1]))
    go_ret
    exact ⟨ret_bool (unhide HE).symm, ((Below.refl _ _).alloc (Nat.le_refl _) _).alloc (by simp) _⟩
  | false =>
    cases h2 : meetB s bn with
    | true =>
      have HE := hide (show R = false from (unhide HSV).trans (by simp [h1, h2]))
      clear HSV
      go_enter Tryz.func87, Tryz.ntmps87
      go_wp2_with (first
        | (go_at_call 91; refine (meets_any s tw hs htw _).mono ?_; rintro e w' ⟨rfl, hww⟩; obtain rfl := hww.symm; rw [show decide (s &&& tw ≠ 0) = false from h1])
        | (go_at_call 91; refine (meets_any s bn hs hbn _).mono ?_; rintro e w' ⟨rfl, hww⟩; obtain rfl := hww.symm; rw [show decide (s &&& bn ≠ 0) = true from h2]))
      go_ret
      exact ⟨ret_bool (unhide HE).symm, ((Below.refl _ _).alloc (Nat.le_refl _) _).alloc (by simp) _⟩
    | false =>
      have HE := hide (show R = NS.all (meetB s) from (unhide HSV).trans (by simp [h1, h2]))
      clear HSV
      go_enter Tryz.func87, Tryz.ntmps87
      go_wp2_with (first
        | (go_at_call 91; refine (meets_any s tw hs htw _).mono ?_; rintro e w' ⟨rfl, hww⟩; obtain rfl := hww.symm; rw [show decide (s &&& tw ≠ 0) = false from h1])
        | (go_at_call 91; refine (meets_any s bn hs hbn _).mono ?_; rintro e w' ⟨rfl, hww⟩; obtain rfl := hww.symm; rw [show decide (s &&& bn ≠ 0) = false from h2])
        | (go_at_call 109; refine (unhide HCB _ _).mono ?_; rintro e w' ⟨rfl, hb9⟩; have HB9 := hide hb9; clear hb9))
      go_ret
      exact ⟨ret_bool (unhide HE).symm, (((Below.refl _ _).alloc (Nat.le_refl _) _).alloc (by simp) _).trans ((unhide HB9).mono (by simp; omega))⟩

set_option maxHeartbeats 1000000 in
theorem healthyLit_any (l : List PackD) (room : Int) (V : Value) (s : Nat) (hs : s < 65536) (hok : OkL l) (kb sb : Nat) (p : Nat) (hp : p < l.length) (a : Option Addr) (cap bm : Nat) (v : Value) (xa : Option Addr) (xc : Nat) (hv : v = .slice xa l.length xc) (hV : V = .agg #[.slice a l.length cap, .int .i64 room, .map (some bm), v]) (w : World) (h : Stock w V l room)
    (k0 : w.cell? ⟨kb, 0, none⟩ = some (.slice a l.length cap)) (k1 : w.cell? ⟨kb, 1, none⟩ = some (.int .i64 room)) (k2 : w.cell? ⟨kb, 2, none⟩ = some (.map (some bm))) (k3 : w.cell? ⟨kb, 3, none⟩ = some v) (hsb : w.cell? ⟨sb, 0, none⟩ = some (.int .u64 (s : Int))) :
    Calls Tryz.prog 86 #[.int .i64 (p : Int), .pointer (some ⟨kb, 0, none⟩), .pointer (some ⟨sb, 0, none⟩)] w fun e w' => e = .returned (.bool (servedB l s p)) ∧ Below w.heap.size w w' := by
  have H := hide (served_any l room V s p hs hp hok w h)
  subst hV
  subst hv
  clear h
  go_enter Tryz.func86, Tryz.ntmps86
  go_wp2_with fail
  refine (unhide H).mono ?_
  rintro e w1 ⟨rfl, hb⟩
  go_wp2_with fail
  go_ret
  exact ⟨rfl, hb⟩
end Go.Proofs.YthkhaemlcmkkjaxGreat

namespace Go.Proofs.YthkhaemlcmkkjaxGreat
set_option linter.unusedVariables false
set_option linter.unusedSimpArgs false
open Go.RowKit Go.Deep

/-- All along the statement that answers health. -/
structure C7 (W : World) (on : Bool) (ps : List Nat) (b : Bool) (us : List Value) (x : World) : Prop where
  below : Below W.heap.size W x
  list : ∀ y, us = [y] → on = true → PlAt x y ps
theorem C7.on {W : World} {on : Bool} {ps : List Nat} {b b' : Bool} {us : List Value} {x y : World} (h : C7 W on ps b us x) (hb : Below x.heap.size x y) : C7 W on ps b' us y :=
  ⟨h.below.trans (hb.mono h.below.size), fun z hz ho => (h.list z hz ho).on hb⟩

set_option maxRecDepth 100000 in
set_option maxHeartbeats 4000000 in
theorem healthy_any (l : List PackD) (room : Int) (V : Value) (s : Nat) (hs : s < 65536) (hpl : ∀ p ∈ placesTo s 8, p < l.length) (hok : OkL l) (w : World) (h : Stock w V l room) :
    Calls Tryz.prog 60 #[V, .int .u64 (s : Int)] w fun e w' => e = .returned (.bool (healthB l room s)) ∧ Below w.heap.size w w' := by
  have HS := hide h
  obtain ⟨a, cap, bm, v, hV, hP, ⟨xa, xc, hv⟩, hA⟩ := h
  have HVV := hide hV
  subst hV
  have HV2 := hide hv
  subst hv
  have hl8 := hok.l8
  have hps8 := places_le s 8
  have hhb : healthB l room s = (decide (bitSize l s ≤ room) && (placesTo s 8).all (servedB l s)) := rfl
  have HHB := hide hhb
  have HPP := hide hP
  clear hhb hA hP
  go_enter Tryz.func60, Tryz.ntmps60
  go_upto_region 2 with fail
  obtain ⟨W, hW⟩ : ∃ W, W = (w.alloc (.cells #[.slice a l.length cap, .int .i64 room, .map (some bm), .slice xa l.length xc] 73)).alloc (.cells #[.int .u64 (s : Int)] 75) := ⟨_, rfl⟩
  rw [← hW]
  have bW : Below w.heap.size w W := by rw [hW]; exact ((Below.refl _ _).alloc (Nat.le_refl _) _).alloc (by simp) _
  have zW : W.heap.size = w.heap.size + 1 + 1 := by rw [hW]; simp
  have x0 : W.cell? ⟨w.heap.size, 0, none⟩ = some (.slice a l.length cap) := by rw [hW]; simp
  have x1 : W.cell? ⟨w.heap.size, 1, none⟩ = some (.int .i64 room) := by rw [hW]; simp
  have x2 : W.cell? ⟨w.heap.size, 2, none⟩ = some (.map (some bm)) := by rw [hW]; simp
  have x3 : W.cell? ⟨w.heap.size, 3, none⟩ = some (.slice xa l.length xc) := by rw [hW]; simp
  have y0 : W.cell? ⟨w.heap.size + 1, 0, none⟩ = some (.int .u64 (s : Int)) := by rw [hW]; simp
  clear hW
  have HX := hide (And.intro x0 (And.intro x1 (And.intro x2 (And.intro x3 y0))))
  have cellsAt : ∀ x, Below W.heap.size W x → x.cell? ⟨w.heap.size, 0, none⟩ = some (.slice a l.length cap) ∧ x.cell? ⟨w.heap.size, 1, none⟩ = some (.int .i64 room) ∧ x.cell? ⟨w.heap.size, 2, none⟩ = some (.map (some bm)) ∧ x.cell? ⟨w.heap.size, 3, none⟩ = some (.slice xa l.length xc) ∧ x.cell? ⟨w.heap.size + 1, 0, none⟩ = some (.int .u64 (s : Int)) := fun x hb => by
    obtain ⟨x0, x1, x2, x3, y0⟩ := unhide HX
    exact ⟨(hb.cell (p := ⟨w.heap.size, 0, none⟩) (by simp; omega)).trans x0, (hb.cell (p := ⟨w.heap.size, 1, none⟩) (by simp; omega)).trans x1, (hb.cell (p := ⟨w.heap.size, 2, none⟩) (by simp; omega)).trans x2, (hb.cell (p := ⟨w.heap.size, 3, none⟩) (by simp; omega)).trans x3, (hb.cell (p := ⟨w.heap.size + 1, 0, none⟩) (by simp; omega)).trans y0⟩
  have HCA := hide cellsAt
  have HBW := hide bW
  clear x0 x1 x2 x3 y0 cellsAt bW HX
  have HSZ := hide (fun (x : World) (hx : Below w.heap.size w x) => size_any s hs a l cap room (.map (some bm)) (.slice xa l.length xc) ⟨_, _, _, rfl⟩ rfl x ((unhide HPP).on hx) hpl hok.size)
  have HAK := hide (show Asked W 86 (.pointer (some ⟨w.heap.size, 0, none⟩)) (.pointer (some ⟨w.heap.size + 1, 0, none⟩)) (servedB l s) (placesTo s 8) from fun x hx p hp => by
    obtain ⟨x0, x1, x2, x3, y0⟩ := unhide HCA x hx
    exact healthyLit_any l room _ s hs hok _ _ p (hpl p hp) a cap bm _ xa xc rfl rfl x ((unhide HS).on ((unhide HBW).trans (hx.mono (unhide HBW).size))) x0 x1 x2 x3 y0)
  generalize hbz : bitSize l s = bz at HHB
  have HBZ := hide hbz
  clear hbz
  cases hle : decide (bz ≤ room) with
  | true =>
    have hle' : bz ≤ room := by simpa using hle
    rw [hle] at HHB
    refine wp_region_mix (k := 100) 10 [8] [.agg #[.slice a l.length cap, .int .i64 room, .map (some bm), .slice xa l.length xc], .int .u64 (s : Int), .int .i64 bz, .pointer (some ⟨w.heap.size, 1, none⟩), .int .i64 room, .bool true, .bool true, .int .u64 (s : Int), undef, .func (.func 86) #[] #[.pointer (some ⟨w.heap.size, 0, none⟩), .pointer (some ⟨w.heap.size + 1, 0, none⟩)]] (C7 W true (placesTo s 8)) (by kernel_rfl) (by kernel_rfl) (by kernel_rfl) (by kernel_rfl) (by kernel_rfl) (by kernel_rfl) ⟨(Below.refl _ _).drew, (fun y h => by cases h)⟩ ?_ ?_ ?_
    · intro full hfull i o hi hns ho x b us hC hb
      simp [putAll, slotOf, Act.put] at hfull
      subst hfull
      obtain ⟨x0, x1, x2, x3, y0⟩ := unhide HCA x hC.below
      have bx : Below w.heap.size w x := (unhide HBW).trans (hC.below.mono (unhide HBW).size)
      have hC0 := hC.on (b' := b) (Below.refl _ _)
      match i with
      | 0 => simp at ho; subst ho; simp [gwp, Region.wanted]; go_simp; first | done | exact hC0 | exact ⟨rfl, hC0⟩
      | 1 => simp at ho; subst ho; simp [gwp, Region.wanted]; go_simp; first | done | exact hC0 | exact ⟨rfl, hC0⟩
      | 2 =>
        simp at ho; subst ho; simp [gwp, Region.wanted]; go_simp
        refine (unhide HSZ x bx).mono ?_
        rintro e w' ⟨rfl, hb2⟩
        rw [show sumP l (placesTo s 8) (placesTo s 8).length = bz from unhide HBZ]
        go_simp
        first | done | exact hC.on hb2 | exact ⟨rfl, hC.on hb2⟩
      | 3 => simp at ho; subst ho; simp [gwp, Region.wanted]; go_simp; first | done | exact hC0 | exact ⟨rfl, hC0⟩
      | 4 => simp at ho; subst ho; simp [gwp, Region.wanted]; go_simp; first | done | exact hC0 | exact ⟨rfl, hC0⟩
      | 5 => simp at ho; subst ho; simp [gwp, Region.wanted]; go_simp; first | done | exact hC0 | exact ⟨rfl, hC0⟩
      | 6 => simp at ho; subst ho; simp [gwp, Region.wanted]; go_simp; first | done | exact hC0 | exact ⟨rfl, hC0⟩
      | 7 => simp at ho; subst ho; simp [gwp, Region.wanted, yielded]; go_simp; first | done | exact hC0 | exact ⟨rfl, hC0⟩
      | 8 => simp at hns
      | 9 => simp at ho; subst ho; simp [gwp, Region.wanted, yielded]; go_simp; first | done | exact hC0 | exact ⟨rfl, hC0⟩
      | i + 10 => omega
    · intro full hfull us j hj o ho x b hC
      simp [putAll, slotOf, Act.put] at hfull
      subst hfull
      match us with
      | [] =>
        simp at hj
        subst hj
        simp at ho
        subst ho
        simp [gwp, Region.wanted, yielded, putP]
        go_simp
        refine (places_any s hs x).mono ?_
        rintro e w' ⟨⟨y, rfl, hrow⟩, hb2⟩
        go_simp
        have hC2 := hC.on (b' := b) hb2
        refine ⟨hC2.below, fun z hz _ => ?_⟩
        cases hz
        exact PlAt.of_row hrow
      | _ :: _ => simp at hj
    · intro full hfull us x hus hC
      simp [putAll, slotOf, Act.put] at hfull
      subst hfull
      match us, hus with
      | [y], _ =>
      obtain ⟨pa, pc, rfl, hpl2⟩ := hC.list y rfl rfl
      have bx := hC.below
      have hAK := unhide HAK
      have hcall := allInt_any 86 (.pointer (some ⟨w.heap.size, 0, none⟩)) (.pointer (some ⟨w.heap.size + 1, 0, none⟩)) (servedB l s) (fun v W => by kernel_rfl) pa (placesTo s 8) pc (by omega) x (fun X hX p hp => hAK X (bx.trans (hX.mono bx.size)) p hp) ⟨pa, pc, rfl, hpl2⟩
      have HCL := hide hcall
      have HB := hide ((unhide HBW).trans (bx.mono (unhide HBW).size))
      clear hcall hAK bx hpl2 hC
      simp [putP, slotOf, Act.put]
      go_wp2_with (first
        | (go_at_call 89; refine (unhide HCL).mono ?_; rintro e w' ⟨rfl, hb9⟩; have HB9 := hide hb9; clear hb9))
      go_ret
      exact ⟨ret_bool (by rw [unhide HHB]; simp), (unhide HB).trans ((unhide HB9).mono (unhide HB).size)⟩
  | false =>
    have hle' : ¬ bz ≤ room := by simpa using hle
    rw [hle] at HHB
    refine wp_region_mix (k := 100) 10 [8] [.agg #[.slice a l.length cap, .int .i64 room, .map (some bm), .slice xa l.length xc], .int .u64 (s : Int), .int .i64 bz, .pointer (some ⟨w.heap.size, 1, none⟩), .int .i64 room, .bool false, .bool false, undef, undef, undef] (C7 W false (placesTo s 8)) (by kernel_rfl) (by kernel_rfl) (by kernel_rfl) (by kernel_rfl) (by kernel_rfl) (by kernel_rfl) ⟨(Below.refl _ _).drew, (fun y h => by cases h)⟩ ?_ ?_ ?_
    · intro full hfull i o hi hns ho x b us hC hb
      simp [putAll, slotOf, Act.put] at hfull
      subst hfull
      obtain ⟨x0, x1, x2, x3, y0⟩ := unhide HCA x hC.below
      have bx : Below w.heap.size w x := (unhide HBW).trans (hC.below.mono (unhide HBW).size)
      have hC0 := hC.on (b' := b) (Below.refl _ _)
      match i with
      | 0 => simp at ho; subst ho; simp [gwp, Region.wanted]; go_simp; first | done | exact hC0 | exact ⟨rfl, hC0⟩
      | 1 => simp at ho; subst ho; simp [gwp, Region.wanted]; go_simp; first | done | exact hC0 | exact ⟨rfl, hC0⟩
      | 2 =>
        simp at ho; subst ho; simp [gwp, Region.wanted]; go_simp
        refine (unhide HSZ x bx).mono ?_
        rintro e w' ⟨rfl, hb2⟩
        rw [show sumP l (placesTo s 8) (placesTo s 8).length = bz from unhide HBZ]
        go_simp
        first | done | exact hC.on hb2 | exact ⟨rfl, hC.on hb2⟩
      | 3 => simp at ho; subst ho; simp [gwp, Region.wanted]; go_simp; first | done | exact hC0 | exact ⟨rfl, hC0⟩
      | 4 => simp at ho; subst ho; simp [gwp, Region.wanted]; go_simp; first | done | exact hC0 | exact ⟨rfl, hC0⟩
      | 5 => simp at ho; subst ho; simp [gwp, Region.wanted]; go_simp; first | done | exact hC0 | exact ⟨rfl, hC0⟩
      | 6 => simp at ho; subst ho; simp [gwp, Region.wanted]; go_simp; first | done | exact hC0 | exact ⟨rfl, hC0⟩
      | 7 => simp at ho; subst ho; simp [gwp, Region.wanted, yielded]; go_simp; first | done | exact hC0 | exact ⟨rfl, hC0⟩
      | 8 => simp at hns
      | 9 => simp at ho; subst ho; simp [gwp, Region.wanted, yielded]; go_simp; first | done | exact hC0 | exact ⟨rfl, hC0⟩
      | i + 10 => omega
    · intro full hfull us j hj o ho x b hC
      simp [putAll, slotOf, Act.put] at hfull
      subst hfull
      match us with
      | [] =>
        simp at hj
        subst hj
        simp at ho
        subst ho
        simp [gwp, Region.wanted, yielded, putP]
        exact ⟨hC.below, fun z hz ho => by cases ho⟩
      | _ :: _ => simp at hj
    · intro full hfull us x hus hC
      simp [putAll, slotOf, Act.put] at hfull
      subst hfull
      match us, hus with
      | [y], _ =>
      have bx := hC.below
      have HB := hide ((unhide HBW).trans (bx.mono (unhide HBW).size))
      clear bx hC
      simp [putP, slotOf, Act.put]
      go_wp2_with fail
      go_ret
      exact ⟨ret_bool (by rw [unhide HHB]; simp), unhide HB⟩
end Go.Proofs.YthkhaemlcmkkjaxGreat
