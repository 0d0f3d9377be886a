/- The program's stock of packs. -/
import Derived.Test.YthkhaemlcmkkjayGStN
import Derived.Test.YthkhaemlcmkkjayGReg
import Derived.Deep.CutRange
import Derived.Deep.QuietTactic
import Derived.BigQuiet
namespace Go.Proofs.Ythkhaemlcmkkjay
set_option linter.unusedVariables false
set_option linter.unusedSimpArgs false
open Go.RowKit Go.Deep Go.Maps

/-- The variable that is the stock. -/
def stockCells (a : Option Addr) (n cap : Nat) (room : Int) (bm : Nat) (v : Value) : Obj := .cells #[.slice a n cap, .int .i64 room, .map (some bm), v] 68 (0, 0)
/-- An ask of which its number alone is known. -/
def ask0 (c : Int) : List Value := [.int .i64 c, .int .u64 0, .int .u64 0, .slice none 0 0, .slice none 0 0]
/-- Behind k rounds of the first loop. -/
structure Inv1 (w : World) (a : Option Addr) (l : List PackD) (cap : Nat) (room : Int) (k : Nat) (v : Value) (D : DataW Unit) (num : List Int) (wr : World) : Prop where
  below : Below w.heap.size w wr
  res : ∃ C, wr.heap[w.heap.size + 1]? = some (.cells C 68 (0, 0)) ∧ C.size = 4
  var : wr.heap[w.heap.size + 1 + 1 + 1]? = some (stockCells a l.length cap room (w.heap.size + 1 + 1) v)
  names : Names wr (w.heap.size + 1 + 1) k D
  nums : NumsOk l k D num
  asks : wr.ownsRow (w.heap.size + 1 + 1 + 1 + 1) 108 5 v k (num.flatMap ask0)
  size : w.heap.size + 1 + 1 + 1 + 1 ≤ wr.heap.size


/-- What an ask of pack i is. -/
def twN (l : List PackD) (i : Nat) : Nat := bitsTo (fun j => fitsB ⟨(l.getD i dPack).name, 0, 99⟩ (l.getD j dPack) && decide (j ≠ i)) l.length
def bnN (l : List PackD) (i : Nat) : Nat := bitsTo (fun j => anyB (l.getD i dPack).bans (l.getD j dPack) && decide (j ≠ i)) l.length
def rowN (l : List PackD) (row : List ReqD) : Nat := bitsTo (fun j => anyB row (l.getD j dPack)) l.length
def preN (l : List PackD) (q : ReqD) : Nat := bitsTo (fun j => fitsB q (l.getD j dPack)) l.length
/-- Sets of bits that lie in memory, in a block other than ag. -/
def BitsAt (x : World) (ag : Nat) (v : Value) (ns : List Nat) : Prop := ∃ a cap, v = .slice a ns.length cap ∧ (ns = [] ∨ ∃ b, a = some ⟨b, 0, none⟩ ∧ b < x.heap.size ∧ ag < b ∧ ∀ i, i < ns.length → x.cell? ⟨b, i, none⟩ = some (.int .u64 ((ns.getD i 0 : Nat) : Int)))
theorem BitsAt.far {x y : World} {ag r : Nat} {v : Value} {ns : List Nat} (h : BitsAt x ag v ns) (hg : x.grownBy y (some r)) (hr : r ≤ ag) : BitsAt y ag v ns := by
  obtain ⟨a, cap, hv, h⟩ := h
  refine ⟨a, cap, hv, h.imp id fun ⟨b, ha, hb, hne, hc⟩ => ⟨b, ha, Nat.lt_of_lt_of_le hb hg.size, hne, fun i hi => ?_⟩⟩
  rw [World.cell?_of_block (w := x) (a := ⟨b, i, none⟩) (hg.block b hb (by simp; omega))]
  exact hc i hi
theorem BitsAt.on {x y : World} {ag : Nat} {v : Value} {ns : List Nat} (h : BitsAt x ag v ns) (hg : x.grownBy y (some ag)) : BitsAt y ag v ns := h.far hg (Nat.le_refl _)
structure AskDone (l : List PackD) (C : Array Value) (x : World) (ag j : Nat) : Prop where
  twins : C[j * 5 + 1]? = some (.int .u64 ((twN l j : Nat) : Int))
  bans : C[j * 5 + 2]? = some (.int .u64 ((bnN l j : Nat) : Int))
  rows : ∃ v, C[j * 5 + 3]? = some v ∧ BitsAt x ag v ((l.getD j dPack).deps.map (rowN l))
  pres : ∃ v, C[j * 5 + 4]? = some v ∧ BitsAt x ag v ((l.getD j dPack).pres.map (preN l))
theorem AskDone.on {l : List PackD} {C C' : Array Value} {x y : World} {ag j : Nat} (h : AskDone l C x ag j) (hg : x.grownBy y (some ag)) (hC : ∀ o, j * 5 ≤ o → o < j * 5 + 5 → C'[o]? = C[o]?) : AskDone l C' y ag j := by
  obtain ⟨h1, h2, ⟨v, h3, h4⟩, ⟨u, h5, h6⟩⟩ := h
  exact ⟨(hC _ (by omega) (by omega)).trans h1, (hC _ (by omega) (by omega)).trans h2, ⟨v, (hC _ (by omega) (by omega)).trans h3, h4.on hg⟩, ⟨u, (hC _ (by omega) (by omega)).trans h5, h6.on hg⟩⟩
theorem AskDone.far {l : List PackD} {C : Array Value} {x y : World} {ag j r : Nat} (h : AskDone l C x ag j) (hg : x.grownBy y (some r)) (hr : r ≤ ag) : AskDone l C y ag j := by
  obtain ⟨h1, h2, ⟨v, h3, h4⟩, ⟨u, h5, h6⟩⟩ := h
  exact ⟨h1, h2, ⟨v, h3, h4.far hg hr⟩, ⟨u, h5, h6.far hg hr⟩⟩
/-- What stays all along the second loop. -/
structure Mid (w : World) (a : Option Addr) (l : List PackD) (cap : Nat) (room : Int) (v : Value) (D : DataW Unit) (wr : World) : Prop where
  below : Below w.heap.size w wr
  res : ∃ C, wr.heap[w.heap.size + 1]? = some (.cells C 68 (0, 0)) ∧ C.size = 4
  var : wr.heap[w.heap.size + 1 + 1 + 1]? = some (stockCells a l.length cap room (w.heap.size + 1 + 1) v)
  names : Names wr (w.heap.size + 1 + 1) l.length D
  size : w.heap.size + 1 + 1 + 1 + 1 ≤ wr.heap.size
  slice : ∃ xa xc, v = .slice xa l.length xc
theorem Mid.on {w : World} {a : Option Addr} {l : List PackD} {cap : Nat} {room : Int} {v : Value} {D : DataW Unit} {x y : World} {ag : Nat} (h : Mid w a l cap room v D x) (hag : w.heap.size + 1 + 1 + 1 + 1 ≤ ag) (hg : x.grownBy y (some ag)) : Mid w a l cap room v D y := by
  obtain ⟨h1, ⟨C, h2, h2'⟩, h3, h4, h5, h6⟩ := h
  have hk : ∀ b, b < w.heap.size + 1 + 1 + 1 + 1 → y.heap[b]? = x.heap[b]? := fun b hb => hg.block b (by omega) (by simp; omega)
  exact ⟨⟨hg.os.trans h1.os, hg.tape.trans h1.tape, hg.output.trans h1.output, Nat.le_trans h1.size hg.size, fun b hb => (hk b (by omega)).trans (h1.block b hb)⟩, ⟨C, (hk _ (by omega)).trans h2, h2'⟩, (hk _ (by omega)).trans h3, h4.kept hg (by simp; omega), Nat.le_trans h5 hg.size, h6⟩
/-- The asks, the first k of them done. -/
structure Asks (w : World) (l : List PackD) (num : List Int) (k ag ac : Nat) (C : Array Value) (wr : World) : Prop where
  far : w.heap.size + 1 + 1 + 1 + 1 ≤ ag
  row : wr.heap[ag]? = some (.cells C 108 (0, 0))
  csz : C.size = ac * 5
  cap : l.length ≤ ac
  num : ∀ j, j < l.length → C[j * 5]? = some (.int .i64 (num.getD j 0))
  done : ∀ j, j < k → AskDone l C wr ag j
  todo : ∀ j, k ≤ j → j < l.length → C[j * 5 + 3]? = some (.slice none 0 0) ∧ C[j * 5 + 4]? = some (.slice none 0 0)
theorem grown_app {W0 x y : World} {ag : Nat} {r : Option Nat} (h : W0.grownBy x (some ag)) (hg : x.grownBy y r) (hr : ∀ j, r = some j → j = ag ∨ W0.heap.size ≤ j) : W0.grownBy y (some ag) :=
  ⟨hg.os.trans h.os, hg.tape.trans h.tape, hg.output.trans h.output, Nat.le_trans h.size hg.size, fun b hb hne => (hg.block b (Nat.lt_of_lt_of_le hb h.size) (fun e => by
    rcases hr b e.symm with e' | e'
    · exact hne (by rw [e'])
    · omega)).trans (h.block b hb hne)⟩
theorem grown_below {W0 x y : World} {ag : Nat} (h : W0.grownBy x (some ag)) (hb : Below x.heap.size x y) : W0.grownBy y (some ag) :=
  grown_app (r := none) h ⟨hb.os, hb.tape, hb.output, hb.size, fun b hb' _ => hb.block b hb'⟩ (fun j e => by cases e)
theorem grown_set {W0 x : World} {ag o : Nat} (h : W0.grownBy x (some ag)) (v : Value) : W0.grownBy (x.setCell ⟨ag, o, none⟩ v) (some ag) :=
  ⟨h.os, h.tape, h.output, by rw [nblk_setCell]; exact h.size, fun b hb hne => (blk_setCell_other _ _ _ _ (fun e => hne (by rw [show b = ag from e]))).trans (h.block b hb hne)⟩
theorem flat_get (num : List Int) (o i : Nat) (ho : o < 5) (hi : i < num.length) : (num.flatMap ask0)[i * 5 + o]? = (ask0 (num.getD i 0))[o]? := by
  induction num generalizing i with
  | nil => simp at hi
  | cons c num ih =>
    rw [List.flatMap_cons]
    have hl : (ask0 c).length = 5 := rfl
    match i with
    | 0 =>
      rw [List.getElem?_append_left (by omega)]
      simp
    | i + 1 =>
      rw [List.getElem?_append_right (by omega), hl, show (i + 1) * 5 + o - 5 = i * 5 + o by omega, ih i (by simpa using hi)]
      simp
theorem Inv1.asksRow {w : World} {a : Option Addr} {l : List PackD} {cap : Nat} {room : Int} {v : Value} {D : DataW Unit} {num : List Int} {wr : World} (h : Inv1 w a l cap room l.length v D num wr) (hn : 0 < l.length) : ∃ ag ac C, v = .slice (some ⟨ag, 0, none⟩) l.length ac ∧ Asks w l num 0 ag ac C wr := by
  rcases h.asks.2 with ⟨_, h0⟩ | ⟨ag, ac, C, hv, hb, hr, hc, _, hs, hx⟩
  · omega
  · have hlen := h.nums.len
    have hat : ∀ i o, o < 5 → i < l.length → C[i * 5 + o]? = (ask0 (num.getD i 0))[o]? := fun i o ho hi => by
      have e := flat_get num o i ho (by omega)
      rw [← hx, List.getElem?_take, if_pos (by omega)] at e
      simpa using e
    refine ⟨ag, ac, C, hv, ⟨hb, hr, hs, hc, fun j hj => ?_, fun j hj => absurd hj (Nat.not_lt_zero _), fun j _ hj => ⟨?_, ?_⟩⟩⟩
    · simpa [ask0] using hat j 0 (by omega) hj
    · simpa [ask0] using hat j 3 (by omega) hj
    · simpa [ask0] using hat j 4 (by omega) hj
theorem Inv1.mid {w : World} {a : Option Addr} {l : List PackD} {cap : Nat} {room : Int} {v : Value} {D : DataW Unit} {num : List Int} {wr : World} (h : Inv1 w a l cap room l.length v D num wr) : Mid w a l cap room v D wr := ⟨h.below, h.res, h.var, h.names, h.size, by
  rcases h.asks.2 with ⟨hv, h0⟩ | ⟨g, cap', cur, hv, _⟩
  · exact ⟨none, 0, by rw [hv, h0]⟩
  · exact ⟨_, _, hv⟩⟩

/-- What the calls of the second loop want. -/
structure Ctx (a : Option Addr) (l : List PackD) (bm : Nat) (D : DataW Unit) (num : List Int) (ag : Nat) (W : World) : Prop where
  packs : PacksAt (Old W) W a l
  names : Names W bm l.length D
  bml : bm < W.heap.size
  agl : ag < W.heap.size
  numc : ∀ i, i < l.length → W.cell? ⟨ag, i * 5, none⟩ = some (.int .i64 (num.getD i 0))
  nums : NumsOk l l.length D num
  l8 : l.length ≤ 8
theorem Ctx.on {a : Option Addr} {l : List PackD} {bm : Nat} {D : DataW Unit} {num : List Int} {ag : Nat} {W W' : World} (h : Ctx a l bm D num ag W) (hb : Below W.heap.size W W') : Ctx a l bm D num ag W' :=
  ⟨h.packs.on hb, h.names.on hb, Nat.lt_of_lt_of_le h.bml hb.size, Nat.lt_of_lt_of_le h.agl hb.size, fun i hi => by rw [World.cell?_of_block (w := W) (a := ⟨ag, i * 5, none⟩) (hb.block ag h.agl)]; exact h.numc i hi, h.nums, h.l8⟩
theorem Mid.ctx {w : World} {a : Option Addr} {l : List PackD} {cap : Nat} {room : Int} {v : Value} {D : DataW Unit} {num : List Int} {ag : Nat} {C : Array Value} {W : World} (h : Mid w a l cap room v D W) (hp : PacksAt (Old w) w a l) (hu : NumsOk l l.length D num) (hl : l.length ≤ 8) (hr : W.heap[ag]? = some (.cells C 108 (0, 0))) (hC : ∀ j, j < l.length → C[j * 5]? = some (.int .i64 (num.getD j 0))) : Ctx a l (w.heap.size + 1 + 1) D num ag W :=
  ⟨hp.on h.below, h.names, by have := h.size; omega, (Array.getElem?_eq_some_iff.1 hr).1, fun i hi => by simp only [World.cell?, hr]; exact hC i hi, hu, hl⟩
theorem preN_lt {l : List PackD} (hl : l.length ≤ 8) (q : ReqD) : preN l q < 65536 := by
  have h1 := bitsTo_lt (fun j => fitsB q (l.getD j dPack)) l.length
  have h2 : 2 ^ l.length ≤ 2 ^ 8 := Nat.pow_le_pow_right (by omega) hl
  unfold preN
  omega
theorem rowN_lt {l : List PackD} (hl : l.length ≤ 8) (row : List ReqD) : rowN l row < 65536 := by
  have h1 := bitsTo_lt (fun j => anyB row (l.getD j dPack)) l.length
  have h2 : 2 ^ l.length ≤ 2 ^ 8 := Nat.pow_le_pow_right (by omega) hl
  unfold rowN
  omega
theorem Ctx.fit {a : Option Addr} {l : List PackD} {bm : Nat} {D : DataW Unit} {num : List Int} {ag : Nat} {W : World} (h : Ctx a l bm D num ag W) (q : ReqD) (hq : q.name.size ≤ maxLen) (cap : Nat) (room : Int) (ac : Nat) :
    Calls Try.prog 62 #[.agg #[.slice a l.length cap, .int .i64 room, .map (some bm), .slice (some ⟨ag, 0, none⟩) l.length ac], .agg #[.string q.name, .int .i64 q.low, .int .i64 q.high]] W
      fun e w' => e = .returned (.int .u64 ((preN l q : Nat) : Int)) ∧ Below W.heap.size W w' := by
  refine (fitting_num q hq bm l.length D a l cap room ag ac (fun i => num.getD i 0) W h.names h.bml h.packs h.l8 h.agl h.numc).mono ?_
  rintro e w' ⟨rfl, hb⟩
  refine ⟨?_, hb⟩
  unfold preN
  rw [bitsTo_congr (fun i hi => h.nums.fits q hi)]
theorem Ctx.fitAny {a : Option Addr} {l : List PackD} {bm : Nat} {D : DataW Unit} {num : List Int} {ag : Nat} {W : World} (h : Ctx a l bm D num ag W) (ra : Option Addr) (reqs : List ReqD) (rc : Nat) (hr : ReqsAt (Old W) W ra reqs) (cap : Nat) (room : Int) (ac : Nat) :
    Calls Try.prog 64 #[.agg #[.slice a l.length cap, .int .i64 room, .map (some bm), .slice (some ⟨ag, 0, none⟩) l.length ac], .slice ra reqs.length rc] W
      fun e w' => e = .returned (.int .u64 ((rowN l reqs : Nat) : Int)) ∧ Below W.heap.size W w' := by
  refine (fittingAny_any ra reqs rc bm l.length D a l cap room ag ac (fun i => num.getD i 0) W h.names h.bml h.packs h.l8 h.agl h.numc hr).mono ?_
  rintro e w' ⟨rfl, hb⟩
  refine ⟨?_, hb⟩
  unfold rowN
  rw [h.nums.fitsAny reqs]

/-- In the midst of a round: of what was there the asks alone are written. -/
structure Rs (W0 W : World) (ag : Nat) (C : Array Value) : Prop where
  grown : W0.grownBy W (some ag)
  row : W.heap[ag]? = some (.cells C 108 (0, 0))
theorem Rs.set {W0 W : World} {ag : Nat} {C : Array Value} (h : Rs W0 W ag C) (o : Nat) (v : Value) : Rs W0 (W.setCell ⟨ag, o, none⟩ v) ag (C.setIfInBounds o v) := ⟨grown_set h.grown v, blk_set h.row o v⟩
theorem Rs.below {W0 W W' : World} {ag : Nat} {C : Array Value} (h : Rs W0 W ag C) (hb : Below W.heap.size W W') : Rs W0 W' ag C := ⟨grown_below h.grown hb, (hb.block ag (Array.getElem?_eq_some_iff.1 h.row).1).trans h.row⟩
theorem Rs.cell {W0 W : World} {ag : Nat} {C : Array Value} (h : Rs W0 W ag C) (o : Nat) : W.cell? ⟨ag, o, none⟩ = C[o]? := by simp [World.cell?, h.row]
theorem Rs.frozen {W0 W : World} {ag : Nat} {C : Array Value} (h : Rs W0 W ag C) (o : Nat) : W.frozen? ⟨ag, o, none⟩ = false := by simp [World.frozen?, h.row]
theorem set_other {C : Array Value} {o o' : Nat} (v : Value) (h : o ≠ o') : (C.setIfInBounds o v)[o']? = C[o']? := by simp [Array.getElem?_setIfInBounds, h]
theorem set_same {C : Array Value} {o : Nat} (v : Value) (h : o < C.size) : (C.setIfInBounds o v)[o]? = some v := by simp [Array.getElem?_setIfInBounds, h]
def bitVs (ns : List Nat) : List Value := ns.map fun n : Nat => .int .u64 (n : Int)
theorem BitsAt.of_row {B : Nat} {x : World} {ag : Nat} {v : Value} {ns : List Nat} (h : x.ownsRow B 70 1 v ns.length (bitVs ns)) (hag : ag < B) : BitsAt x ag v ns := by
  obtain ⟨h1, h2⟩ := h
  rcases h2 with ⟨hv, h0⟩ | ⟨g, cap, cur, hv, hB, hc, hcap, _, hsz, hx⟩
  · have : ns = [] := List.length_eq_zero_iff.1 (by omega)
    subst this
    exact ⟨none, 0, hv, Or.inl rfl⟩
  · refine ⟨some ⟨g, 0, none⟩, cap, hv, ?_⟩
    by_cases h0 : ns = []
    · exact Or.inl h0
    · refine Or.inr ⟨g, rfl, (Array.getElem?_eq_some_iff.1 hc).1, by omega, fun i hi => ?_⟩
      have e : cur.toList[i]? = some (.int .u64 ((ns.getD i 0 : Nat) : Int)) := by
        have : (cur.toList.take (ns.length * 1))[i]? = (bitVs ns)[i]? := by rw [hx]
        rw [List.getElem?_take, if_pos (by omega)] at this
        rw [this]
        simp [bitVs, List.getD, hi]
      simp only [World.cell?, hc]
      simpa using e
/-- A list of bits is being built in cell o of the asks. -/
structure Bld (W0 : World) (ag o : Nat) (C : Array Value) (ns : List Nat) (v : Value) (Cc : Array Value) (W : World) : Prop where
  rs : Rs W0 W ag Cc
  size : Cc.size = C.size
  here : Cc[o]? = some v
  other : ∀ o', o ≠ o' → Cc[o']? = C[o']?
  own : W.ownsRow W0.heap.size 70 1 v ns.length (bitVs ns)
theorem Bld.start {W0 : World} {ag o : Nat} {C : Array Value} (hr : W0.heap[ag]? = some (.cells C 108 (0, 0))) (hC : C[o]? = some (.slice none 0 0)) : Bld W0 ag o C [] (.slice none 0 0) C W0 :=
  ⟨⟨⟨rfl, rfl, rfl, Nat.le_refl _, fun _ _ _ => rfl⟩, hr⟩, rfl, hC, fun _ _ => rfl, ⟨rfl, Or.inl ⟨rfl, rfl⟩⟩⟩
/-- What is appended is stored. -/
theorem Bld.step {W0 : World} {ag o : Nat} {C : Array Value} {ns : List Nat} {v v' : Value} {Cc : Array Value} {W w3 : World} {r : Nat} (h : Bld W0 ag o C ns v Cc W) (hag : ag < W0.heap.size) (hg : W.grownBy w3 v.ownBlock) (ho : w3.ownsRow W0.heap.size 70 1 v' (ns.length + 1) (bitVs ns ++ [.int .u64 (r : Int)])) : Bld W0 ag o C (ns ++ [r]) v' (Cc.setIfInBounds o v') (w3.setCell ⟨ag, o, none⟩ v') := by
  have hoC : o < Cc.size := (Array.getElem?_eq_some_iff.1 h.here).1
  have hagW : ag < W.heap.size := (Array.getElem?_eq_some_iff.1 h.rs.row).1
  have hblk : ∀ j, v.ownBlock = some j → W0.heap.size ≤ j := fun j hj => (h.own.lt j hj).1
  refine ⟨⟨grown_set (grown_app h.rs.grown hg (fun j hj => Or.inr (hblk j hj))) _, ?_⟩, by simp [h.size], set_same _ hoC, fun o' ho' => (set_other _ ho').trans (h.other o' ho'), ?_⟩
  · refine blk_set ?_ o v'
    rw [hg.block ag hagW (fun e => by have := hblk ag e.symm; omega)]
    exact h.rs.row
  · have := ownsRow_setCell_below ho (a := ⟨ag, o, none⟩) hag v'
    simpa [bitVs] using this
theorem ownsRow_on {B : Nat} {e : TypeId} {sz : Nat} {v : Value} {n : Nat} {xs : List Value} {x y : World} (h : x.ownsRow B e sz v n xs) (hb : Below x.heap.size x y) : y.ownsRow B e sz v n xs :=
  h.kept (row := none) ⟨hb.os, hb.tape, hb.output, hb.size, fun b hb' _ => hb.block b hb'⟩ (by
    cases hv : v.ownBlock
    · exact Or.inl rfl
    · exact Or.inr (by simp))
/-- All along a statement that appends a set of bits. -/
structure C6 (wx : World) (B : Nat) (v : Value) (ns : List Nat) (r : Nat) (b : Bool) (us : List Value) (x : World) : Prop where
  grown : wx.grownBy x v.ownBlock
  own : us.length ≤ 1 → x.ownsRow B 70 1 v ns.length (bitVs ns)
  fresh : ∀ y, us = [y] → ∃ g1, y = .slice (some ⟨g1, 0, none⟩) 1 1 ∧ x.heap[g1]? = some (.cells #[.int .u64 (r : Int)] 70 (0, 0))
  done : ∀ y v', us = [y, v'] → x.ownsRow B 70 1 v' (ns.length + 1) (bitVs ns ++ [.int .u64 (r : Int)])
theorem C6.on {wx : World} {B : Nat} {v : Value} {ns : List Nat} {r : Nat} {b b' : Bool} {us : List Value} {x y : World} (h : C6 wx B v ns r b us x) (hb : Below x.heap.size x y) : C6 wx B v ns r b' us y := by
  refine ⟨⟨hb.os.trans h.grown.os, hb.tape.trans h.grown.tape, hb.output.trans h.grown.output, Nat.le_trans h.grown.size hb.size, fun k hk hne => (hb.block k (Nat.lt_of_lt_of_le hk h.grown.size)).trans (h.grown.block k hk hne)⟩, fun hu => ownsRow_on (h.own hu) hb, fun z hz => ?_, fun z v' hz => ownsRow_on (h.done z v' hz) hb⟩
  obtain ⟨g1, h1, h3⟩ := h.fresh z hz
  exact ⟨g1, h1, (hb.block g1 (Array.getElem?_eq_some_iff.1 h3).1).trans h3⟩
theorem Ctx.far {a : Option Addr} {l : List PackD} {bm : Nat} {D : DataW Unit} {num : List Int} {ag : Nat} {W W' : World} {r : Option Nat} {B : Nat} (h : Ctx a l bm D num ag W) (hg : W.grownBy W' r) (hr : ∀ j, r = some j → B ≤ j) (hbm : bm < B) (hag : ag < B) (hp : PacksAt (Old W') W' a l) : Ctx a l bm D num ag W' :=
  ⟨hp, h.names.kept hg (fun e => by have := hr _ e.symm; omega), Nat.lt_of_lt_of_le h.bml hg.size, Nat.lt_of_lt_of_le h.agl hg.size, fun i hi => by rw [World.cell?_of_block (w := W) (a := ⟨ag, i * 5, none⟩) (hg.block ag h.agl (fun e => by have := hr _ e.symm; omega))]; exact h.numc i hi, h.nums, h.l8⟩
theorem Try.infoBits : (Try.prog.info? 70).map (fun i => (i.zero, i.size, i.bytes)) = some (some (.int .u64 0), 1, 8) := by kernel_rfl

/-- The asks of all packs. -/
def AsksAt (W : World) (v : Value) (l : List PackD) : Prop := (∃ xa xc, v = .slice xa l.length xc) ∧ (0 < l.length → ∃ ag ac C, v = .slice (some ⟨ag, 0, none⟩) l.length ac ∧ W.heap[ag]? = some (.cells C 108 (0, 0)) ∧ (∀ j, j < l.length → ∃ c : Int, C[j * 5]? = some (.int .i64 c)) ∧ ∀ j, j < l.length → AskDone l C W ag j)
/-- The stock of packs. -/
def Stock (W : World) (V : Value) (l : List PackD) (room : Int) : Prop := ∃ a cap bm v, V = .agg #[.slice a l.length cap, .int .i64 room, .map (some bm), v] ∧ PacksAt (Old W) W a l ∧ AsksAt W v l
/-- The asks lie in block B or behind it. -/
def AsksFrom (B : Nat) (v : Value) (l : List PackD) : Prop := 0 < l.length → ∀ (ag ac : Nat), v = .slice (some ⟨ag, 0, none⟩) l.length ac → B ≤ ag
theorem AsksAt.on {W W' : World} {v : Value} {l : List PackD} (h : AsksAt W v l) (hb : Below W.heap.size W W') : AsksAt W' v l := by
  refine ⟨h.1, fun hn => ?_⟩
  obtain ⟨ag, ac, C, h1, h2, h3, h4⟩ := h.2 hn
  have hag := (Array.getElem?_eq_some_iff.1 h2).1
  exact ⟨ag, ac, C, h1, (hb.block ag hag).trans h2, h3, fun j hj => (h4 j hj).on ⟨hb.os, hb.tape, hb.output, hb.size, fun b hb' _ => hb.block b hb'⟩ fun _ _ _ => rfl⟩
theorem Stock.on {W W' : World} {V : Value} {l : List PackD} {room : Int} (h : Stock W V l room) (hb : Below W.heap.size W W') : Stock W' V l room := by
  obtain ⟨a, cap, bm, v, h1, h2, h3⟩ := h
  exact ⟨a, cap, bm, v, h1, h2.on hb, h3.on hb⟩

theorem four_alloc (w : World) (A B C D : Obj) : ((((w.alloc A).alloc B).alloc C).alloc D).heap[w.heap.size + 1]? = some B ∧ ((((w.alloc A).alloc B).alloc C).alloc D).heap[w.heap.size + 1 + 1 + 1]? = some D := by
  have e : ((((w.alloc A).alloc B).alloc C).alloc D).heap = (((w.heap.push A).push B).push C).push D := rfl
  rw [e]
  refine ⟨?_, ?_⟩
  · rw [Array.getElem?_push, if_neg (by simp), Array.getElem?_push, if_neg (by simp), Array.getElem?_push, if_pos (by simp)]
  · rw [Array.getElem?_push, if_pos (by simp)]

def numC (D : DataW Unit) (nm : ByteArray) : Int := if numOf D nm = 0 then (Maps.size D : Int) + 1 else numOf D nm
def numD (D : DataW Unit) (nm : ByteArray) : DataW Unit := if numOf D nm = 0 then D.put (nkey nm) (i64D (numC D nm)) else D
theorem NumStep.det {D D' : DataW Unit} {nm : ByteArray} {c : Int} (h : NumStep D nm c D') : c = numC D nm ∧ D' = numD D nm := by
  rcases h with ⟨hc, rfl, hat⟩ | ⟨hat, hc, rfl⟩
  · have hn := numOf_at hat
    have hne : numOf D' nm ≠ 0 := by rw [hn]; exact hc
    unfold numD numC
    rw [if_neg hne, if_neg hne, hn]
    exact ⟨rfl, rfl⟩
  · have hn := numOf_at hat
    have e : c = numC D nm := by unfold numC; rw [if_pos hn]; exact hc
    refine ⟨e, ?_⟩
    unfold numD
    rw [if_pos hn, ← e]

/-- All along the statement that appends an ask. -/
structure C5 (W0 : World) (bm k : Nat) (D : DataW Unit) (nm : ByteArray) (b : Bool) (u : Option Value) (x : World) : Prop where
  grown : W0.grownBy x (some bm)
  names0 : b = false → Names x bm k D
  names1 : b = true → Names x bm (k + 1) (numD D nm) ∧ NumStep D nm (numC D nm) (numD D nm)
  fresh : ∀ y, u = some y → ∃ g1, y = .slice (some ⟨g1, 0, none⟩) 1 1 ∧ W0.heap.size ≤ g1 ∧ x.heap[g1]? = some (.cells (ask0 (numC D nm)).toArray 108 (0, 0))

theorem Try.infoAsk : (Try.prog.info? 108).map (fun i => (i.zero, i.size, i.bytes)) = some (some (.agg #[.int .i64 0, .int .u64 0, .int .u64 0, .slice none 0 0, .slice none 0 0]), 5, 72) := by kernel_rfl

set_option maxRecDepth 100000 in
set_option maxHeartbeats 4000000 in
theorem stockOf_any (a : Option Addr) (l : List PackD) (cap : Nat) (room : Int) (w : World) (h : PacksAt (Old w) w a l) (hl : l.length ≤ 8) (h4 : ∀ i, i < l.length → (l.getD i dPack).deps.length ≤ 4 ∧ (l.getD i dPack).pres.length ≤ 4) :
    Calls Try.prog 38 #[.agg #[.slice a l.length cap, .int .i64 room]] w fun e w' => (∃ bm v, e = .returned (.agg #[.slice a l.length cap, .int .i64 room, .map (some bm), v]) ∧ AsksAt w' v l ∧ AsksFrom w.heap.size v l) ∧ Below w.heap.size w w' := by
  have HP := hide h
  clear h
  have hmm := @run_makeMap Try.prog
  go_enter Try.func38, Try.ntmps38
  go_wp2_with fail
  go_loopw [22] (fun i wr => ∃ (k : Nat) (v : Value) (D : DataW Unit) (num : List Int), k ≤ l.length ∧ i = .int .i64 k ∧ Hid (Inv1 w a l cap room k v D num wr)) (fun i _ => l.length - (intOf i).toNat)
  case atStart =>
    refine ⟨0, .slice none 0 0, .map [], [], Nat.zero_le _, rfl, ?_⟩
    obtain ⟨f1, f2⟩ := four_alloc w (.cells #[.slice a l.length cap, .int .i64 room] 31) (.cells #[.slice none 0 0, .int .i64 0, .map none, .slice none 0 0] 68) (.map #[] 0) (.cells #[.slice a l.length cap, .int .i64 room, .map (some (w.heap.size + 1 + 1)), .slice none 0 0] 68)
    have hmade : Names (((w.alloc (.cells #[.slice a l.length cap, .int .i64 room] 31)).alloc (.cells #[.slice none 0 0, .int .i64 0, .map none, .slice none 0 0] 68)).alloc (.map #[] 0)) (w.heap.size + 1 + 1) 0 (.map []) := by
      have := World.ownsMap_made (H := Unit) ((w.alloc (.cells #[.slice a l.length cap, .int .i64 room] 31)).alloc (.cells #[.slice none 0 0, .int .i64 0, .map none, .slice none 0 0] 68)) Try.prog 9 (plainElem (H := Unit) Try.prog 3)
      simpa using this
    exact ⟨((((Below.refl w.heap.size w).alloc (Nat.le_refl _) _).alloc (by simp) _).alloc (by simp; omega) _).alloc (by simp; omega) _, ⟨_, f1, rfl⟩, f2, hmade.alloc _, NumsOk.empty l, ⟨rfl, Or.inl ⟨rfl, rfl⟩⟩, by simp⟩
  case round =>
    rename World => wo
    obtain ⟨k, v, D, num, hk, rfl, HI⟩ := hrel
    by_cases hlt : k < l.length
    · have j1 : (k : Int) < (l.length : Int) := by omega
      obtain ⟨pm, hpp⟩ := (unhide HP).on (unhide HI).below
      rcases hpp with hnil | ⟨pb, po, rfl, hpS, hpk⟩
      · rw [hnil] at hlt; simp at hlt
      obtain ⟨a1, c1, a2, c2, a3, c3, hcells, hval⟩ := hpk k hlt
      obtain ⟨n0, n1, n2, n3, n4, n5⟩ := hcells
      have hnl := hval.len
      have hps : pb < wo.heap.size := hpS
      have hz := (unhide HI).size
      obtain ⟨i0, hi0, hz0, hz1, hz2⟩ := info_parts Try.infoAsk
      generalize hP : (l.getD k dPack) = P at n0 n1 n2 n3 n4 n5 hnl
      have HPP := hide hP
      clear hP hpk hval
      go_upto_region 5 with fail
      have HN := hide (unhide HI).names
      have bk := (unhide HI).var
      have b1 : (wo.alloc (.cells #[.string P.name, .int .i64 P.ver, .int .i64 P.size, .slice a1 P.deps.length c1, .slice a2 P.pres.length c2, .slice a3 P.bans.length c3] 62)).heap[w.heap.size + 1 + 1 + 1]? = some (stockCells (some ⟨pb, po, none⟩) l.length cap room (w.heap.size + 1 + 1) v) := (blk_alloc_lt _ _ _ (by omega)).trans bk
      have b2 := blk_alloc_new wo (.cells #[.string P.name, .int .i64 P.ver, .int .i64 P.size, .slice a1 P.deps.length c1, .slice a2 P.pres.length c2, .slice a3 P.bans.length c3] 62)
      have HN1 := hide ((unhide HN).alloc (.cells #[.string P.name, .int .i64 P.ver, .int .i64 P.size, .slice a1 P.deps.length c1, .slice a2 P.pres.length c2, .slice a3 P.bans.length c3] 62))
      have HG := hide (World.grownBy_alloc wo (.cells #[.string P.name, .int .i64 P.ver, .int .i64 P.size, .slice a1 P.deps.length c1, .slice a2 P.pres.length c2, .slice a3 P.bans.length c3] 62) (some (w.heap.size + 1 + 1)))
      have hz1' : (wo.alloc (.cells #[.string P.name, .int .i64 P.ver, .int .i64 P.size, .slice a1 P.deps.length c1, .slice a2 P.pres.length c2, .slice a3 P.bans.length c3] 62)).heap.size = wo.heap.size + 1 := by simp
      generalize hW : wo.alloc (.cells #[.string P.name, .int .i64 P.ver, .int .i64 P.size, .slice a1 P.deps.length c1, .slice a2 P.pres.length c2, .slice a3 P.bans.length c3] 62) = W0 at b1 b2 HN1 HG hz1' ⊢
      clear hW bk HN n0 n1 n2 n3 n4 n5
      obtain ⟨va, vn, vc, rfl⟩ : ∃ va vn vc, v = .slice va vn vc := by
        rcases (unhide HI).asks.2 with ⟨hv, _⟩ | ⟨g, cap', cur, hv, _⟩
        · exact ⟨_, _, _, hv⟩
        · exact ⟨_, _, _, hv⟩
      refine wp_region_fresh (k := 5) 7 [.pointer (some ⟨w.heap.size + 1 + 1 + 1, 3, none⟩), .slice va vn vc, .agg #[.slice (some ⟨pb, po, none⟩) l.length cap, .int .i64 room, .map (some (w.heap.size + 1 + 1)), .slice va vn vc], .pointer (some ⟨wo.heap.size, 0, none⟩), .string P.name, .int .i64 (numC D P.name), .agg #[.int .i64 (numC D P.name), .int .u64 0, .int .u64 0, .slice none 0 0, .slice none 0 0]] (C5 W0 (w.heap.size + 1 + 1) k D P.name) (by kernel_rfl) (by kernel_rfl) (by kernel_rfl) (by kernel_rfl) (by kernel_rfl) ⟨⟨rfl, rfl, rfl, Nat.le_refl _, fun _ _ _ => rfl⟩, fun _ => unhide HN1, (fun h => by cases h), (fun y h => by cases h)⟩ ?_ ?_ ?_
      · intro full hfull i o hi ho x b u hC hb
        simp [putAll, slotOf, Act.put] at hfull
        subst hfull
        match i with
        | 0 =>
          simp at ho
          subst ho
          go_simp
          first | done | exact ⟨rfl, hC⟩
        | 1 =>
          simp at ho
          subst ho
          have x3 : x.cell? ⟨w.heap.size + 1 + 1 + 1, 3, none⟩ = some (.slice va vn vc) := by
            rw [World.cell?_of_block (w := W0) (a := ⟨w.heap.size + 1 + 1 + 1, 3, none⟩) (hC.grown.block (w.heap.size + 1 + 1 + 1) (by omega) (by simp))]
            simp [World.cell?, b1, stockCells]
          go_simp
          first | done | exact ⟨rfl, hC⟩
        | 2 =>
          simp at ho
          subst ho
          have e0 : x.heap[w.heap.size + 1 + 1 + 1]? = some (stockCells (some ⟨pb, po, none⟩) l.length cap room (w.heap.size + 1 + 1) (.slice va vn vc)) := (hC.grown.block _ (by omega) (by simp)).trans b1
          have x0 : x.cell? ⟨w.heap.size + 1 + 1 + 1, 0, none⟩ = some (.slice (some ⟨pb, po, none⟩) l.length cap) := by simp [World.cell?, e0, stockCells]
          have x1 : x.cell? ⟨w.heap.size + 1 + 1 + 1, 1, none⟩ = some (.int .i64 room) := by simp [World.cell?, e0, stockCells]
          have x2 : x.cell? ⟨w.heap.size + 1 + 1 + 1, 2, none⟩ = some (.map (some (w.heap.size + 1 + 1))) := by simp [World.cell?, e0, stockCells]
          have x3 : x.cell? ⟨w.heap.size + 1 + 1 + 1, 3, none⟩ = some (.slice va vn vc) := by simp [World.cell?, e0, stockCells]
          clear e0
          go_simp
          first | done | exact ⟨rfl, hC⟩
        | 3 =>
          simp at ho
          subst ho
          go_simp
          first | done | exact ⟨rfl, hC⟩
        | 4 =>
          simp at ho
          subst ho
          have x0 : x.cell? ⟨wo.heap.size, 0, none⟩ = some (.string P.name) := by
            rw [World.cell?_of_block (w := W0) (a := ⟨wo.heap.size, 0, none⟩) (hC.grown.block wo.heap.size (by omega) (by simp; omega))]
            simp [World.cell?, b2]
          go_simp
          first | done | exact ⟨rfl, hC⟩
        | 5 =>
          simp at ho
          subst ho
          have hbf := hb rfl
          subst hbf
          go_simp
          refine (numberOf_any P.name hnl (w.heap.size + 1 + 1) k D (by omega) ((hC.names0 rfl).size_le) _ _ _ _ _ _ _ x (hC.names0 rfl) (by have := hC.grown.size; omega)).mono ?_
          rintro e w' ⟨c, n', D', rfl, hn', hnames, hstep, hgrow⟩
          obtain ⟨rfl, rfl⟩ := hstep.det
          go_simp
          refine ⟨hC.grown.trans hgrow, (fun h => by cases h), (fun _ => ⟨hnames.mono hn', hstep⟩), fun y hy => ?_⟩
          obtain ⟨g1, h1, h2, h3⟩ := hC.fresh y hy
          exact ⟨g1, h1, h2, (hgrow.block g1 (Array.getElem?_eq_some_iff.1 h3).1 (by simp; omega)).trans h3⟩
        | 6 =>
          simp at ho
          subst ho
          go_simp
          first | done | exact ⟨rfl, hC⟩
        | i + 7 => omega
      · intro full hfull o ho x b hC hb
        simp [putAll, slotOf, Act.put] at hfull
        subst hfull
        simp at ho
        subst ho
        go_simp
        refine ⟨hC.grown.trans (World.grownBy_alloc _ _ _), (fun h => (hC.names0 h).alloc _), (fun h => ⟨(hC.names1 h).1.alloc _, (hC.names1 h).2⟩), fun y hy => ?_⟩
        cases hy
        exact ⟨x.heap.size, rfl, hC.grown.size, blk_alloc_new _ _⟩
      · intro full hfull y x hC
        simp [putAll, slotOf, Act.put] at hfull
        subst hfull
        obtain ⟨g1, rfl, hg1, hC1⟩ := hC.fresh y rfl
        have hgx : wo.grownBy x (some (w.heap.size + 1 + 1)) := (unhide HG).trans hC.grown
        have hown : x.ownsRow (w.heap.size + 1 + 1 + 1 + 1) 108 5 (.slice va vn vc) k (num.flatMap ask0) := (unhide HI).asks.kept hgx (Or.inr fun e => by
          have := ((unhide HI).asks.lt _ e).1
          omega)
        have hblk : ∀ j, (Value.slice va vn vc).ownBlock = some j → w.heap.size + 1 + 1 + 1 + 1 ≤ j := fun j hj => (hown.lt j hj).1
        have hnews : ∀ (j : Nat) (u : Value), (ask0 (numC D P.name))[j]? = some u → x.cell? ((⟨g1, 0, none⟩ : Addr).add j) = some u := fun j u hu => by
          have e : (⟨g1, 0, none⟩ : Addr).add j = ⟨g1, j, none⟩ := by unfold Addr.add; split <;> simp_all
          rw [e]
          simp only [World.cell?, hC1]
          simpa using hu
        have bkx : x.heap[w.heap.size + 1 + 1 + 1]? = some (stockCells (some ⟨pb, po, none⟩) l.length cap room (w.heap.size + 1 + 1) (.slice va vn vc)) := (hC.grown.block _ (by omega) (by simp)).trans b1
        have hzx := hC.grown.size
        have HGX := hide hgx
        have HN2 := hide (hC.names1 rfl).1
        have HBX := hide bkx
        have HST := hide (hC.names1 rfl).2
        clear hgx hC hC1 HG HN1 b1 b2 bkx
        simp [slotOf, Act.put]
        refine wpList_append_own_at _ rfl _ _ 66 rfl (w.heap.size + 1 + 1 + 1 + 1) 108 i0 (.agg #[.int .i64 0, .int .u64 0, .int .u64 0, .slice none 0 0, .slice none 0 0]) 5 72 Try.underlying66 hi0 hz0 hz1 hz2 rfl (by decide) (.slice va vn vc) k _ rfl hown ⟨g1, 0, none⟩ 1 1 (ask0 (numC D P.name)) rfl rfl hnews ?c2 ?c3 ?c4 ?c5 ?_
        case c2 => intro u hu; simp [ask0] at hu; rcases hu with rfl | rfl | rfl | rfl <;> rfl
        case c3 => unfold maxLen; omega
        case c4 => omega
        case c5 => omega
        intro v' w3 hown' hgrow _ _
        have HO3 := hide hown'
        have HG3 := hide hgrow
        have bk3 : w3.heap[w.heap.size + 1 + 1 + 1]? = some (stockCells (some ⟨pb, po, none⟩) l.length cap room (w.heap.size + 1 + 1) (.slice va vn vc)) := (hgrow.block _ (by omega) (fun e => by have := hblk _ e.symm; omega)).trans (unhide HBX)
        have x3 : w3.cell? ⟨w.heap.size + 1 + 1 + 1, 3, none⟩ = some (.slice va vn vc) := by simp [World.cell?, bk3, stockCells]
        have f3 : w3.frozen? ⟨w.heap.size + 1 + 1 + 1, 3, none⟩ = false := by simp [World.frozen?, bk3, stockCells]
        have HB3 := hide bk3
        clear hown' hgrow hnews bk3
        obtain ⟨va', vn', vc', rfl⟩ : ∃ va vn vc, v' = .slice va vn vc := by
          rcases (unhide HO3).2 with ⟨hv, _⟩ | ⟨g, cap', cur, hv, _⟩
          · exact ⟨_, _, _, hv⟩
          · exact ⟨_, _, _, hv⟩
        go_wp2_with fail
        go_roundw
        case rel =>
          refine ⟨k + 1, .slice va' vn' vc', numD D P.name, num ++ [numC D P.name], by omega, by go_num, ?_⟩
          have HI := unhide HI
          have hgx := unhide HGX
          have hg3 := unhide HG3
          have hkeep : ∀ b, b < w.heap.size + 1 + 1 → (w3.setCell ⟨w.heap.size + 1 + 1 + 1, 3, none⟩ (.slice va' vn' vc')).heap[b]? = wo.heap[b]? := fun b hb => by
            rw [blk_setCell_other _ _ _ _ (by simp; omega), hg3.block b (by omega) (fun e => by have := hblk _ e.symm; omega), hgx.block b (by omega) (by simp; omega)]
          have hown3 := unhide HO3
          refine ⟨⟨?_, ?_, ?_, ?_, fun b hb => ?_⟩, ?_, ?_, ?_, ?_, ?_, ?_⟩
          · exact hg3.os.trans (hgx.os.trans HI.below.os)
          · exact hg3.tape.trans (hgx.tape.trans HI.below.tape)
          · exact hg3.output.trans (hgx.output.trans HI.below.output)
          · rw [nblk_setCell]; have := hg3.size; have := hgx.size; omega
          · exact (hkeep b (by omega)).trans (HI.below.block b hb)
          · obtain ⟨C, hC, hCs⟩ := HI.res
            exact ⟨C, (hkeep _ (by omega)).trans hC, hCs⟩
          · rw [blk_set (unhide HB3) 3 _]
            rfl
          · exact World.ownsMap.setCell (World.ownsMap.kept (unhide HN2) hg3 (fun e => by have := hblk _ e.symm; omega)) (by simp) _
          · have hP := unhide HPP
            have hst := unhide HST
            rw [← hP] at hst ⊢
            exact HI.nums.step hst ((unhide HN2).tidy lawStr |> fun t => by rw [hP]; exact t)
          · have := ownsRow_setCell_below hown3 (a := ⟨w.heap.size + 1 + 1 + 1, 3, none⟩) (by simp) (.slice va' vn' vc')
            simpa using this
          · rw [nblk_setCell]; have := hg3.size; have := hgx.size; omega
        case measure => simp [intOf]; omega
    · have hke : k = l.length := by omega
      subst hke
      have j1 : ¬ ((l.length : Nat) : Int) < (l.length : Int) := by omega
      have bk := (unhide HI).var
      have x0 : wo.cell? ⟨w.heap.size + 1 + 1 + 1, 0, none⟩ = some (.slice a l.length cap) := by simp [World.cell?, bk, stockCells]
      have HA := hide (unhide HI).asksRow
      have HM := hide (unhide HI).mid
      have HU := hide (unhide HI).nums
      clear HI bk
      go_wp2_with fail
      go_loopw [40] (fun i wr => ∃ (k : Nat), k ≤ l.length ∧ i = .int .i64 k ∧ Hid (Mid w a l cap room v D wr ∧ (0 < l.length → ∃ ag ac C, v = .slice (some ⟨ag, 0, none⟩) l.length ac ∧ Asks w l num k ag ac C wr))) (fun i _ => l.length - (intOf i).toNat)
      case atStart => exact ⟨0, Nat.zero_le _, rfl, unhide HM, unhide HA⟩
      case round =>
        clear HA HM x0
        rename World => wo
        obtain ⟨k, hk, rfl, HI⟩ := hrel
        by_cases hlt : k < l.length
        · have j1 : (k : Int) < (l.length : Int) := by omega
          obtain ⟨hM, hA⟩ := unhide HI
          obtain ⟨ag, ac, C, rfl, hAs⟩ := hA (by omega)
          clear HI hA
          obtain ⟨pm, hpp⟩ := unhide HP
          rcases hpp with hnil | ⟨pb, po, rfl, hpS, hpk⟩
          · rw [hnil] at hlt; simp at hlt
          obtain ⟨a1, c1, a2, c2, a3, c3, hcells, hval⟩ := hpk k hlt
          obtain ⟨n0, n1, n2, n3, n4, n5⟩ := hcells
          rw [← World.cell?_of_block (w := w) (a := ⟨pb, _, none⟩) (hM.below.block pb hpS)] at n0 n1 n2 n3 n4 n5
          have hz := hM.size
          have hps : pb < wo.heap.size := by have : pb < w.heap.size := hpS; omega
          have hagl : ag < wo.heap.size := (Array.getElem?_eq_some_iff.1 hAs.row).1
          have hfar := hAs.far
          have hkb : w.heap.size + 1 + 1 + 1 < wo.heap.size := by omega
          generalize hP : (l.getD k dPack) = P at n0 n1 n2 n3 n4 n5 hval
          have hnl := hval.len
          have HPP := hide hP
          have HVAL := hide hval
          have bk := hM.var
          have x3 : wo.cell? ⟨w.heap.size + 1 + 1 + 1, 3, none⟩ = some (.slice (some ⟨ag, 0, none⟩) l.length ac) := by simp [World.cell?, bk, stockCells]
          have HM := hide hM
          have HAs := hide hAs
          clear hP hpk hval bk hM hAs
          go_upto_region 11 with fail
          obtain ⟨W0, hW0⟩ : ∃ W0, W0 = wo.alloc (.cells #[.string P.name, .int .i64 P.ver, .int .i64 P.size, .slice a1 P.deps.length c1, .slice a2 P.pres.length c2, .slice a3 P.bans.length c3] 62) := ⟨_, rfl⟩
          rw [← hW0]
          have g0 : wo.grownBy W0 (some ag) := by rw [hW0]; exact World.grownBy_alloc _ _ _
          have z0 : W0.heap.size = wo.heap.size + 1 := by rw [hW0]; simp
          have pv0 : W0.heap[wo.heap.size]? = some (.cells #[.string P.name, .int .i64 P.ver, .int .i64 P.size, .slice a1 P.deps.length c1, .slice a2 P.pres.length c2, .slice a3 P.bans.length c3] 62) := by rw [hW0]; exact blk_alloc_new _ _
          have r0 : W0.heap[ag]? = some (.cells C 108 (0, 0)) := by rw [hW0]; exact (blk_alloc_lt _ _ _ hagl).trans (unhide HAs).row
          have M0 := (unhide HM).on hfar g0
          clear hW0 n0 n1 n2 n3 n4 n5 x3
          have ctx0 := M0.ctx (unhide HP) (unhide HU) hl r0 (unhide HAs).num
          have bk := M0.var
          have x0 : W0.cell? ⟨w.heap.size + 1 + 1 + 1, 0, none⟩ = some (.slice (some ⟨pb, po, none⟩) l.length cap) := by simp [World.cell?, bk, stockCells]
          have x1 : W0.cell? ⟨w.heap.size + 1 + 1 + 1, 1, none⟩ = some (.int .i64 room) := by simp [World.cell?, bk, stockCells]
          have x2 : W0.cell? ⟨w.heap.size + 1 + 1 + 1, 2, none⟩ = some (.map (some (w.heap.size + 1 + 1))) := by simp [World.cell?, bk, stockCells]
          have x3 : W0.cell? ⟨w.heap.size + 1 + 1 + 1, 3, none⟩ = some (.slice (some ⟨ag, 0, none⟩) l.length ac) := by simp [World.cell?, bk, stockCells]
          have y0 : W0.cell? ⟨wo.heap.size, 0, none⟩ = some (.string P.name) := by simp [World.cell?, pv0]
          have HC0 := hide ctx0
          have HR0 := hide r0
          have hw1 : ∀ w1, Below W0.heap.size W0 w1 → ∃ u, w1.cell? ⟨ag, k * 5 + 1, none⟩ = some u := fun w1 hb => by
            have e : w1.heap[ag]? = some (.cells C 108 (0, 0)) := (hb.block ag (by omega)).trans (unhide HR0)
            have hlt5 : k * 5 + 1 < C.size := by have := (unhide HAs).csz; have := (unhide HAs).cap; omega
            exact ⟨C[k * 5 + 1], by simp [World.cell?, e, hlt5]⟩
          have hf1 : ∀ w1, Below W0.heap.size W0 w1 → w1.frozen? ⟨ag, k * 5 + 1, none⟩ = false := fun w1 hb => by
            have e : w1.heap[ag]? = some (.cells C 108 (0, 0)) := (hb.block ag (by omega)).trans (unhide HR0)
            simp [World.frozen?, e]
          clear bk ctx0 r0
          go_upto_region 12 with (first
            | (go_at_call 62; refine ((unhide HC0).fit ⟨P.name, 0, 99⟩ hnl cap room ac).mono ?_; rintro e w1 ⟨rfl, hb1⟩; obtain ⟨u1, hu1⟩ := hw1 w1 hb1; have hfz1 := hf1 w1 hb1; have HB1 := hide hb1; clear hb1)
            | (go_at_call 63; refine (without_any _ k (preN_lt hl _) (by omega) _).mono ?_; rintro e w' ⟨rfl, hww⟩; obtain rfl := hww.symm))
          obtain ⟨W1, hW1⟩ : ∃ W1, W1 = w1.setCell ⟨ag, k * 5 + 1, none⟩ (.int .u64 ((preN l ⟨P.name, 0, 99⟩ &&& (18446744073709551615 - 2 ^ k) : Nat) : Int)) := ⟨_, rfl⟩
          rw [← hW1]
          have htw : preN l ⟨P.name, 0, 99⟩ &&& (18446744073709551615 - 2 ^ k) = twN l k := by
            unfold preN twN
            rw [without_bits _ _ _ (by omega) (by omega), unhide HPP]
          rw [htw] at hW1
          have R1 : Rs W0 W1 ag (C.setIfInBounds (k * 5 + 1) (.int .u64 ((twN l k : Nat) : Int))) := by
            rw [hW1]
            exact Rs.set (Rs.below ⟨⟨rfl, rfl, rfl, Nat.le_refl _, fun _ _ _ => rfl⟩, unhide HR0⟩ (unhide HB1)) _ _
          clear hW1 htw hw1 hf1 x0 x1 x2 x3 y0 hfz1 HB1 hu1
          have hcs := (unhide HAs).csz
          have hcc := (unhide HAs).cap
          have n1 : ∀ j, j < l.length → (C.setIfInBounds (k * 5 + 1) (.int .u64 ((twN l k : Nat) : Int)))[j * 5]? = some (.int .i64 (num.getD j 0)) := fun j hj => (set_other _ (by omega)).trans ((unhide HAs).num j hj)
          have M1 := M0.on hfar R1.grown
          have ctx1 := M1.ctx (unhide HP) (unhide HU) hl R1.row n1
          have bk := M1.var
          have x0 : W1.cell? ⟨w.heap.size + 1 + 1 + 1, 0, none⟩ = some (.slice (some ⟨pb, po, none⟩) l.length cap) := by simp [World.cell?, bk, stockCells]
          have x1 : W1.cell? ⟨w.heap.size + 1 + 1 + 1, 1, none⟩ = some (.int .i64 room) := by simp [World.cell?, bk, stockCells]
          have x2 : W1.cell? ⟨w.heap.size + 1 + 1 + 1, 2, none⟩ = some (.map (some (w.heap.size + 1 + 1))) := by simp [World.cell?, bk, stockCells]
          have x3 : W1.cell? ⟨w.heap.size + 1 + 1 + 1, 3, none⟩ = some (.slice (some ⟨ag, 0, none⟩) l.length ac) := by simp [World.cell?, bk, stockCells]
          have y5 : W1.cell? ⟨wo.heap.size, 5, none⟩ = some (.slice a3 P.bans.length c3) := by
            rw [World.cell?_of_block (w := W0) (a := ⟨wo.heap.size, 5, none⟩) (R1.grown.block wo.heap.size (by omega) (by simp; omega))]
            simp [World.cell?, pv0]
          have HC1 := hide ctx1
          have HR1 := hide R1
          have hbans := ((unhide HVAL).on M1.below).bans
          have hfz : ∀ w1, Below W1.heap.size W1 w1 → w1.frozen? ⟨ag, k * 5 + 2, none⟩ = false := fun w1 hb => ((unhide HR1).below hb).frozen _
          have hcl : ∀ w1, Below W1.heap.size W1 w1 → ∃ u, w1.cell? ⟨ag, k * 5 + 2, none⟩ = some u := fun w1 hb => by
            rw [((unhide HR1).below hb).cell, set_other _ (by omega)]
            exact ⟨C[k * 5 + 2]'(by omega), by simp⟩
          clear bk ctx1 R1 n1 M1
          go_upto_region 13 with (first
            | (go_at_call 64; refine ((unhide HC1).fitAny a3 P.bans c3 hbans cap room ac).mono ?_; rintro e w1 ⟨rfl, hb1⟩; obtain ⟨u1, hu1⟩ := hcl w1 hb1; have hfz1 := hfz w1 hb1; have HB1 := hide hb1; clear hb1)
            | (go_at_call 63; refine (without_any _ k (rowN_lt hl _) (by omega) _).mono ?_; rintro e w' ⟨rfl, hww⟩; obtain rfl := hww.symm))
          obtain ⟨W2, hW2⟩ : ∃ W2, W2 = w1.setCell ⟨ag, k * 5 + 2, none⟩ (.int .u64 ((rowN l P.bans &&& (18446744073709551615 - 2 ^ k) : Nat) : Int)) := ⟨_, rfl⟩
          rw [← hW2]
          have hbn : rowN l P.bans &&& (18446744073709551615 - 2 ^ k) = bnN l k := by
            unfold rowN bnN
            rw [without_bits _ _ _ (by omega) (by omega), unhide HPP]
          rw [hbn] at hW2
          obtain ⟨C2, hC2⟩ : ∃ C2, C2 = (C.setIfInBounds (k * 5 + 1) (.int .u64 ((twN l k : Nat) : Int))).setIfInBounds (k * 5 + 2) (.int .u64 ((bnN l k : Nat) : Int)) := ⟨_, rfl⟩
          have R2 : Rs W0 W2 ag C2 := by
            rw [hW2, hC2]
            exact Rs.set ((unhide HR1).below (unhide HB1)) _ _
          have s2 : C2.size = C.size := by rw [hC2]; simp
          have t1 : C2[k * 5 + 1]? = some (.int .u64 ((twN l k : Nat) : Int)) := by rw [hC2, set_other _ (by omega)]; exact set_same _ (by omega)
          have t2 : C2[k * 5 + 2]? = some (.int .u64 ((bnN l k : Nat) : Int)) := by rw [hC2]; exact set_same _ (by simp; omega)
          have t0 : ∀ o, o ≠ k * 5 + 1 → o ≠ k * 5 + 2 → C2[o]? = C[o]? := fun o h1 h2 => by rw [hC2, set_other _ (Ne.symm h2), set_other _ (Ne.symm h1)]
          clear hW2 hbn hC2 HR1 HB1 HC1 hfz hcl x0 x1 x2 x3 y5 hfz1 hu1 HC0 HR0 hbans
          have M2 := M0.on hfar R2.grown
          have y3 : W2.cell? ⟨wo.heap.size, 3, none⟩ = some (.slice a1 P.deps.length c1) := by
            rw [World.cell?_of_block (w := W0) (a := ⟨wo.heap.size, 3, none⟩) (R2.grown.block wo.heap.size (by omega) (by simp; omega))]
            simp [World.cell?, pv0]
          have z2 := R2.grown.size
          have pv2 : W2.heap[wo.heap.size]? = some (.cells #[.string P.name, .int .i64 P.ver, .int .i64 P.size, .slice a1 P.deps.length c1, .slice a2 P.pres.length c2, .slice a3 P.bans.length c3] 62) := (R2.grown.block wo.heap.size (by omega) (by simp; omega)).trans pv0
          have G2 : wo.grownBy W2 (some ag) := g0.trans R2.grown
          have r2 := R2.row
          have HT := hide (And.intro t1 (And.intro t2 (And.intro t0 s2)))
          have HM2 := hide M2
          have HG2 := hide G2
          have HPV := hide pv2
          have HR2 := hide r2
          have hagW : ag < W2.heap.size := by omega
          have hoW : wo.heap.size < W2.heap.size := by omega
          clear R2 M0 g0 z0 pv0 t0 t1 t2 s2 M2 G2 pv2 r2
          obtain ⟨i0, hi0, hz0, hz1, hz2⟩ := info_parts Try.infoBits
          have hdl := (h4 k hlt).1
          rw [unhide HPP] at hdl
          go_wp2_with fail
          go_loopw [71] (fun i wr => ∃ (j : Nat) (v : Value) (Cc : Array Value), j ≤ P.deps.length ∧ i = .int .i64 j ∧ Hid (Bld W2 ag (k * 5 + 3) C2 ((P.deps.take j).map (rowN l)) v Cc wr)) (fun i _ => P.deps.length - (intOf i).toNat)
          case atStart =>
            exact ⟨0, .slice none 0 0, C2, Nat.zero_le _, rfl, Bld.start (unhide HR2) ((unhide HT).2.2.1 _ (by omega) (by omega) |>.trans ((unhide HAs).todo k (Nat.le_refl _) hlt).1)⟩
          case round =>
            rename World => wx
            obtain ⟨j, v, Cc, hj, rfl, HB⟩ := hrel
            by_cases hjl : j < P.deps.length
            · have hNL : ((P.deps.take j).map (rowN l)).length = j := by simp; omega
              generalize hNS : (P.deps.take j).map (rowN l) = NS at HB hNL
              have HNS := hide hNS
              clear hNS
              have j2 : (j : Int) < (P.deps.length : Int) := by omega
              have hB := unhide HB
              have Mx := (unhide HM2).on hfar hB.rs.grown
              have hnx : ∀ i, i < l.length → Cc[i * 5]? = some (.int .i64 (num.getD i 0)) := fun i hi => (hB.other _ (by omega)).trans (((unhide HT).2.2.1 _ (by omega) (by omega)).trans ((unhide HAs).num i hi))
              have ctx := Mx.ctx (unhide HP) (unhide HU) hl hB.rs.row hnx
              rcases (unhide HVAL).deps.2 with hnil | ⟨db, dof, rfl, hdS, hdk⟩
              · rw [hnil] at hjl; simp at hjl
              obtain ⟨ra, rc, d0, hrq⟩ := hdk j hjl
              rw [← World.cell?_of_block (w := w) (a := ⟨db, dof + j, none⟩) (Mx.below.block db hdS)] at d0
              generalize hROW : P.deps.getD j [] = ROW at d0 hrq
              have hrq0 : ∀ x, Below w.heap.size w x → ReqsAt (Old x) x ra ROW := fun x hx => hrq.on hx
              have bk := Mx.var
              have x0 : wx.cell? ⟨w.heap.size + 1 + 1 + 1, 0, none⟩ = some (.slice (some ⟨pb, po, none⟩) l.length cap) := by simp [World.cell?, bk, stockCells]
              have x1 : wx.cell? ⟨w.heap.size + 1 + 1 + 1, 1, none⟩ = some (.int .i64 room) := by simp [World.cell?, bk, stockCells]
              have x2 : wx.cell? ⟨w.heap.size + 1 + 1 + 1, 2, none⟩ = some (.map (some (w.heap.size + 1 + 1))) := by simp [World.cell?, bk, stockCells]
              have x3 : wx.cell? ⟨w.heap.size + 1 + 1 + 1, 3, none⟩ = some (.slice (some ⟨ag, 0, none⟩) l.length ac) := by simp [World.cell?, bk, stockCells]
              have x4 : wx.cell? ⟨ag, k * 5 + 3, none⟩ = some v := (hB.rs.cell _).trans hB.here
              have HCX := hide ctx
              have HRQ := hide hrq0
              have HBW := hide Mx.below
              have HROW := hide hROW
              have hagx : ag < wx.heap.size := by have := hB.rs.grown.size; omega
              have hkx : w.heap.size + 1 + 1 + 1 < wx.heap.size := by have := hB.rs.grown.size; omega
              obtain ⟨va, vn, vc, rfl⟩ : ∃ va vn vc, v = .slice va vn vc := by
                rcases hB.own.2 with ⟨hv, _⟩ | ⟨g, cap', cur, hv, _⟩
                · exact ⟨_, _, _, hv⟩
                · exact ⟨_, _, _, hv⟩
              clear bk ctx hrq hrq0 hROW hdk Mx hnx hB
              go_upto_region 16 with fail
              have hblk : ∀ j, (Value.slice va vn vc).ownBlock = some j → W2.heap.size ≤ j := fun j hj => ((unhide HB).own.lt j hj).1
              have hW2 : w.heap.size + 1 + 1 + 1 + 1 ≤ W2.heap.size := by omega
              refine wp_region_chain (k := 100) 8 2 [.pointer (some ⟨ag, k * 5, none⟩), .pointer (some ⟨ag, k * 5, none⟩), .pointer (some ⟨ag, k * 5, none⟩), .pointer (some ⟨ag, k * 5 + 3, none⟩), .slice va vn vc, .agg #[.slice (some ⟨pb, po, none⟩) l.length cap, .int .i64 room, .map (some (w.heap.size + 1 + 1)), .slice (some ⟨ag, 0, none⟩) l.length ac], .slice ra ROW.length rc, .int .u64 ((rowN l ROW : Nat) : Int)] (C6 wx W2.heap.size (.slice va vn vc) NS (rowN l ROW)) (by kernel_rfl) (by kernel_rfl) (by kernel_rfl) (by kernel_rfl) (by kernel_rfl) (by kernel_rfl) ⟨⟨rfl, rfl, rfl, Nat.le_refl _, fun _ _ _ => rfl⟩, (fun _ => (unhide HB).own), (fun y h => by cases h), (fun y z h => by cases h)⟩ ?_ ?_ ?_
              · intro full hfull i o hi ho x b u hC hb
                simp [putAll, slotOf, Act.put] at hfull
                subst hfull
                have hq : ∀ b o, b < W2.heap.size → x.cell? ⟨b, o, none⟩ = wx.cell? ⟨b, o, none⟩ := fun b o hb => World.cell?_of_block (w := wx) (a := ⟨b, o, none⟩) (hC.grown.block b (by have := (unhide HB).rs.grown.size; omega) (fun e => by have := hblk b e.symm; omega))
                rw [← hq _ _ (by omega)] at x0 x1 x2 x3
                rw [← hq _ _ (by omega)] at x4
                clear hq
                match i with
                | 0 => simp at ho; subst ho; go_simp; first | done | exact ⟨rfl, hC.on (Below.refl _ _)⟩ | exact hC.on (Below.refl _ _)
                | 1 => simp at ho; subst ho; go_simp; first | done | exact ⟨rfl, hC.on (Below.refl _ _)⟩ | exact hC.on (Below.refl _ _)
                | 2 => simp at ho; subst ho; go_simp; first | done | exact ⟨rfl, hC.on (Below.refl _ _)⟩ | exact hC.on (Below.refl _ _)
                | 3 => simp at ho; subst ho; go_simp; first | done | exact ⟨rfl, hC.on (Below.refl _ _)⟩ | exact hC.on (Below.refl _ _)
                | 4 => simp at ho; subst ho; go_simp; first | done | exact ⟨rfl, hC.on (Below.refl _ _)⟩ | exact hC.on (Below.refl _ _)
                | 5 => simp at ho; subst ho; go_simp; first | done | exact ⟨rfl, hC.on (Below.refl _ _)⟩ | exact hC.on (Below.refl _ _)
                | 6 => simp at ho; subst ho; go_simp; first | done | exact ⟨rfl, hC.on (Below.refl _ _)⟩ | exact hC.on (Below.refl _ _)
                | 7 =>
                  simp at ho
                  subst ho
                  go_simp
                  have bx : Below w.heap.size w x := (unhide HBW).trans ⟨hC.grown.os, hC.grown.tape, hC.grown.output, hC.grown.size, fun b hb => hC.grown.block b (by have := (unhide HBW).size; omega) (fun e => by have := hblk b e.symm; omega)⟩
                  have cx := (unhide HCX).far hC.grown hblk (by omega) (by omega) ((unhide HP).on bx)
                  refine (cx.fitAny ra ROW rc (unhide HRQ x bx) cap room ac).mono ?_
                  rintro e w' ⟨rfl, hb2⟩
                  go_simp
                  first | done | exact ⟨rfl, hC.on hb2⟩ | exact hC.on hb2
                | i + 8 => omega
              · intro full hfull us hus o ho x b hC
                simp [putAll, slotOf, Act.put] at hfull
                subst hfull
                match us with
                | [] =>
                  simp at ho
                  subst ho
                  simp only [putS]
                  go_simp
                  have hC' := hC.on (b' := b) ((Below.refl x.heap.size x).alloc (Nat.le_refl _) (.cells #[.int .u64 ((rowN l ROW : Nat) : Int)] 70))
                  refine ⟨hC'.grown, (fun _ => hC'.own (by simp)), (fun y hy => ?_), (fun y z h => by cases h)⟩
                  cases hy
                  exact ⟨x.heap.size, rfl, blk_alloc_new _ _⟩
                | [y] =>
                  simp at ho
                  subst ho
                  obtain ⟨g1, rfl, hC1⟩ := hC.fresh y rfl
                  have hnews : ∀ (i : Nat) (u : Value), [Value.int .u64 ((rowN l ROW : Nat) : Int)][i]? = some u → x.cell? ((⟨g1, 0, none⟩ : Addr).add i) = some u := fun i u hu => by
                    match i, hu with
                    | 0, hu => simp at hu; subst hu; simp [Addr.add, World.cell?, hC1]
                  have hlen : NS.length ≤ 4 := by omega
                  obtain ⟨v', w', hr, h2, h3, _, _⟩ := run_append_own_at (P := Try.prog) x W2.heap.size 106 106 70 i0 (.int .u64 0) 1 8 Try.underlying106 hi0 hz0 hz1 hz2 rfl (by decide) (.slice va vn vc) _ _ (hC.own (by simp)) ⟨g1, 0, none⟩ 1 1 [.int .u64 ((rowN l ROW : Nat) : Int)] rfl hnews (by intro u hu; simp at hu; subst hu; rfl) (by unfold maxLen; omega) (by omega) (by have := (unhide HB).rs.grown.size; have := hC.grown.size; omega)
                  refine wp_append_runV _ _ 106 rfl (.slice va vn vc) (.slice (some ⟨g1, 0, none⟩) 1 1) v' w' ?_ ?_ hr ⟨v', rfl, ⟨hC.grown.trans h3, (fun h => by simp at h), (fun z hz => by cases hz), (fun z u hz => by cases hz; exact h2)⟩⟩
                  · simp [putS, slotOf, Act.put, Act.eval]
                  · simp [putS, slotOf, Act.put, Act.eval]
                | _ :: _ :: _ => simp at hus; omega
              · intro full hfull us w3 hus hC
                simp [putAll, slotOf, Act.put] at hfull
                subst hfull
                match us, hus with
                | [y, v'], _ =>
                have hown' := hC.done y v' rfl
                have hgrow := hC.grown
                have hst := (unhide HB).step hagW hgrow hown'
                have hc3 : ∃ u, w3.cell? ⟨ag, k * 5 + 3, none⟩ = some u := by
                  rw [World.cell?_of_block (w := wx) (a := ⟨ag, k * 5 + 3, none⟩) (hgrow.block ag hagx (fun e => by have := hblk ag e.symm; omega)), (unhide HB).rs.cell]
                  exact ⟨_, (unhide HB).here⟩
                have hf3 : w3.frozen? ⟨ag, k * 5 + 3, none⟩ = false := by
                  rw [World.frozen?_of_block (w := wx) (a := ⟨ag, k * 5 + 3, none⟩) (hgrow.block ag hagx (fun e => by have := hblk ag e.symm; omega)), (unhide HB).rs.frozen]
                obtain ⟨u3, hc3⟩ := hc3
                have HST := hide hst
                clear hst hown' hgrow hC x0 x1 x2 x3 x4
                obtain ⟨va', vn', vc', rfl⟩ : ∃ va vn vc, v' = .slice va vn vc := by
                  rcases (unhide HST).own.2 with ⟨hv, _⟩ | ⟨g, cap', cur, hv, _⟩
                  · exact ⟨_, _, _, hv⟩
                  · exact ⟨_, _, _, hv⟩
                simp [putS, slotOf, Act.put]
                go_wp2_with fail
                go_roundw
                case rel =>
                  refine ⟨j + 1, .slice va' vn' vc', Cc.setIfInBounds (k * 5 + 3) (.slice va' vn' vc'), by omega, by go_num, ?_⟩
                  have e : (P.deps.take (j + 1)).map (rowN l) = NS ++ [rowN l ROW] := by
                    rw [← unhide HNS, List.take_succ_eq_append_getElem hjl, List.map_append, ← unhide HROW]
                    simp [List.getD, hjl]
                  rw [e]
                  exact unhide HST
                case measure => simp [intOf]; omega
            · have hjl' : j = P.deps.length := by omega
              subst hjl'
              have j2 : ¬ ((P.deps.length : Nat) : Int) < (P.deps.length : Int) := by omega
              rw [List.take_length] at HB
              have hB := unhide HB
              have G3 := (unhide HG2).trans hB.rs.grown
              have M3 := (unhide HM2).on hfar hB.rs.grown
              have zx := hB.rs.grown.size
              have pv3 : wx.heap[wo.heap.size]? = some (.cells #[.string P.name, .int .i64 P.ver, .int .i64 P.size, .slice a1 P.deps.length c1, .slice a2 P.pres.length c2, .slice a3 P.bans.length c3] 62) := (hB.rs.grown.block wo.heap.size (by omega) (by simp; omega)).trans (unhide HPV)
              have y4 : wx.cell? ⟨wo.heap.size, 4, none⟩ = some (.slice a2 P.pres.length c2) := by simp [World.cell?, pv3]
              have hrows := BitsAt.of_row hB.own hagW
              have hT := unhide HT
              have t1 : Cc[k * 5 + 1]? = some (.int .u64 ((twN l k : Nat) : Int)) := (hB.other _ (by omega)).trans hT.1
              have t2 : Cc[k * 5 + 2]? = some (.int .u64 ((bnN l k : Nat) : Int)) := (hB.other _ (by omega)).trans hT.2.1
              have t0 : ∀ o, o ≠ k * 5 + 1 → o ≠ k * 5 + 2 → o ≠ k * 5 + 3 → Cc[o]? = C[o]? := fun o h1 h2 h3 => (hB.other _ (Ne.symm h3)).trans (hT.2.2.1 o h1 h2)
              have HT3 := hide (And.intro t1 (And.intro t2 (And.intro hB.here (And.intro t0 (hB.size.trans hT.2.2.2)))))
              have HRW := hide hrows
              have HM3 := hide M3
              have HG3 := hide G3
              have HR3 := hide hB.rs.row
              have hagX : ag < wx.heap.size := by omega
              have hpl := (h4 k hlt).2
              rw [unhide HPP] at hpl
              clear hB G3 M3 pv3 hrows hT t0 t1 t2 HB HT HM2 HG2 HR2 HPV y3
              go_wp2_with fail
              go_loopw [91] (fun i wr => ∃ (j : Nat) (v : Value) (C4 : Array Value), j ≤ P.pres.length ∧ i = .int .i64 j ∧ Hid (Bld wx ag (k * 5 + 4) Cc ((P.pres.take j).map (preN l)) v C4 wr)) (fun i _ => P.pres.length - (intOf i).toNat)
              case atStart =>
                exact ⟨0, .slice none 0 0, Cc, Nat.zero_le _, rfl, Bld.start (unhide HR3) ((unhide HT3).2.2.2.1 _ (by omega) (by omega) (by omega) |>.trans ((unhide HAs).todo k (Nat.le_refl _) hlt).2)⟩
              case round =>
                rename World => wy
                obtain ⟨j, v4, C4, hj, rfl, HB⟩ := hrel
                by_cases hjl : j < P.pres.length
                · have hNL : ((P.pres.take j).map (preN l)).length = j := by simp; omega
                  generalize hNS : (P.pres.take j).map (preN l) = NS at HB hNL
                  have HNS := hide hNS
                  clear hNS
                  have j2 : (j : Int) < (P.pres.length : Int) := by omega
                  have hB := unhide HB
                  have My := (unhide HM3).on hfar hB.rs.grown
                  have zy := hB.rs.grown.size
                  rcases (unhide HVAL).pres.2 with hnil | ⟨db, dof, rfl, hdS, hdk⟩
                  · rw [hnil] at hjl; simp at hjl
                  obtain ⟨d0, d1, d2, hql⟩ := hdk j hjl
                  have hdw : db < w.heap.size := hdS
                  rw [← World.cell?_of_block (w := w) (a := ⟨db, _, none⟩) (My.below.block db hdS)] at d0 d1 d2
                  generalize hQQ : P.pres.getD j dReq = Q at d0 d1 d2 hql
                  have HQQ := hide hQQ
                  have hdb : db < wy.heap.size := by omega
                  obtain ⟨va, vn, vc, rfl⟩ : ∃ va vn vc, v4 = .slice va vn vc := by
                    rcases hB.own.2 with ⟨hv, _⟩ | ⟨g, cap', cur, hv, _⟩
                    · exact ⟨_, _, _, hv⟩
                    · exact ⟨_, _, _, hv⟩
                  have HMY := hide My
                  clear hdk hQQ hB My
                  go_upto_region 21 with fail
                  obtain ⟨wq, hwq⟩ : ∃ wq, wq = wy.alloc (.cells #[.string Q.name, .int .i64 Q.low, .int .i64 Q.high] 90) := ⟨_, rfl⟩
                  rw [← hwq]
                  have bq : Below wy.heap.size wy wq := by rw [hwq]; exact (Below.refl _ _).alloc (Nat.le_refl _) _
                  have zq : wq.heap.size = wy.heap.size + 1 := by rw [hwq]; simp
                  have q0 : wq.cell? ⟨wy.heap.size, 0, none⟩ = some (.string Q.name) := by rw [hwq]; simp
                  have q1 : wq.cell? ⟨wy.heap.size, 1, none⟩ = some (.int .i64 Q.low) := by rw [hwq]; simp
                  have q2 : wq.cell? ⟨wy.heap.size, 2, none⟩ = some (.int .i64 Q.high) := by rw [hwq]; simp
                  have HGQ : Hid (wy.grownBy wq (Value.slice va vn vc).ownBlock) := by
                    rw [hwq]
                    exact World.grownBy_alloc _ _ _
                  clear hwq d0 d1 d2
                  have hB := unhide HB
                  have HOQ := hide (ownsRow_on hB.own bq)
                  have Rq := hB.rs.below bq
                  have Mq := (unhide HM3).on hfar Rq.grown
                  have hnx : ∀ i, i < l.length → C4[i * 5]? = some (.int .i64 (num.getD i 0)) := fun i hi => (hB.other _ (by omega)).trans (((unhide HT3).2.2.2.1 _ (by omega) (by omega) (by omega)).trans ((unhide HAs).num i hi))
                  have ctx := Mq.ctx (unhide HP) (unhide HU) hl Rq.row hnx
                  have bk := Mq.var
                  have x0 : wq.cell? ⟨w.heap.size + 1 + 1 + 1, 0, none⟩ = some (.slice (some ⟨pb, po, none⟩) l.length cap) := by simp [World.cell?, bk, stockCells]
                  have x1 : wq.cell? ⟨w.heap.size + 1 + 1 + 1, 1, none⟩ = some (.int .i64 room) := by simp [World.cell?, bk, stockCells]
                  have x2 : wq.cell? ⟨w.heap.size + 1 + 1 + 1, 2, none⟩ = some (.map (some (w.heap.size + 1 + 1))) := by simp [World.cell?, bk, stockCells]
                  have x3 : wq.cell? ⟨w.heap.size + 1 + 1 + 1, 3, none⟩ = some (.slice (some ⟨ag, 0, none⟩) l.length ac) := by simp [World.cell?, bk, stockCells]
                  have x4 : wq.cell? ⟨ag, k * 5 + 4, none⟩ = some (.slice va vn vc) := (Rq.cell _).trans hB.here
                  have hqne : (Value.slice va vn vc).ownBlock ≠ some wy.heap.size := fun e => by have := (hB.own.lt _ e).2; omega
                  have HCX := hide ctx
                  have HBW := hide Mq.below
                  have hagq : ag < wy.heap.size := by omega
                  clear bk ctx hnx hB Mq Rq
                  have hblk : ∀ j, (Value.slice va vn vc).ownBlock = some j → wx.heap.size ≤ j := fun j hj => ((unhide HB).own.lt j hj).1
                  have hW3 : w.heap.size + 1 + 1 + 1 + 1 ≤ wx.heap.size := by omega
                  refine wp_region_chain (k := 100) 8 2 [.pointer (some ⟨ag, k * 5, none⟩), .pointer (some ⟨ag, k * 5, none⟩), .pointer (some ⟨ag, k * 5, none⟩), .pointer (some ⟨ag, k * 5 + 4, none⟩), .slice va vn vc, .agg #[.slice (some ⟨pb, po, none⟩) l.length cap, .int .i64 room, .map (some (w.heap.size + 1 + 1)), .slice (some ⟨ag, 0, none⟩) l.length ac], .agg #[.string Q.name, .int .i64 Q.low, .int .i64 Q.high], .int .u64 ((preN l Q : Nat) : Int)] (C6 wq wx.heap.size (.slice va vn vc) NS (preN l Q)) (by kernel_rfl) (by kernel_rfl) (by kernel_rfl) (by kernel_rfl) (by kernel_rfl) (by kernel_rfl) ⟨⟨rfl, rfl, rfl, Nat.le_refl _, fun _ _ _ => rfl⟩, (fun _ => unhide HOQ), (fun y h => by cases h), (fun y z h => by cases h)⟩ ?_ ?_ ?_
                  · intro full hfull i o hi ho x b u hC hb
                    simp [putAll, slotOf, Act.put] at hfull
                    subst hfull
                    have hq : ∀ b o, b < wx.heap.size → x.cell? ⟨b, o, none⟩ = wq.cell? ⟨b, o, none⟩ := fun b o hb => World.cell?_of_block (w := wq) (a := ⟨b, o, none⟩) (hC.grown.block b (by have := (unhide HB).rs.grown.size; omega) (fun e => by have := hblk b e.symm; omega))
                    rw [← hq _ _ (by omega)] at x0 x1 x2 x3
                    rw [← hq _ _ (by omega)] at x4
                    have hqv : ∀ o, x.cell? ⟨wy.heap.size, o, none⟩ = wq.cell? ⟨wy.heap.size, o, none⟩ := fun o => World.cell?_of_block (w := wq) (a := ⟨wy.heap.size, o, none⟩) (hC.grown.block wy.heap.size (by omega) (fun e => hqne e.symm))
                    rw [← hqv] at q0 q1 q2
                    clear hq
                    match i with
                    | 0 => simp at ho; subst ho; go_simp; first | done | exact ⟨rfl, hC.on (Below.refl _ _)⟩ | exact hC.on (Below.refl _ _)
                    | 1 => simp at ho; subst ho; go_simp; first | done | exact ⟨rfl, hC.on (Below.refl _ _)⟩ | exact hC.on (Below.refl _ _)
                    | 2 => simp at ho; subst ho; go_simp; first | done | exact ⟨rfl, hC.on (Below.refl _ _)⟩ | exact hC.on (Below.refl _ _)
                    | 3 => simp at ho; subst ho; go_simp; first | done | exact ⟨rfl, hC.on (Below.refl _ _)⟩ | exact hC.on (Below.refl _ _)
                    | 4 => simp at ho; subst ho; go_simp; first | done | exact ⟨rfl, hC.on (Below.refl _ _)⟩ | exact hC.on (Below.refl _ _)
                    | 5 => simp at ho; subst ho; go_simp; first | done | exact ⟨rfl, hC.on (Below.refl _ _)⟩ | exact hC.on (Below.refl _ _)
                    | 6 => simp at ho; subst ho; go_simp; first | done | exact ⟨rfl, hC.on (Below.refl _ _)⟩ | exact hC.on (Below.refl _ _)
                    | 7 =>
                      simp at ho
                      subst ho
                      go_simp
                      have bx : Below w.heap.size w x := (unhide HBW).trans ⟨hC.grown.os, hC.grown.tape, hC.grown.output, hC.grown.size, fun b hb => hC.grown.block b (by have := (unhide HBW).size; omega) (fun e => by have := hblk b e.symm; omega)⟩
                      have cx := (unhide HCX).far hC.grown hblk (by omega) (by omega) ((unhide HP).on bx)
                      refine (cx.fit Q hql cap room ac).mono ?_
                      rintro e w' ⟨rfl, hb2⟩
                      go_simp
                      first | done | exact ⟨rfl, hC.on hb2⟩ | exact hC.on hb2
                    | i + 8 => omega
                  · intro full hfull us hus o ho x b hC
                    simp [putAll, slotOf, Act.put] at hfull
                    subst hfull
                    match us with
                    | [] =>
                      simp at ho
                      subst ho
                      simp only [putS]
                      go_simp
                      have hC' := hC.on (b' := b) ((Below.refl x.heap.size x).alloc (Nat.le_refl _) (.cells #[.int .u64 ((preN l Q : Nat) : Int)] 70))
                      refine ⟨hC'.grown, (fun _ => hC'.own (by simp)), (fun y hy => ?_), (fun y z h => by cases h)⟩
                      cases hy
                      exact ⟨x.heap.size, rfl, blk_alloc_new _ _⟩
                    | [y] =>
                      simp at ho
                      subst ho
                      obtain ⟨g1, rfl, hC1⟩ := hC.fresh y rfl
                      have hnews : ∀ (i : Nat) (u : Value), [Value.int .u64 ((preN l Q : Nat) : Int)][i]? = some u → x.cell? ((⟨g1, 0, none⟩ : Addr).add i) = some u := fun i u hu => by
                        match i, hu with
                        | 0, hu => simp at hu; subst hu; simp [Addr.add, World.cell?, hC1]
                      have hlen : NS.length ≤ 4 := by omega
                      obtain ⟨v', w', hr, h2, h3, _, _⟩ := run_append_own_at (P := Try.prog) x wx.heap.size 106 106 70 i0 (.int .u64 0) 1 8 Try.underlying106 hi0 hz0 hz1 hz2 rfl (by decide) (.slice va vn vc) _ _ (hC.own (by simp)) ⟨g1, 0, none⟩ 1 1 [.int .u64 ((preN l Q : Nat) : Int)] rfl hnews (by intro u hu; simp at hu; subst hu; rfl) (by unfold maxLen; omega) (by omega) (by have := (unhide HB).rs.grown.size; have := hC.grown.size; omega)
                      refine wp_append_runV _ _ 106 rfl (.slice va vn vc) (.slice (some ⟨g1, 0, none⟩) 1 1) v' w' ?_ ?_ hr ⟨v', rfl, ⟨hC.grown.trans h3, (fun h => by simp at h), (fun z hz => by cases hz), (fun z u hz => by cases hz; exact h2)⟩⟩
                      · simp [putS, slotOf, Act.put, Act.eval]
                      · simp [putS, slotOf, Act.put, Act.eval]
                    | _ :: _ :: _ => simp at hus; omega
                  · intro full hfull us w3 hus hC
                    simp [putAll, slotOf, Act.put] at hfull
                    subst hfull
                    match us, hus with
                    | [y, v'], _ =>
                    have hown' := hC.done y v' rfl
                    have hgrow := (unhide HGQ).trans hC.grown
                    have hst := (unhide HB).step hagX hgrow hown'
                    have hc3 : ∃ u, w3.cell? ⟨ag, k * 5 + 4, none⟩ = some u := by
                      rw [World.cell?_of_block (w := wy) (a := ⟨ag, k * 5 + 4, none⟩) (hgrow.block ag hagq (fun e => by have := hblk ag e.symm; omega)), (unhide HB).rs.cell]
                      exact ⟨_, (unhide HB).here⟩
                    have hf3 : w3.frozen? ⟨ag, k * 5 + 4, none⟩ = false := by
                      rw [World.frozen?_of_block (w := wy) (a := ⟨ag, k * 5 + 4, none⟩) (hgrow.block ag hagq (fun e => by have := hblk ag e.symm; omega)), (unhide HB).rs.frozen]
                    obtain ⟨u3, hc3⟩ := hc3
                    have HST := hide hst
                    clear hst hown' hgrow hC x0 x1 x2 x3 x4 q0 q1 q2
                    obtain ⟨va', vn', vc', rfl⟩ : ∃ va vn vc, v' = .slice va vn vc := by
                      rcases (unhide HST).own.2 with ⟨hv, _⟩ | ⟨g, cap', cur, hv, _⟩
                      · exact ⟨_, _, _, hv⟩
                      · exact ⟨_, _, _, hv⟩
                    simp [putS, slotOf, Act.put]
                    go_wp2_with fail
                    go_roundw
                    case rel =>
                      refine ⟨j + 1, .slice va' vn' vc', C4.setIfInBounds (k * 5 + 4) (.slice va' vn' vc'), by omega, by go_num, ?_⟩
                      have e : (P.pres.take (j + 1)).map (preN l) = NS ++ [preN l Q] := by
                        rw [← unhide HNS, List.take_succ_eq_append_getElem hjl, List.map_append, ← unhide HQQ]
                        simp [List.getD, hjl]
                      rw [e]
                      exact unhide HST
                    case measure => simp [intOf]; omega
                · have hjl' : j = P.pres.length := by omega
                  subst hjl'
                  have j2 : ¬ ((P.pres.length : Nat) : Int) < (P.pres.length : Int) := by omega
                  rw [List.take_length] at HB
                  go_wp2_with fail
                  go_roundw
                  case rel =>
                    have hB := unhide HB
                    have hT := unhide HT3
                    have hAs := unhide HAs
                    have hG := (unhide HG3).trans hB.rs.grown
                    refine ⟨k + 1, by omega, by go_num, (unhide HM3).on hfar hB.rs.grown, fun _ => ⟨ag, ac, C4, rfl, ⟨hfar, hB.rs.row, hB.size.trans (hT.2.2.2.2.trans hAs.csz), hAs.cap, fun i hi => ?_, fun i hi => ?_, fun i h1 h2 => ?_⟩⟩⟩
                    · exact (hB.other _ (by omega)).trans ((hT.2.2.2.1 _ (by omega) (by omega) (by omega)).trans (hAs.num i hi))
                    · by_cases e : i = k
                      · subst e
                        refine ⟨(hB.other _ (by omega)).trans hT.1, (hB.other _ (by omega)).trans hT.2.1, ⟨_, (hB.other _ (by omega)).trans hT.2.2.1, ?_⟩, ⟨_, hB.here, ?_⟩⟩
                        · rw [unhide HPP]; exact (unhide HRW).on hB.rs.grown
                        · rw [unhide HPP]; exact BitsAt.of_row hB.own hagX
                      · exact (hAs.done i (by omega)).on hG fun o h1 h2 => (hB.other _ (by omega)).trans (hT.2.2.2.1 _ (by omega) (by omega) (by omega))
                    · obtain ⟨s3, s4⟩ := hAs.todo i (by omega) h2
                      exact ⟨(hB.other _ (by omega)).trans ((hT.2.2.2.1 _ (by omega) (by omega) (by omega)).trans s3), (hB.other _ (by omega)).trans ((hT.2.2.2.1 _ (by omega) (by omega) (by omega)).trans s4)⟩
                  case measure => simp [intOf]; omega
        · have hke : k = l.length := by omega
          subst hke
          have j1 : ¬ ((l.length : Nat) : Int) < (l.length : Int) := by omega
          obtain ⟨hM, hA⟩ := unhide HI
          have bk := hM.var
          obtain ⟨va, vc, rfl⟩ : ∃ va vc, v = .slice va l.length vc := by
            exact hM.slice
          have x0 : wo.cell? ⟨w.heap.size + 1 + 1 + 1, 0, none⟩ = some (.slice a l.length cap) := by simp [World.cell?, bk, stockCells]
          have x1 : wo.cell? ⟨w.heap.size + 1 + 1 + 1, 1, none⟩ = some (.int .i64 room) := by simp [World.cell?, bk, stockCells]
          have x2 : wo.cell? ⟨w.heap.size + 1 + 1 + 1, 2, none⟩ = some (.map (some (w.heap.size + 1 + 1))) := by simp [World.cell?, bk, stockCells]
          have x3 : wo.cell? ⟨w.heap.size + 1 + 1 + 1, 3, none⟩ = some (.slice va l.length vc) := by simp [World.cell?, bk, stockCells]
          obtain ⟨RC, hRC, hRs⟩ := hM.res
          obtain ⟨r0, r1, r2, r3, rfl⟩ : ∃ r0 r1 r2 r3, RC = #[r0, r1, r2, r3] := by
            match RC, hRs with
            | ⟨[r0, r1, r2, r3]⟩, _ => exact ⟨r0, r1, r2, r3, rfl⟩
          have c0 : wo.cell? ⟨w.heap.size + 1, 0, none⟩ = some r0 := by simp [World.cell?, hRC]
          have c1 : wo.cell? ⟨w.heap.size + 1, 1, none⟩ = some r1 := by simp [World.cell?, hRC]
          have c2 : wo.cell? ⟨w.heap.size + 1, 2, none⟩ = some r2 := by simp [World.cell?, hRC]
          have c3 : wo.cell? ⟨w.heap.size + 1, 3, none⟩ = some r3 := by simp [World.cell?, hRC]
          have f0 : ∀ i, wo.frozen? ⟨w.heap.size + 1, i, none⟩ = false := fun i => by simp [World.frozen?, hRC]
          have f00 := f0 0
          have f01 := f0 1
          have f02 := f0 2
          have f03 := f0 3
          have HMH := hide hM
          have HAH := hide hA
          have HRC := hide hRC
          clear f0 bk hRC hM hA
          go_wp2_with fail
          obtain ⟨W', hW'⟩ : ∃ W', W' = ((((wo.setCell ⟨w.heap.size + 1, 0, none⟩ (.slice a l.length cap)).setCell ⟨w.heap.size + 1, 1, none⟩ (.int .i64 room)).setCell ⟨w.heap.size + 1, 2, none⟩ (.map (some (w.heap.size + 1 + 1)))).setCell ⟨w.heap.size + 1, 3, none⟩ (.slice va l.length vc)) := ⟨_, rfl⟩
          have hB' : W'.heap[w.heap.size + 1]? = some (.cells #[.slice a l.length cap, .int .i64 room, .map (some (w.heap.size + 1 + 1)), .slice va l.length vc] 68 (0, 0)) := by
            rw [hW', blk_set (blk_set (blk_set (blk_set (unhide HRC) 0 _) 1 _) 2 _) 3 _]
            rfl
          have e0 : W'.cell? ⟨w.heap.size + 1, 0, none⟩ = some (.slice a l.length cap) := by simp [World.cell?, hB']
          have e1 : W'.cell? ⟨w.heap.size + 1, 1, none⟩ = some (.int .i64 room) := by simp [World.cell?, hB']
          have e2 : W'.cell? ⟨w.heap.size + 1, 2, none⟩ = some (.map (some (w.heap.size + 1 + 1))) := by simp [World.cell?, hB']
          have e3 : W'.cell? ⟨w.heap.size + 1, 3, none⟩ = some (.slice va l.length vc) := by simp [World.cell?, hB']
          have hg : wo.grownBy W' (some (w.heap.size + 1)) := by
            rw [hW']
            refine ⟨rfl, rfl, rfl, by simp, fun b hb hne => ?_⟩
            have hb1 : b ≠ w.heap.size + 1 := fun e => hne (by rw [e])
            rw [blk_setCell_other _ _ _ _ hb1, blk_setCell_other _ _ _ _ hb1, blk_setCell_other _ _ _ _ hb1, blk_setCell_other _ _ _ _ hb1]
          rw [← hW']
          clear hW' c0 c1 c2 c3 x0 x1 x2 x3 f00 f01 f02 f03 hB'
          (try simp only [Exit.inBlock, Exit.then])
          refine bodyPost_ret (v := .agg #[.slice a l.length cap, .int .i64 room, .map (some (w.heap.size + 1 + 1)), .slice va l.length vc]) (by simp [results, Try.results38, go_sem, e0, e1, e2, e3]) rfl ?_
          have hM := unhide HMH
          have hbel : Below w.heap.size w W' := hM.below.trans ⟨hg.os, hg.tape, hg.output, hg.size, fun b hb => hg.block b (by have := hM.below.size; omega) (by simp; omega)⟩
          refine ⟨⟨w.heap.size + 1 + 1, .slice va l.length vc, rfl, ⟨⟨_, _, rfl⟩, fun hn => ?_⟩, fun hn ag' ac' hV' => ?_⟩, hbel⟩
          rotate_left
          · obtain ⟨ag, ac, C, hv, hAs⟩ := unhide HAH hn
            have hfar := hAs.far
            simp at hV' hv
            have e1 := hV'.1
            rw [hv.1] at e1
            simp at e1
            omega
          obtain ⟨ag, ac, C, hv, hAs⟩ := unhide HAH hn
          have hag := (Array.getElem?_eq_some_iff.1 hAs.row).1
          have hfar := hAs.far
          have hg' : ∀ b, b < wo.heap.size → w.heap.size + 1 < b → W'.heap[b]? = wo.heap[b]? := fun b h1 h2 => hg.block b h1 (by simp; omega)
          exact ⟨ag, ac, C, hv, (hg' ag hag (by omega)).trans hAs.row, fun j hj => ⟨_, hAs.num j hj⟩, fun j hj => (hAs.done j hj).far hg (by omega)⟩
end Go.Proofs.Ythkhaemlcmkkjay
