/- The specification's rounds: l11Val, l11Open, l11Close. The specification's rounds until nothing more follows: l11Close. What follows at once from literals: the specification's l11Known. What follows at once from literals: the specification's CnfUnits. -/
import Derived.Test.YthkhaemlcmkkjarGUp
import Derived.Test.YthkhaemlcmkkjarGFm
import Derived.Test.YthkhaemlcmkkjarGCn
import Derived.Test.YthkhaemlcmkkjarGFo
namespace Go.Proofs.Ythkhaemlcmkkjar
set_option linter.unusedVariables false
set_option linter.unusedSimpArgs false
open Go.RowKit Go.Deep Go.Sort

/-- What is known, in memory: so many numbers. -/
structure KnS (w : World) (g n : Nat) (K : Nat → Int) : Prop where
  cell : ∀ v, v < n → w.cell? ⟨g, v, none⟩ = some (.int .i64 (K v))
  fz : ∀ i, w.frozen? ⟨g, i, none⟩ = false
theorem KnS.kept {w w' : World} {g n : Nat} {K : Nat → Int} (h : KnS w g n K) (hb : w'.heap[g]? = w.heap[g]?) : KnS w' g n K :=
  ⟨fun v hv => (World.cell?_of_block (w := w) (a := ⟨g, v, none⟩) hb).trans (h.cell v hv), fun i => (World.frozen?_of_block (w := w) (a := ⟨g, i, none⟩) hb).trans (h.fz i)⟩
theorem KnS.set {w : World} {g n : Nat} {K : Nat → Int} (h : KnS w g n K) {v : Nat} (hv : v < n) (z : Int) : KnS (w.setCell ⟨g, v, none⟩ (.int .i64 z)) g n (fun u => if u = v then z else K u) := by
  refine ⟨fun u hu => ?_, fun i => by rw [setF_frozen]; exact h.fz i⟩
  by_cases e : u = v
  · subst e
    rw [setF_same (h.cell u hu)]
    simp
  · rw [setF_other e, h.cell u hu]
    simp [e]
theorem KnS.lt {w : World} {g n : Nat} {K : Nat → Int} (h : KnS w g n K) (hn : 0 < n) : g < w.heap.size := World.block_lt_of_cell? _ _ (h.cell 0 hn)
theorem wrap1 {k : Int} (h : k = 1 ∨ k = 0 ∨ k = -1) : IntKind.i64.wrap (-k) = -k := by
  rcases h with rfl | rfl | rfl <;> rfl

set_option maxHeartbeats 2000000 in
theorem l11Val_any (g n c : Nat) (K : Nat → Int) (ht : TriK K) (x : Int) (hx : x ≠ 0) (hn : x.natAbs < n) (hn4 : n ≤ 1000) (w : World) (h : KnS w g n K) :
    Calls Try.prog 75 #[.slice (some ⟨g, 0, none⟩) n c, .int .i64 x] w fun e w' => e = .returned (.int .i64 (valK K x)) ∧ w' = w := by
  have hc := h.cell x.natAbs hn
  have hw := wrap1 (ht x.natAbs)
  have HV := hide (show valK K x = if x < 0 then -K x.natAbs else K x.natAbs from rfl)
  generalize K x.natAbs = k at hc hw HV
  clear h
  obtain ⟨v, hv⟩ : ∃ v : Nat, v = x.natAbs := ⟨_, rfl⟩
  rw [← hv] at hc hn
  have v1 : (v : Int) < (n : Int) := by omega
  have v0 : (0 : Int) ≤ (v : Int) := by omega
  by_cases hx0 : 0 < x
  · have hxv : x = (v : Int) := by omega
    subst hxv
    clear hv
    go_enter Try.func75, Try.ntmps75
    go_wp2_with fail
    go_ret
    exact ⟨by rw [unhide HV, if_neg (by omega)]; rfl, rfl⟩
  · have hneg : IntKind.i64.wrap (-x) = (v : Int) := by rw [IntKind.wrap_i64]; omega
    have hxn : x < 0 := by omega
    clear hv
    go_enter Try.func75, Try.ntmps75
    go_wp2_with fail
    go_ret
    exact ⟨by rw [unhide HV, if_pos hxn]; rfl, rfl⟩
/-- What l11Open answers. -/
def OpP (K : Nat → Int) (l : List Int) (e : Ending) : Prop :=
  ((∃ x, x ∈ l ∧ valK K x = 1) ∧ e = .returned (.tuple #[.int .i64 (-1), .int .i64 0])) ∨
  ((∀ x, x ∈ l → valK K x ≠ 1) ∧ e = .returned (.tuple #[.int .i64 (((opnL K l).1 : Nat) : Int), .int .i64 (opnL K l).2]))

set_option maxHeartbeats 4000000 in
theorem l11Open_any (g n c : Nat) (K : Nat → Int) (ht : TriK K) (hn4 : n ≤ 1000) (a : Option Addr) (l : List Int) (cap : Nat) (hl4 : l.length ≤ 400) (hr : ∀ x, x ∈ l → x ≠ 0 ∧ x.natAbs < n) (w : World) (h : KnS w g n K) (hs : SetAt w a l) :
    Calls Try.prog 76 #[.slice (some ⟨g, 0, none⟩) n c, .slice a l.length cap] w fun e w' => OpP K l e ∧ w' = w := by
  obtain ⟨hm, hs⟩ := hs
  have HK := hide h
  have HT := hide (fun (_ : Unit) => ht)
  have HR := hide hr
  have HTK := hide (fun k (hk : k < l.length) => opnL_take K l hk)
  have HFW := hide (fun k => opnL_few K (l.take k))
  clear h ht hr
  go_enter Try.func76, Try.ntmps76
  go_wp2_with fail
  go_loopw [6, 7, 8] (fun nv ov kv wr => ∃ k : Nat, k ≤ l.length ∧ kv = .int .i64 k ∧ nv = .int .i64 (((opnL K (l.take k)).1 : Nat) : Int) ∧ ov = .int .i64 (opnL K (l.take k)).2 ∧ Hid (∀ x, x ∈ l.take k → valK K x ≠ 1) ∧ wr = w) (fun _ _ k _ => l.length - (intOf k).toNat)
  case atStart => exact ⟨0, Nat.zero_le _, rfl, rfl, rfl, fun x hx => by simp at hx, rfl⟩
  case round =>
    rename World => wo
    obtain ⟨k, hk, rfl, rfl, rfl, HN, hwo⟩ := hrel
    have hwo := hwo.symm
    subst hwo
    by_cases hlt : k < l.length
    · have j1 : (k : Int) < (l.length : Int) := by omega
      have j0 : (0 : Int) ≤ (k : Int) := by omega
      rcases hs with hs | ⟨b, o, rfl, hSb, hs⟩
      · subst hs; simp at hlt
      have c0 := hs k hlt
      have htk := unhide HTK k hlt
      have hmem := getD_mem (d := (0 : Int)) hlt
      have htake : ∀ x, x ∈ l.take (k + 1) → x ∈ l.take k ∨ x = l.getD k 0 := fun x hx => by
        rw [List.take_succ_eq_append_getElem hlt, List.mem_append, List.mem_singleton] at hx
        simpa [List.getD, hlt] using hx
      have hfw := unhide HFW k
      have hl5 : (l.take k).length ≤ 400 := by simp; omega
      obtain ⟨x, hx⟩ : ∃ x, x = l.getD k 0 := ⟨_, rfl⟩
      rw [← hx] at c0 htk hmem htake
      obtain ⟨hx0, hxn⟩ := unhide HR x hmem
      have HVA := hide (l11Val_any g n c K (unhide HT ()) x hx0 hxn hn4 w (unhide HK))
      have tri := valK_tri (unhide HT ()) x
      unfold opnF at htk
      obtain ⟨N, hNN⟩ : ∃ N, N = (opnL K (l.take k)).1 := ⟨_, rfl⟩
      obtain ⟨one, hon⟩ : ∃ one, one = (opnL K (l.take k)).2 := ⟨_, rfl⟩
      rw [← hNN] at htk hfw
      rw [← hon] at htk
      rw [← hNN, ← hon]
      have hpair : opnL K (l.take k) = (N, one) := by rw [hNN, hon]
      rw [hpair] at htk
      obtain ⟨z, hz⟩ : ∃ z, z = valK K x := ⟨_, rfl⟩
      rw [← hz] at HVA tri htk
      have HZ := hide hz
      have HMEM := hide hmem
      have HTAKE := hide htake
      clear hs hx hz hmem htake hNN hon hpair
      by_cases h1 : z = 1
      · have HP : Hid (OpP K l (.returned (.tuple #[.int .i64 (-1), .int .i64 0]))) := .inl ⟨⟨x, unhide HMEM, by rw [← unhide HZ]; exact h1⟩, rfl⟩
        subst h1
        clear htk tri
        go_wp2_with fail
        refine (unhide HVA).mono ?_
        rintro e w3 ⟨rfl, hww⟩
        have hww := hww.symm
        subst hww
        go_wp2_with fail
        exact bodyPost_ret (v := .tuple #[.int .i64 (-1), .int .i64 0]) (by simp [results, Try.results76, go_sem]) rfl ⟨unhide HP, rfl⟩
      · have h1b : (z == 1) = false := by rw [beq_eq_false_iff_ne]; exact h1
        have HN2 : Hid (∀ x, x ∈ l.take (k + 1) → valK K x ≠ 1) := fun y hy => by
          rcases unhide HTAKE y hy with h | h
          · exact unhide HN y h
          · rw [h, ← unhide HZ]; exact h1
        by_cases h0 : z = 0
        · subst h0
          by_cases he : x = one
          · have hne : (x != one) = false := by simp [he]
            rw [if_neg (fun hh => hh.2 he)] at htk
            have HTK2 := hide htk
            rw [he] at c0 HVA
            have hne2 : (one != one) = false := by simp
            clear htk tri hne
            go_wp2_with fail
            refine (unhide HVA).mono ?_
            rintro e w3 ⟨rfl, hww⟩
            have hww := hww.symm
            subst hww
            go_wp2_with fail
            go_roundw
            case rel => exact ⟨k + 1, by omega, by go_num, by rw [unhide HTK2], by rw [unhide HTK2], HN2, by first | rfl | trivial⟩
            case measure => simp [intOf]; omega
          · have hne : (x != one) = true := by simpa using he
            rw [if_pos ⟨rfl, he⟩] at htk
            have HTK2 := hide htk
            have hadd : IntKind.i64.wrap ((N : Int) + 1) = ((N + 1 : Nat) : Int) := by rw [IntKind.wrap_i64]; omega
            clear htk tri
            go_wp2_with fail
            refine (unhide HVA).mono ?_
            rintro e w3 ⟨rfl, hww⟩
            have hww := hww.symm
            subst hww
            go_wp2_with fail
            go_roundw
            case rel => exact ⟨k + 1, by omega, by go_num, by rw [unhide HTK2]; first | rfl | exact congrArg _ hadd | go_num, by rw [unhide HTK2], HN2, by first | rfl | trivial⟩
            case measure => simp [intOf]; omega
        · have h0b : (z == 0) = false := by rw [beq_eq_false_iff_ne]; exact h0
          rw [if_neg (fun hh => h0 hh.1)] at htk
          have HTK2 := hide htk
          clear htk tri
          go_wp2_with fail
          refine (unhide HVA).mono ?_
          rintro e w3 ⟨rfl, hww⟩
          have hww := hww.symm
          subst hww
          go_wp2_with fail
          go_roundw
          case rel => exact ⟨k + 1, by omega, by go_num, by rw [unhide HTK2], by rw [unhide HTK2], HN2, by first | rfl | trivial⟩
          case measure => simp [intOf]; omega
    · have j1 : ¬ (k : Int) < (l.length : Int) := by omega
      have hke : l.take k = l := List.take_of_length_le (by omega)
      rw [hke] at HN ⊢
      have HP : Hid (OpP K l (.returned (.tuple #[.int .i64 (((opnL K l).1 : Nat) : Int), .int .i64 (opnL K l).2]))) := .inr ⟨unhide HN, rfl⟩
      clear hke HN
      go_wp2_with fail
      exact bodyPost_ret (v := .tuple #[.int .i64 (((opnL K l).1 : Nat) : Int), .int .i64 (opnL K l).2]) (by simp [results, Try.results76, go_sem]) rfl ⟨unhide HP, rfl⟩
end Go.Proofs.Ythkhaemlcmkkjar

namespace Go.Proofs.Ythkhaemlcmkkjar
set_option linter.unusedVariables false
set_option linter.unusedSimpArgs false
open Go.RowKit Go.Deep Go.Sort

def isZ : Option Value → Bool
  | some (.int _ z) => decide (z = 0)
  | _ => false
/-- How many are open, in memory. -/
def openW (g n : Nat) (w : World) : Nat := ((List.range n).filter fun v => isZ (w.cell? ⟨g, v, none⟩)).length
theorem openW_eq {w : World} {g vars : Nat} {K : Nat → Int} (h : KnS w g (vars + 1) K) : openW g (vars + 1) w = openN vars K := by
  unfold openW openN
  congr 1
  refine List.filter_congr fun v hv => ?_
  rw [h.cell v (List.mem_range.1 hv)]
  rfl
/-- What l11Close leaves. -/
def ClP (vars : Nat) (cs : List (List Int)) (ls : List Int) (g : Nat) (w : World) (e : Ending) (w' : World) : Prop :=
  ∃ K, KnS w' g (vars + 1) K ∧ KInv vars cs ls K ∧ w.grownBy w' (some g) ∧ ((e = .returned (.bool true) ∧ FullK cs ls K) ∨ (e = .returned (.bool false) ∧ Conf cs ls))
def ClS (vars : Nat) (cs : List (List Int)) (ls : List Int) (g : Nat) (w : World) (again : Bool) (wr : World) : Prop :=
  ∃ K, KnS wr g (vars + 1) K ∧ KInv vars cs ls K ∧ w.grownBy wr (some g) ∧ (again = false → FullK cs ls K)
def ClI (vars : Nat) (cs : List (List Int)) (ls : List Int) (g : Nat) (w : World) (N0 : Nat) (again : Bool) (i : Nat) (wr : World) : Prop :=
  ∃ K, KnS wr g (vars + 1) K ∧ KInv vars cs ls K ∧ w.grownBy wr (some g) ∧ (openN vars K + (if again then 1 else 0) ≤ N0) ∧ (again = false → ∀ j, j < i → OpenK K (cs.getD j []))
theorem grownS_trans {a b c : World} {r : Option Nat} (h : a.grownBy b r) (k : b.grownBy c r) : a.grownBy c r :=
  ⟨k.os.trans h.os, k.tape.trans h.tape, k.output.trans h.output, Nat.le_trans h.size k.size, fun x hx hn => (k.block x (Nat.lt_of_lt_of_le hx h.size) hn).trans (h.block x hx hn)⟩
theorem grownS_below {a b : World} {B g : Nat} (h : a.grownBy b (some g)) (hB : B ≤ g) (hs : B ≤ a.heap.size) : Below B a b :=
  ⟨h.os, h.tape, h.output, h.size, fun x hx => h.block x (by omega) (fun e => by simp only [Option.some.injEq] at e; omega)⟩

set_option maxRecDepth 100000 in
set_option maxHeartbeats 8000000 in
theorem l11Close_any (vars : Nat) (hv4 : vars ≤ 400) (cs : List (List Int)) (ls : List Int) (hcl : ∀ c, c ∈ cs → litsB (vars : Int) c = true) (hc6 : cs.length ≤ 100000) (w0 w : World) (hb : Below w0.heap.size w0 w) (a : Option Addr) (cap : Nat) (hA : ClsAt w0 a cs) (g c : Nat) (hg : w0.heap.size ≤ g) (K : Nat → Int) (h : KnS w g (vars + 1) K) (hI : KInv vars cs ls K) :
    Calls Try.prog 53 #[.slice a cs.length cap, .slice (some ⟨g, 0, none⟩) (vars + 1) c] w fun e w' => ClP vars cs ls g w e w' := by
  have HA := hide hA
  have HB := hide hb
  have HCL := hide hcl
  have HS0 : Hid (ClS vars cs ls g w true w) := ⟨K, h, hI, World.grownBy.refl w _, fun e => by cases e⟩
  have HNZ : Hid (NzC cs) := fun d hd => lits_nz (hcl d hd)
  have hw0 := hb.size
  clear h hI hA hb hcl
  go_enter Try.func53, Try.ntmps53
  go_wp2_with fail
  go_loopw [5] (fun av wr => ∃ again : Bool, av = .bool again ∧ Hid (ClS vars cs ls g w again wr)) (fun av wr => 2 * openW g (vars + 1) wr + (match av with | .bool true => 1 | _ => 0))
  case atStart => exact ⟨true, rfl, HS0⟩
  case round =>
    rename World => wo
    obtain ⟨again, rfl, HS⟩ := hrel
    obtain ⟨K1, hk1, hi1, hg1, hf1⟩ := unhide HS
    have hN0 := openW_eq hk1
    cases again with
    | false =>
      have HP : Hid (ClP vars cs ls g w (.returned (.bool true)) wo) := ⟨K1, hk1, hi1, hg1, .inl ⟨rfl, hf1 rfl⟩⟩
      clear hk1 hi1 hg1 hf1 HS hN0
      go_wp2_with fail
      go_ret
      exact unhide HP
    | true =>
      have HI0 : Hid (ClI vars cs ls g w (openN vars K1) false 0 wo) := ⟨K1, hk1, hi1, hg1, by simp, fun _ j hj => absurd hj (Nat.not_lt_zero _)⟩
      have HN0 := hide hN0
      clear hk1 hi1 hg1 hf1 HS hN0
      go_wp2_with fail
      go_loopw [5, 6] (fun av iv wr => ∃ (ag : Bool) (i : Nat), i ≤ cs.length ∧ av = .bool ag ∧ iv = .int .i64 i ∧ Hid (ClI vars cs ls g w (openN vars K1) ag i wr)) (fun _ iv _ => cs.length - (intOf iv).toNat)
      case atStart => exact ⟨false, 0, Nat.zero_le _, rfl, rfl, HI0⟩
      case round =>
        rename World => wp
        obtain ⟨ag, i, hi, rfl, rfl, HI⟩ := hrel
        obtain ⟨K2, hk2, hi2, hg2, hn2, ho2⟩ := unhide HI
        by_cases hlt : i < cs.length
        · have j1 : (i : Int) < (cs.length : Int) := by omega
          have j0 : (0 : Int) ≤ (i : Int) := by omega
          rcases (unhide HA).2 with hA | ⟨b, o, rfl, hSb, hA⟩
          · subst hA; simp at hlt
          obtain ⟨a', c', c0, hq⟩ := hA i hlt
          have hbo := (unhide HB).trans (grownS_below hg2 hg hw0)
          rw [← hbo.cell (p := ⟨b, _, none⟩) hSb] at c0
          have hmem := getD_mem (d := ([] : List Int)) hlt
          obtain ⟨d, hd⟩ : ∃ d, d = cs.getD i [] := ⟨_, rfl⟩
          rw [← hd] at c0 hq hmem
          have hli := unhide HCL d hmem
          have hl4 : d.length ≤ 400 := by
            simp only [litsB, Bool.and_eq_true, decide_eq_true_eq] at hli
            exact hli.1
          have hrg := lits_in hli
          have HOP := hide (l11Open_any g (vars + 1) c K2 hi2.tri (by omega) a' d c' hl4 (fun x hx => ⟨(hrg x hx).1, by have := hrg x hx; omega⟩) wp hk2 (hq.on hbo))
          have hop := opnL_ok K2 d (lits_nz hli)
          have HK2 := hide hk2
          have HI2 := hide hi2
          have HG2 := hide hg2
          have HN2 := hide hn2
          have HO2 := hide ho2
          have HRG := hide hrg
          have HD := hide hd
          have HMEM := hide hmem
          have hnx : ∀ (K' : Nat → Int), (ag = false → ∀ j, j < i → OpenK K' (cs.getD j [])) → OpenK K' d → (ag = false → ∀ j, j < i + 1 → OpenK K' (cs.getD j [])) := fun K' h1 h2 e j hj => by
            by_cases ej : j = i
            · rw [ej, ← unhide HD]; exact h2
            · exact h1 e j (by omega)
          have HNX := hide hnx
          clear hk2 hi2 hg2 hn2 ho2 hA hq hbo hd hmem hli hrg hnx HI
          go_wp2_with fail
          refine (unhide HOP).mono ?_
          rintro e w3 ⟨hor, hww⟩
          have hww := hww.symm
          subst hww
          rcases hor with ⟨⟨x, hx, hxv⟩, rfl⟩ | ⟨hno, rfl⟩
          · have HI3 : Hid (ClI vars cs ls g w (openN vars K1) ag (i + 1) wp) := ⟨K2, unhide HK2, unhide HI2, unhide HG2, unhide HN2, unhide HNX K2 (unhide HO2) (.inl ⟨x, hx, hxv⟩)⟩
            clear hx hxv hop HOP
            go_wp2_with fail
            go_roundw
            case rel => exact ⟨ag, i + 1, by omega, rfl, by go_num, HI3⟩
            case measure => simp [intOf]; omega
          · obtain ⟨N, hN⟩ : ∃ N, N = (opnL K2 d).1 := ⟨_, rfl⟩
            obtain ⟨one, hone⟩ : ∃ one, one = (opnL K2 d).2 := ⟨_, rfl⟩
            have hsome := hop.some
            have hnone := hop.none
            have honly := hop.one
            have htwo := hop.two
            rw [← hN, ← hone] at hsome
            rw [← hN] at hnone honly htwo
            rw [← hone] at honly
            rw [← hN, ← hone]
            clear hN hone hop HOP
            by_cases h0 : N = 0
            · have hcf : Conf cs ls := conf_false (unhide HNZ) (unhide HI2).sound (unhide HMEM) (fun x hx => by
                rcases valK_tri (unhide HI2).tri x with e | e | e
                · exact absurd e (hno x hx)
                · exact absurd e ((hnone h0).2 x hx)
                · exact e)
              have HP : Hid (ClP vars cs ls g w (.returned (.bool false)) wp) := ⟨K2, unhide HK2, unhide HI2, unhide HG2, .inr ⟨rfl, hcf⟩⟩
              subst h0
              clear hsome hnone honly htwo hno hcf
              go_wp2_with fail
              go_ret
              exact unhide HP
            · have h0b : ((N : Int) == 0) = false := by rw [beq_eq_false_iff_ne]; omega
              by_cases h1 : N = 1
              · obtain ⟨hom, hoz⟩ := hsome (by omega)
                clear htwo hnone hsome
                obtain ⟨o1, o2, o3⟩ := unhide HRG one hom
                have hup : UP cs ls one := unit_of (unhide HNZ) (unhide HI2).sound (unhide HMEM) hom (fun y hy hne => by
                  rcases valK_tri (unhide HI2).tri y with e | e | e
                  · exact absurd e (hno y hy)
                  · exact absurd (honly h1 y hy e) hne
                  · exact e)
                have hi3 := (unhide HI2).set o1 o2 o3 hoz hup
                have hnn := openN_set (vars := vars) o1 o2 o3 hoz
                obtain ⟨v, hv⟩ : ∃ v : Nat, v = one.natAbs := ⟨_, rfl⟩
                have hk3 := (unhide HK2).set (v := v) (by omega) (if one < 0 then -1 else 1)
                have hset : (fun u => if u = v then (if one < 0 then (-1 : Int) else 1) else K2 u) = setK K2 one := by
                  funext u
                  unfold setK
                  rw [hv]
                rw [hset] at hk3
                have hg3 := grownS_trans (unhide HG2) (grownF_set wp g v (.int .i64 (if one < 0 then -1 else 1)))
                have HI3 : Hid (ClI vars cs ls g w (openN vars K1) true (i + 1) (wp.setCell ⟨g, v, none⟩ (.int .i64 (if one < 0 then -1 else 1)))) := ⟨setK K2 one, hk3, hi3, hg3, by have := unhide HN2; simp; split at this <;> omega, fun e => by cases e⟩
                have cv := (unhide HK2).cell v (by omega)
                have fv := (unhide HK2).fz v
                have v1 : (v : Int) < (vars : Int) + 1 := by omega
                have v0 : (0 : Int) ≤ (v : Int) := by omega
                have v1n : v < vars + 1 := by omega
                subst h1
                by_cases hpos : 0 < one
                · have hov : one = (v : Int) := by omega
                  have hng : ¬ one < 0 := by omega
                  rw [if_neg hng] at HI3
                  clear honly hno hom hoz o1 o2 o3 hup hi3 hnn hk3 hset hg3 hv hng
                  subst hov
                  go_wp2_with fail
                  go_roundw
                  case rel => exact ⟨true, i + 1, by omega, rfl, by go_num, HI3⟩
                  case measure => simp [intOf]; omega
                · have hneg : IntKind.i64.wrap (-one) = (v : Int) := by rw [IntKind.wrap_i64]; omega
                  have hng : one < 0 := by omega
                  rw [if_pos hng] at HI3
                  clear honly hno hom hoz o1 o2 o3 hup hi3 hnn hk3 hset hg3 hv
                  go_wp2_with fail
                  go_roundw
                  case rel => exact ⟨true, i + 1, by omega, rfl, by go_num, HI3⟩
                  case measure => simp [intOf]; omega
              · have h1b : ((N : Int) != 1) = true := by simp; omega
                obtain ⟨x, hx, y, hy, hne, hxz, hyz⟩ := htwo (by omega)
                have HI3 : Hid (ClI vars cs ls g w (openN vars K1) ag (i + 1) wp) := ⟨K2, unhide HK2, unhide HI2, unhide HG2, unhide HN2, unhide HNX K2 (unhide HO2) (.inr ⟨x, hx, y, hy, hne, hxz, hyz⟩)⟩
                clear hsome hnone honly htwo hno hx hy hne hxz hyz
                go_wp2_with fail
                go_roundw
                case rel => exact ⟨ag, i + 1, by omega, rfl, by go_num, HI3⟩
                case measure => simp [intOf]; omega
        · have j1 : ¬ (i : Int) < (cs.length : Int) := by omega
          have hN2 := openW_eq hk2
          have HS2 : Hid (ClS vars cs ls g w ag wp) := ⟨K2, hk2, hi2, hg2, fun e => ⟨hi2.given, fun d hd => by
            obtain ⟨j, hj, rfl⟩ := List.getElem_of_mem hd
            have := ho2 e j (by omega)
            simpa [List.getD, hj] using this⟩⟩
          have HM := hide (show 2 * openW g (vars + 1) wp + (match (Value.bool ag) with | .bool true => 1 | _ => 0) < 2 * openW g (vars + 1) wo + 1 by
            rw [hN2, unhide HN0]
            cases ag with
            | true => simp at hn2 ⊢; omega
            | false => simp at hn2 ⊢; omega)
          clear hk2 hi2 hg2 hn2 ho2 HI hN2
          go_wp2_with fail
          go_roundw
          case rel => exact ⟨ag, rfl, HS2⟩
          case measure => exact unhide HM
end Go.Proofs.Ythkhaemlcmkkjar

namespace Go.Proofs.Ythkhaemlcmkkjar
set_option linter.unusedVariables false
set_option linter.unusedSimpArgs false
open Go.RowKit Go.Deep Go.Sort

theorem Try.infoI' : (Try.prog.info? 3).map (fun i => (i.zero, i.size, i.bytes)) = some (some (.int .i64 0), 1, 8) := by kernel_rfl
/-- What is known by some literals. -/
structure KnL (vars : Nat) (ls : List Int) (ok : Bool) (K : Nat → Int) : Prop where
  tri : TriK K
  out : ∀ v, vars < v → K v = 0
  from_ : ∀ x, x ≠ 0 → valK K x = 1 → x ∈ ls
  all : ok = true → ∀ x, x ∈ ls → valK K x = 1
  both : ok = false → ∃ x, x ∈ ls ∧ -x ∈ ls
theorem KnL.start (vars : Nat) : KnL vars [] true (fun _ => 0) :=
  ⟨fun _ => .inr (.inl rfl), fun _ _ => rfl, fun x hx hv => by unfold valK at hv; split at hv <;> simp at hv, fun _ x hx => (by cases hx), fun e => (by cases e)⟩
theorem KnL.snoc {vars : Nat} {ls : List Int} {ok : Bool} {K : Nat → Int} (h : KnL vars ls ok K) {x : Int} (hx : x ≠ 0) (h1 : -(vars : Int) ≤ x) (h2 : x ≤ vars) : KnL vars (ls ++ [x]) (ok && !decide (valK K x = -1)) (setK K x) := by
  refine ⟨setK_tri h.tri x, fun v hv => ?_, fun y hy hv => ?_, fun ho y hy => ?_, fun ho => ?_⟩
  · unfold setK
    rw [if_neg (by omega)]
    exact h.out v hv
  · rw [setK_val K x y hx] at hv
    by_cases e : y = x
    · simp [e]
    · rw [if_neg e] at hv
      by_cases e2 : y = -x
      · rw [if_pos e2] at hv; omega
      · rw [if_neg e2] at hv
        exact List.mem_append_left _ (h.from_ y hy hv)
  · simp only [Bool.and_eq_true, Bool.not_eq_true', decide_eq_false_iff_not] at ho
    rw [setK_val K x y hx]
    by_cases e : y = x
    · rw [if_pos e]
    · rw [if_neg e]
      have hm : y ∈ ls := by
        rcases List.mem_append.1 hy with hy | hy
        · exact hy
        · exact absurd (by simpa using hy) e
      have hv := h.all ho.1 y hm
      by_cases e2 : y = -x
      · rw [e2, valK_neg K hx] at hv
        exact absurd (by omega) ho.2
      · rw [if_neg e2]; exact hv
  · simp only [Bool.and_eq_false_iff, Bool.not_eq_false', decide_eq_true_eq] at ho
    rcases ho with ho | ho
    · obtain ⟨y, a, b⟩ := h.both ho
      exact ⟨y, List.mem_append_left _ a, List.mem_append_left _ b⟩
    · refine ⟨x, by simp, List.mem_append_left _ (h.from_ (-x) (by omega) (by rw [valK_neg K hx, ho]; rfl))⟩
theorem KnL.inv {vars : Nat} {ls : List Int} {K : Nat → Int} (h : KnL vars ls true K) (cs : List (List Int)) : KInv vars cs ls K :=
  ⟨h.tri, h.out, fun x hx hv => .given (h.from_ x hx hv), h.all rfl⟩
theorem KnL.conf {vars : Nat} {ls : List Int} {K : Nat → Int} (h : KnL vars ls false K) (cs : List (List Int)) : Conf cs ls := by
  obtain ⟨x, h1, h2⟩ := h.both rfl
  exact .inr ⟨x, .given h1, .given h2⟩
/-- What l11Known answers. -/
def KnP (vars : Nat) (ls : List Int) (w : World) (e : Ending) (w' : World) : Prop :=
  ∃ ok K, e = .returned (.tuple #[.slice (some ⟨w.heap.size, 0, none⟩) (vars + 1) (vars + 1), .bool ok]) ∧ KnS w' w.heap.size (vars + 1) K ∧ Below w.heap.size w w' ∧ KnL vars ls ok K
def KnR (vars : Nat) (ls : List Int) (w : World) (ok : Bool) (w' : World) : Prop :=
  ∃ K, KnS w' w.heap.size (vars + 1) K ∧ Below w.heap.size w w' ∧ KnL vars ls ok K

set_option maxRecDepth 100000 in
set_option maxHeartbeats 8000000 in
theorem l11Known_any (vars : Nat) (hv4 : vars ≤ 400) (a : Option Addr) (ls : List Int) (cap : Nat) (hl4 : ls.length ≤ 1000000) (hr : ∀ x, x ∈ ls → x ≠ 0 ∧ -(vars : Int) ≤ x ∧ x ≤ vars) (w : World) (hs : SetAt w a ls) :
    Calls Try.prog 52 #[.int .i64 (vars : Int), .slice a ls.length cap] w fun e w' => KnP vars ls w e w' := by
  have hmk := make_eq (P := Try.prog) 26 3 _ 1 8 Try.underlying26 Try.infoI' (vars + 1) (by omega) (by omega)
  have hadd : IntKind.i64.wrap ((vars : Int) + 1) = ((vars + 1 : Nat) : Int) := by rw [IntKind.wrap_i64]; omega
  have hadd2 : IntKind.i64.wrap ((vars : Int) + 1) = (vars : Int) + 1 := by rw [IntKind.wrap_i64]; omega
  have hmk2 := hmk
  rw [show ((vars + 1 : Nat) : Int) = (vars : Int) + 1 by omega] at hmk2
  obtain ⟨hm, hs⟩ := hs
  obtain ⟨w1, hw1⟩ : ∃ w1, w1 = w.alloc (.cells (madeCells #[Value.int .i64 0] (vars + 1)) 3) := ⟨_, rfl⟩
  have hb1 := blk_alloc_new w (.cells (madeCells #[Value.int .i64 0] (vars + 1)) 3)
  rw [← hw1] at hb1
  have b1 : Below w.heap.size w w1 := by rw [hw1]; exact (Below.refl _ _).alloc (Nat.le_refl _) _
  have hk1 : KnS w1 w.heap.size (vars + 1) (fun _ => 0) := by
    refine ⟨fun v hv => ?_, fun i => by unfold World.frozen?; rw [hb1]; simp⟩
    rw [cell_of_row _ _ _ _ _ _ hb1, ← Array.getElem?_toList, toList_madeCells_one, List.getElem?_replicate, if_pos hv]
  have HS0 : Hid (KnR vars (ls.take 0) w true w1) := ⟨_, hk1, b1, by rw [List.take_zero]; exact .start vars⟩
  have HR := hide hr
  have HW1 := hide hw1
  have hz1 : w.heap.size < w1.heap.size := by rw [hw1]; simp
  clear hk1 b1 hb1 hw1 hr
  go_enter Try.func52, Try.ntmps52
  go_wp2_with fail
  rw [← unhide HW1]
  go_loopw [7, 8] (fun ov kv wr => ∃ (k : Nat) (ok : Bool), k ≤ ls.length ∧ kv = .int .i64 k ∧ ov = .bool ok ∧ Hid (KnR vars (ls.take k) w ok wr)) (fun _ k _ => ls.length - (intOf k).toNat)
  case atStart => exact ⟨0, true, Nat.zero_le _, rfl, rfl, HS0⟩
  case round =>
    rename World => wo
    obtain ⟨k, ok, hk, rfl, rfl, HS⟩ := hrel
    obtain ⟨K, hkn, hb, hl⟩ := unhide HS
    by_cases hlt : k < ls.length
    · have j1 : (k : Int) < (ls.length : Int) := by omega
      have j0 : (0 : Int) ≤ (k : Int) := by omega
      rcases hs with hs | ⟨b, o, rfl, hSb, hs⟩
      · subst hs; simp at hlt
      have c0 := hs k hlt
      rw [← hb.cell (p := ⟨b, _, none⟩) hSb] at c0
      have hmem := getD_mem (d := (0 : Int)) hlt
      have htk : ls.take (k + 1) = ls.take k ++ [ls.getD k 0] := by
        rw [List.take_succ_eq_append_getElem hlt]
        simp [List.getD, hlt]
      obtain ⟨x, hx⟩ : ∃ x, x = ls.getD k 0 := ⟨_, rfl⟩
      rw [← hx] at c0 hmem htk
      obtain ⟨x0, x1, x2⟩ := unhide HR x hmem
      have HVA := hide (l11Val_any w.heap.size (vars + 1) (vars + 1) K hl.tri x x0 (by omega) (by omega) wo hkn)
      have hsn := hl.snoc x0 x1 x2
      rw [← htk] at hsn
      obtain ⟨v, hv⟩ : ∃ v : Nat, v = x.natAbs := ⟨_, rfl⟩
      have cv := hkn.cell v (by omega)
      have fv := hkn.fz v
      have v1 : (v : Int) < (vars : Int) + 1 := by omega
      have v0 : (0 : Int) ≤ (v : Int) := by omega
      have v1n : v < vars + 1 := by omega
      have hk3 := hkn.set (v := v) (by omega) (if x < 0 then -1 else 1)
      have hset : (fun u => if u = v then (if x < 0 then (-1 : Int) else 1) else K u) = setK K x := by
        funext u
        unfold setK
        rw [hv]
      rw [hset] at hk3
      have HS3 : Hid (KnR vars (ls.take (k + 1)) w (ok && !decide (valK K x = -1)) (wo.setCell ⟨w.heap.size, v, none⟩ (.int .i64 (if x < 0 then -1 else 1)))) := ⟨_, hk3, hb.setCell (Nat.le_refl _) _, hsn⟩
      obtain ⟨z, hz⟩ : ∃ z, z = valK K x := ⟨_, rfl⟩
      rw [← hz] at HVA HS3
      have hb0 : b ≠ w.heap.size := by omega
      clear hs hmem htk hx hsn hk3 hset hz hkn hb hl HS
      by_cases hzz : z = -1
      · have hzb : (z == -1) = true := by rw [beq_iff_eq]; exact hzz
        rw [decide_eq_true hzz, Bool.not_true, Bool.and_false] at HS3
        subst hzz
        by_cases hpos : 0 < x
        · have hov : x = (v : Int) := by omega
          have hng : ¬ x < 0 := by omega
          rw [if_neg hng] at HS3
          clear hv hng
          subst hov
          go_wp2_with fail
          refine (unhide HVA).mono ?_
          rintro e w3 ⟨rfl, hww⟩
          have hww := hww.symm
          subst hww
          clear HVA
          go_wp2_with fail
          go_roundw
          case rel => exact ⟨k + 1, false, by omega, by go_num, rfl, HS3⟩
          case measure => simp [intOf]; omega
        · have hneg : IntKind.i64.wrap (-x) = (v : Int) := by rw [IntKind.wrap_i64]; omega
          have hng : x < 0 := by omega
          rw [if_pos hng] at HS3
          clear hv
          go_wp2_with fail
          refine (unhide HVA).mono ?_
          rintro e w3 ⟨rfl, hww⟩
          have hww := hww.symm
          subst hww
          clear HVA
          go_wp2_with fail
          go_roundw
          case rel => exact ⟨k + 1, false, by omega, by go_num, rfl, HS3⟩
          case measure => simp [intOf]; omega
      · have hzb : (z == -1) = false := by rw [beq_eq_false_iff_ne]; exact hzz
        rw [decide_eq_false hzz, Bool.not_false, Bool.and_true] at HS3
        by_cases hpos : 0 < x
        · have hov : x = (v : Int) := by omega
          have hng : ¬ x < 0 := by omega
          rw [if_neg hng] at HS3
          clear hv hng
          subst hov
          go_wp2_with fail
          refine (unhide HVA).mono ?_
          rintro e w3 ⟨rfl, hww⟩
          have hww := hww.symm
          subst hww
          clear HVA
          go_wp2_with fail
          go_roundw
          case rel => exact ⟨k + 1, ok, by omega, by go_num, rfl, HS3⟩
          case measure => simp [intOf]; omega
        · have hneg : IntKind.i64.wrap (-x) = (v : Int) := by rw [IntKind.wrap_i64]; omega
          have hng : x < 0 := by omega
          rw [if_pos hng] at HS3
          clear hv
          go_wp2_with fail
          refine (unhide HVA).mono ?_
          rintro e w3 ⟨rfl, hww⟩
          have hww := hww.symm
          subst hww
          clear HVA
          go_wp2_with fail
          go_roundw
          case rel => exact ⟨k + 1, ok, by omega, by go_num, rfl, HS3⟩
          case measure => simp [intOf]; omega
    · have j1 : ¬ (k : Int) < (ls.length : Int) := by omega
      rw [List.take_of_length_le (by omega)] at hl
      have HP : Hid (KnP vars ls w (.returned (.tuple #[.slice (some ⟨w.heap.size, 0, none⟩) (vars + 1) (vars + 1), .bool ok])) wo) := ⟨ok, K, rfl, hkn, hb, hl⟩
      clear hkn hb hl HS
      go_wp2_with fail
      exact bodyPost_ret (v := .tuple #[.slice (some ⟨w.heap.size, 0, none⟩) (vars + 1) (vars + 1), .bool ok]) (by simp [results, Try.results52, go_sem]) rfl (unhide HP)
end Go.Proofs.Ythkhaemlcmkkjar

namespace Go.Proofs.Ythkhaemlcmkkjar
set_option linter.unusedVariables false
set_option linter.unusedSimpArgs false
open Go.RowKit Go.Deep Go.Sort

end Go.Proofs.Ythkhaemlcmkkjar
