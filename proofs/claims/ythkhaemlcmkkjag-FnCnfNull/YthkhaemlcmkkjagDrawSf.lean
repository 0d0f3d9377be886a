/- DrawSatFind: drawn clauses, and how many choices at most. -/
import Derived.Test.YthkhaemlcmkkjagGDcn
namespace Go.Proofs.Ythkhaemlcmkkjag
set_option linter.unusedVariables false
set_option linter.unusedSimpArgs false
open Go.RowKit Go.Deep

theorem lst_lowD {B B' : Nat} {w : World} {v : Value} {l : List (List Int)} {vs : List Value} (h : LstI B w v l vs) (hb : B' ≤ B) : LstI B' w v l vs := ⟨h.len, row_base h.own hb, fun i hi => row_base (h.row i hi) hb, h.apart⟩
end Go.Proofs.Ythkhaemlcmkkjag
