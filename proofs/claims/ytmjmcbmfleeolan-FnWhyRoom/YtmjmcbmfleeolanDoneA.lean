/- The program's done: what is there behind a step. -/
import Derived.Test.YtmjmcbmfleeolanMoveA
import Derived.Test.YtmjmcbmfleeolanMvG
import Derived.Test.YtmjmcbmfleeolanGHe
import Derived.Deep.QuietTactic
namespace Go.Proofs.Ytmjmcbmfleeolan
set_option linter.unusedVariables false
set_option linter.unusedSimpArgs false
open Go.RowKit Go.Deep

/-- What done answers. -/
def doneV (l : List PackD) (room : Int) (bits : Nat) (s : StepD) : Value :=
  match (movesL l).find? (fun m => eqS m.step s) with
  | none => .tuple #[.int .u64 0, .bool false]
  | some m => if allowsB l room bits m then .tuple #[.int .u64 ((behindN bits m : Nat) : Int), .bool true] else .tuple #[.int .u64 0, .bool false]

end Go.Proofs.Ytmjmcbmfleeolan
