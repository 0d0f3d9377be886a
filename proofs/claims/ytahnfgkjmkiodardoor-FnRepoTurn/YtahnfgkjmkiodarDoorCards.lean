/-
  DERIVED. GIVEN WITH THE SEED: THE CARDS: each row of YtahnfgkjmkiodarDoorRows.lean that lists a variable, with what it lists TIED to the program's text (the seventh form; the later family's looks); each row that meets fmt, with fmt's text TOLD by the authors' own Lean function (tested against real Go, not proved from fmt's source: count such statements apart). THE CARD IS WHAT COUNTS. Prove the row's statement (the work); the ties are given (YtahnfgkjmkiodarDoorTie.lean); close each card by the builder's one call (the guide's Derived/Test/ToyasCard.lean, 'card_holds'). Laid BY PROGRAM, IN A SANDBOX (cutbox-door.mjs). By AI agents, Wed Nov 11 2026. No macro, syntax, notation, axiom, sorry.
-/
import Derived.Test.YtahnfgkjmkiodarDoorRows
import GoSem.ClaimSeven
namespace Go.Proofs.YtahnfgkjmkiodarDoor
namespace Rows

/-- THE TIED CARD OF 'laws.FnRepoTurn'. -/
def fnRepoTurnCard : Claim7 := { stood := { row := fnRepoTurnRow, standIns := [], harness := (true, "4b61e9b3e9e2a00e21d58d14a22dce6d14147d9e817ae4d32757c11621023588"), looks := false }, kinds := [], alts := [], laidByText := true, laidKinds := [.data, .data, .data], laidTests := true, laidLooks := .later }
def FnRepoTurnCardSaid : Prop := Claim7.holds Tryd.pinned (.plain (OpenSpec.ofChange fnRepoTurnSpec)) fnRepoTurnCard

/-- THE SECOND FORM's CARD OF 'laws.FnRepoTurn'. -/
def fnRepoTurnUptoCard : Claim7 := { stood := { row := fnRepoTurnUptoRow, standIns := [], harness := (true, "4b61e9b3e9e2a00e21d58d14a22dce6d14147d9e817ae4d32757c11621023588"), looks := false }, kinds := [], alts := [], laidByText := true, laidKinds := [.data, .data, .data], laidTests := true, laidLooks := .later }
def FnRepoTurnUptoCardSaid : Prop := Claim7.holds Tryd.pinned (.plain (OpenSpec.upto fnRepoTurnSpec)) fnRepoTurnUptoCard
end Rows
end Go.Proofs.YtahnfgkjmkiodarDoor
