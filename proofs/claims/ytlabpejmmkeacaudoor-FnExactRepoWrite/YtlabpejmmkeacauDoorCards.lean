/-
  DERIVED. GIVEN WITH THE SEED: THE CARDS: each row of YtlabpejmmkeacauDoorRows.lean that lists a variable, with what it lists TIED to the program's text (the seventh form; the later family's looks); each row that meets fmt, with fmt's text TOLD by the authors' own Lean function (tested against real Go, not proved from fmt's source: count such statements apart). THE CARD IS WHAT COUNTS. Prove the row's statement (the work); the ties are given (YtlabpejmmkeacauDoorTie.lean); close each card by the builder's one call (the guide's Derived/Test/ToyasCard.lean, 'card_holds'). Laid BY PROGRAM, IN A SANDBOX (cutbox-door.mjs). By AI agents, Wed Nov 11 2026. No macro, syntax, notation, axiom, sorry.
-/
import Derived.Test.YtlabpejmmkeacauDoorRows
import GoSem.ClaimSeven
namespace Go.Proofs.YtlabpejmmkeacauDoor
namespace Rows

/-- THE TIED CARD OF 'laws.FnExactRepoWrite'. -/
def fnExactRepoWriteCard : Claim7 := { stood := { row := fnExactRepoWriteRow, standIns := [], harness := (true, "dabc5d8ec94c1a253381cab87834732568d5d81f68a2bd1e11b2bf864d89de69"), looks := false }, kinds := [], alts := [], laidByText := true, laidKinds := [.data, .data, .data], laidTests := true, laidLooks := .later }
def FnExactRepoWriteCardSaid : Prop := Claim7.holds Tryd.pinned (.plain (OpenSpec.ofChange fnExactRepoWriteSpec)) fnExactRepoWriteCard

/-- THE SECOND FORM's CARD OF 'laws.FnExactRepoWrite'. -/
def fnExactRepoWriteUptoCard : Claim7 := { stood := { row := fnExactRepoWriteUptoRow, standIns := [], harness := (true, "dabc5d8ec94c1a253381cab87834732568d5d81f68a2bd1e11b2bf864d89de69"), looks := false }, kinds := [], alts := [], laidByText := true, laidKinds := [.data, .data, .data], laidTests := true, laidLooks := .later }
def FnExactRepoWriteUptoCardSaid : Prop := Claim7.holds Tryd.pinned (.plain (OpenSpec.upto fnExactRepoWriteSpec)) fnExactRepoWriteUptoCard
end Rows
end Go.Proofs.YtlabpejmmkeacauDoor
