/-
  DERIVED. GIVEN WITH THE SEED: THE CARDS: each row of YtccfcdhnplodgaaGreatDoorRows.lean that lists a variable, with what it lists TIED to the program's text (the seventh form; the later family's looks); each row that meets fmt, with fmt's text TOLD by the authors' own Lean function (tested against real Go, not proved from fmt's source: count such statements apart). THE CARD IS WHAT COUNTS. Prove the row's statement (the work); the ties are given (YtccfcdhnplodgaaGreatDoorTie.lean); close each card by the builder's one call (the guide's Derived/Test/ToyasCard.lean, 'card_holds'). Laid BY PROGRAM, IN A SANDBOX (cutbox-door.mjs). By AI agents, Wed Nov 11 2026. No macro, syntax, notation, axiom, sorry.
-/
import Derived.Test.YtccfcdhnplodgaaGreatDoorRows
import GoSem.ClaimSeven
namespace Go.Proofs.YtccfcdhnplodgaaGreatDoor
namespace Rows

/-- THE TIED CARD OF 'tympanlaw06.ImposeWords'. -/
def imposeWordsCard : Claim7 := { stood := { row := imposeWordsRow, standIns := [], harness := (true, "a4986ae39af6318c86ce80fd7f76308137f5a4ef91f504a21a8d00e610de2e5e"), looks := true }, kinds := [], alts := [], laidByText := true, laidKinds := [.data, .data, .data, .data, .sentinel, .sentinel, .pinned], laidTests := true, laidLooks := .later }
def ImposeWordsCardSaid : Prop := Claim7.holds Tryz.pinned (.plain (OpenSpec.ofChange imposeWordsSpec)) imposeWordsCard

/-- THE SECOND FORM's CARD OF 'tympanlaw06.ImposeWords'. -/
def imposeWordsUptoCard : Claim7 := { stood := { row := imposeWordsUptoRow, standIns := [], harness := (true, "a4986ae39af6318c86ce80fd7f76308137f5a4ef91f504a21a8d00e610de2e5e"), looks := true }, kinds := [], alts := [], laidByText := true, laidKinds := [.data, .data, .data, .data, .sentinel, .sentinel, .pinned], laidTests := true, laidLooks := .later }
def ImposeWordsUptoCardSaid : Prop := Claim7.holds Tryz.pinned (.plain (OpenSpec.upto imposeWordsSpec)) imposeWordsUptoCard
end Rows
end Go.Proofs.YtccfcdhnplodgaaGreatDoor
