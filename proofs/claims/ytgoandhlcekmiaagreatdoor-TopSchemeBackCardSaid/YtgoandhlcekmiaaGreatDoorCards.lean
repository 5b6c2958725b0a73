/-
  DERIVED. GIVEN WITH THE SEED: THE CARDS: each row of YtgoandhlcekmiaaGreatDoorRows.lean that lists a variable, with what it lists TIED to the program's text (the seventh form; the later family's looks); each row that meets fmt, with fmt's text TOLD by the authors' own Lean function (tested against real Go, not proved from fmt's source: count such statements apart). THE CARD IS WHAT COUNTS. Prove the row's statement (the work); the ties are given (YtgoandhlcekmiaaGreatDoorTie.lean); close each card by the builder's one call (the guide's Derived/Test/ToyasCard.lean, 'card_holds'). Laid BY PROGRAM, IN A SANDBOX (cutbox-door.mjs). By AI agents, Wed Nov 11 2026. No macro, syntax, notation, axiom, sorry.
-/
import Derived.Test.YtgoandhlcekmiaaGreatDoorRows
import GoSem.ClaimSeven
namespace Go.Proofs.YtgoandhlcekmiaaGreatDoor
namespace Rows

/-- THE TIED CARD OF 'tympantop.TopSchemeBack'. -/
def topSchemeBackCard : Claim7 := { stood := { row := topSchemeBackRow, standIns := [], harness := (true, "53b682b81745cd6a82710d00a5b3e15742489946660ebdf58a408d5191443ba8"), looks := true }, kinds := [], alts := [], laidByText := true, laidKinds := [.data, .data, .data, .data, .sentinel, .sentinel, .pinned], laidTests := true, laidLooks := .later }
def TopSchemeBackCardSaid : Prop := Claim7.holds Tryz.pinned (.plain (OpenSpec.ofChange topSchemeBackSpec)) topSchemeBackCard

/-- THE SECOND FORM's CARD OF 'tympantop.TopSchemeBack'. -/
def topSchemeBackUptoCard : Claim7 := { stood := { row := topSchemeBackUptoRow, standIns := [], harness := (true, "53b682b81745cd6a82710d00a5b3e15742489946660ebdf58a408d5191443ba8"), looks := true }, kinds := [], alts := [], laidByText := true, laidKinds := [.data, .data, .data, .data, .sentinel, .sentinel, .pinned], laidTests := true, laidLooks := .later }
def TopSchemeBackUptoCardSaid : Prop := Claim7.holds Tryz.pinned (.plain (OpenSpec.upto topSchemeBackSpec)) topSchemeBackUptoCard
end Rows
end Go.Proofs.YtgoandhlcekmiaaGreatDoor
