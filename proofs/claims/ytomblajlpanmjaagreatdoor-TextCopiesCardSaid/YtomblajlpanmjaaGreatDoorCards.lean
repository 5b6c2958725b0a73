/-
  DERIVED. GIVEN WITH THE SEED: THE CARDS: each row of YtomblajlpanmjaaGreatDoorRows.lean that lists a variable, with what it lists TIED to the program's text (the seventh form; the later family's looks); each row that meets fmt, with fmt's text TOLD by the authors' own Lean function (tested against real Go, not proved from fmt's source: count such statements apart). THE CARD IS WHAT COUNTS. Prove the row's statement (the work); the ties are given (YtomblajlpanmjaaGreatDoorTie.lean); close each card by the builder's one call (the guide's Derived/Test/ToyasCard.lean, 'card_holds'). Laid BY PROGRAM, IN A SANDBOX (cutbox-door.mjs). By AI agents, Wed Nov 11 2026. No macro, syntax, notation, axiom, sorry.
-/
import Derived.Test.YtomblajlpanmjaaGreatDoorRows
import GoSem.ClaimSeven
namespace Go.Proofs.YtomblajlpanmjaaGreatDoor
namespace Rows

/-- THE TIED CARD OF 'tympanlaw02.TextRules'. -/
def textRulesCard : Claim7 := { stood := { row := textRulesRow, standIns := [], harness := (true, "37228c4311efe9387c0a210ae7bbaeedf4fd2d7fe4174afc75123d6143e6ae9e"), looks := true }, kinds := [], alts := [], laidByText := true, laidKinds := [.data, .data, .data, .data, .sentinel, .sentinel, .data, .pinned, .pinned], laidTests := true, laidLooks := .later }
def TextRulesCardSaid : Prop := Claim7.holds Tryz.pinned (.plain (OpenSpec.ofChange textRulesSpec)) textRulesCard

/-- THE TIED CARD OF 'tympanlaw02.TextCopies'. -/
def textCopiesCard : Claim7 := { stood := { row := textCopiesRow, standIns := [], harness := (true, "37228c4311efe9387c0a210ae7bbaeedf4fd2d7fe4174afc75123d6143e6ae9e"), looks := true }, kinds := [], alts := [], laidByText := true, laidKinds := [.data, .data, .pinned, .pinned], laidTests := true, laidLooks := .later }
def TextCopiesCardSaid : Prop := Claim7.holds Tryz.pinned (.plain (OpenSpec.ofChange textCopiesSpec)) textCopiesCard

/-- THE TIED CARD OF 'tympanlaw02.TextReads'. -/
def textReadsCard : Claim7 := { stood := { row := textReadsRow, standIns := [], harness := (true, "37228c4311efe9387c0a210ae7bbaeedf4fd2d7fe4174afc75123d6143e6ae9e"), looks := true }, kinds := [], alts := [], laidByText := true, laidKinds := [.data, .data, .pinned, .pinned], laidTests := true, laidLooks := .later }
def TextReadsCardSaid : Prop := Claim7.holds Tryz.pinned (.plain (OpenSpec.ofChange textReadsSpec)) textReadsCard

/-- THE TIED CARD OF 'tympantop.TopCopyBack'. -/
def topCopyBackCard : Claim7 := { stood := { row := topCopyBackRow, standIns := [], harness := (true, "37228c4311efe9387c0a210ae7bbaeedf4fd2d7fe4174afc75123d6143e6ae9e"), looks := true }, kinds := [], alts := [], laidByText := true, laidKinds := [.data, .data, .pinned, .pinned], laidTests := true, laidLooks := .later }
def TopCopyBackCardSaid : Prop := Claim7.holds Tryz.pinned (.plain (OpenSpec.ofChange topCopyBackSpec)) topCopyBackCard

/-- THE TIED CARD OF 'tympantop.TopHyphensBack'. -/
def topHyphensBackCard : Claim7 := { stood := { row := topHyphensBackRow, standIns := [], harness := (true, "37228c4311efe9387c0a210ae7bbaeedf4fd2d7fe4174afc75123d6143e6ae9e"), looks := true }, kinds := [], alts := [], laidByText := true, laidKinds := [.data, .data, .pinned, .pinned], laidTests := true, laidLooks := .later }
def TopHyphensBackCardSaid : Prop := Claim7.holds Tryz.pinned (.plain (OpenSpec.ofChange topHyphensBackSpec)) topHyphensBackCard

/-- THE SECOND FORM's CARD OF 'tympanlaw02.TextRules'. -/
def textRulesUptoCard : Claim7 := { stood := { row := textRulesUptoRow, standIns := [], harness := (true, "37228c4311efe9387c0a210ae7bbaeedf4fd2d7fe4174afc75123d6143e6ae9e"), looks := true }, kinds := [], alts := [], laidByText := true, laidKinds := [.data, .data, .data, .data, .sentinel, .sentinel, .data, .pinned, .pinned], laidTests := true, laidLooks := .later }
def TextRulesUptoCardSaid : Prop := Claim7.holds Tryz.pinned (.plain (OpenSpec.upto textRulesSpec)) textRulesUptoCard

/-- THE SECOND FORM's CARD OF 'tympanlaw02.TextCopies'. -/
def textCopiesUptoCard : Claim7 := { stood := { row := textCopiesUptoRow, standIns := [], harness := (true, "37228c4311efe9387c0a210ae7bbaeedf4fd2d7fe4174afc75123d6143e6ae9e"), looks := true }, kinds := [], alts := [], laidByText := true, laidKinds := [.data, .data, .pinned, .pinned], laidTests := true, laidLooks := .later }
def TextCopiesUptoCardSaid : Prop := Claim7.holds Tryz.pinned (.plain (OpenSpec.upto textCopiesSpec)) textCopiesUptoCard

/-- THE SECOND FORM's CARD OF 'tympanlaw02.TextReads'. -/
def textReadsUptoCard : Claim7 := { stood := { row := textReadsUptoRow, standIns := [], harness := (true, "37228c4311efe9387c0a210ae7bbaeedf4fd2d7fe4174afc75123d6143e6ae9e"), looks := true }, kinds := [], alts := [], laidByText := true, laidKinds := [.data, .data, .pinned, .pinned], laidTests := true, laidLooks := .later }
def TextReadsUptoCardSaid : Prop := Claim7.holds Tryz.pinned (.plain (OpenSpec.upto textReadsSpec)) textReadsUptoCard

/-- THE SECOND FORM's CARD OF 'tympantop.TopCopyBack'. -/
def topCopyBackUptoCard : Claim7 := { stood := { row := topCopyBackUptoRow, standIns := [], harness := (true, "37228c4311efe9387c0a210ae7bbaeedf4fd2d7fe4174afc75123d6143e6ae9e"), looks := true }, kinds := [], alts := [], laidByText := true, laidKinds := [.data, .data, .pinned, .pinned], laidTests := true, laidLooks := .later }
def TopCopyBackUptoCardSaid : Prop := Claim7.holds Tryz.pinned (.plain (OpenSpec.upto topCopyBackSpec)) topCopyBackUptoCard

/-- THE SECOND FORM's CARD OF 'tympantop.TopHyphensBack'. -/
def topHyphensBackUptoCard : Claim7 := { stood := { row := topHyphensBackUptoRow, standIns := [], harness := (true, "37228c4311efe9387c0a210ae7bbaeedf4fd2d7fe4174afc75123d6143e6ae9e"), looks := true }, kinds := [], alts := [], laidByText := true, laidKinds := [.data, .data, .pinned, .pinned], laidTests := true, laidLooks := .later }
def TopHyphensBackUptoCardSaid : Prop := Claim7.holds Tryz.pinned (.plain (OpenSpec.upto topHyphensBackSpec)) topHyphensBackUptoCard
end Rows
end Go.Proofs.YtomblajlpanmjaaGreatDoor
