/-
  DERIVED. GIVEN WITH THE SEED: THE CARDS: each row of YtlkkociijfdcgaaGreatDoorRows.lean that lists a variable, with what it lists TIED to the program's text (the seventh form; the later family's looks); each row that meets fmt, with fmt's text TOLD by the authors' own Lean function (tested against real Go, not proved from fmt's source: count such statements apart). THE CARD IS WHAT COUNTS. Prove the row's statement (the work); the ties are given (YtlkkociijfdcgaaGreatDoorTie.lean); close each card by the builder's one call (the guide's Derived/Test/ToyasCard.lean, 'card_holds'). Laid BY PROGRAM, IN A SANDBOX (cutbox-door.mjs). By AI agents, Wed Nov 11 2026. No macro, syntax, notation, axiom, sorry.
-/
import Derived.Test.YtlkkociijfdcgaaGreatDoorRows
import GoSem.ClaimSeven
namespace Go.Proofs.YtlkkociijfdcgaaGreatDoor
namespace Rows

/-- THE TIED CARD OF 'tympanlaw02.TextRules'. -/
def textRulesCard : Claim7 := { stood := { row := textRulesRow, standIns := [], harness := (true, "b87b7f39d0644361b9b6d1e792355d10f8aaff3ea9a728c898ccc1638dd77615"), looks := true }, kinds := [], alts := [], laidByText := true, laidKinds := [.data, .data, .data, .data, .sentinel, .sentinel, .data, .pinned, .pinned], laidTests := true, laidLooks := .later }
def TextRulesCardSaid : Prop := Claim7.holds Tryz.pinned (.plain (OpenSpec.ofChange textRulesSpec)) textRulesCard

/-- THE TIED CARD OF 'tympanlaw02.TextCopies'. -/
def textCopiesCard : Claim7 := { stood := { row := textCopiesRow, standIns := [], harness := (true, "b87b7f39d0644361b9b6d1e792355d10f8aaff3ea9a728c898ccc1638dd77615"), looks := true }, kinds := [], alts := [], laidByText := true, laidKinds := [.data, .data, .pinned, .pinned], laidTests := true, laidLooks := .later }
def TextCopiesCardSaid : Prop := Claim7.holds Tryz.pinned (.plain (OpenSpec.ofChange textCopiesSpec)) textCopiesCard

/-- THE TIED CARD OF 'tympanlaw02.TextReads'. -/
def textReadsCard : Claim7 := { stood := { row := textReadsRow, standIns := [], harness := (true, "b87b7f39d0644361b9b6d1e792355d10f8aaff3ea9a728c898ccc1638dd77615"), looks := true }, kinds := [], alts := [], laidByText := true, laidKinds := [.data, .data, .pinned, .pinned], laidTests := true, laidLooks := .later }
def TextReadsCardSaid : Prop := Claim7.holds Tryz.pinned (.plain (OpenSpec.ofChange textReadsSpec)) textReadsCard

/-- THE TIED CARD OF 'tympanlaw02.TextSorts'. -/
def textSortsCard : Claim7 := { stood := { row := textSortsRow, standIns := [], harness := (true, "b87b7f39d0644361b9b6d1e792355d10f8aaff3ea9a728c898ccc1638dd77615"), looks := true }, kinds := [], alts := [], laidByText := true, laidKinds := [.data, .data, .pinned, .pinned], laidTests := true, laidLooks := .later }
def TextSortsCardSaid : Prop := Claim7.holds Tryz.pinned (.plain (OpenSpec.ofChange textSortsSpec)) textSortsCard

/-- THE TIED CARD OF 'tympanlaw02.TextPrints'. -/
def textPrintsCard : Claim7 := { stood := { row := textPrintsRow, standIns := [], harness := (true, "b87b7f39d0644361b9b6d1e792355d10f8aaff3ea9a728c898ccc1638dd77615"), looks := true }, kinds := [], alts := [], laidByText := true, laidKinds := [.data, .data, .pinned, .pinned], laidTests := true, laidLooks := .later }
def TextPrintsCardSaid : Prop := Claim7.holds Tryz.pinned (.plain (OpenSpec.ofChange textPrintsSpec)) textPrintsCard

/-- THE TIED CARD OF 'tympanlaw02.TextWords'. -/
def textWordsCard : Claim7 := { stood := { row := textWordsRow, standIns := [], harness := (true, "b87b7f39d0644361b9b6d1e792355d10f8aaff3ea9a728c898ccc1638dd77615"), looks := true }, kinds := [], alts := [], laidByText := true, laidKinds := [.data, .data, .pinned, .pinned], laidTests := true, laidLooks := .later }
def TextWordsCardSaid : Prop := Claim7.holds Tryz.pinned (.plain (OpenSpec.ofChange textWordsSpec)) textWordsCard

/-- THE TIED CARD OF 'tympanlaw02.TextNeeds'. -/
def textNeedsCard : Claim7 := { stood := { row := textNeedsRow, standIns := [], harness := (true, "b87b7f39d0644361b9b6d1e792355d10f8aaff3ea9a728c898ccc1638dd77615"), looks := true }, kinds := [], alts := [], laidByText := true, laidKinds := [.data, .data, .pinned, .pinned], laidTests := true, laidLooks := .later }
def TextNeedsCardSaid : Prop := Claim7.holds Tryz.pinned (.plain (OpenSpec.ofChange textNeedsSpec)) textNeedsCard

/-- THE TIED CARD OF 'tympanlaw02.TextLevels'. -/
def textLevelsCard : Claim7 := { stood := { row := textLevelsRow, standIns := [], harness := (true, "b87b7f39d0644361b9b6d1e792355d10f8aaff3ea9a728c898ccc1638dd77615"), looks := true }, kinds := [], alts := [], laidByText := true, laidKinds := [.data, .data, .pinned, .pinned], laidTests := true, laidLooks := .later }
def TextLevelsCardSaid : Prop := Claim7.holds Tryz.pinned (.plain (OpenSpec.ofChange textLevelsSpec)) textLevelsCard

/-- THE TIED CARD OF 'tympanlaw02.TextHyphens'. -/
def textHyphensCard : Claim7 := { stood := { row := textHyphensRow, standIns := [], harness := (true, "b87b7f39d0644361b9b6d1e792355d10f8aaff3ea9a728c898ccc1638dd77615"), looks := true }, kinds := [], alts := [], laidByText := true, laidKinds := [.data, .data, .pinned, .pinned], laidTests := true, laidLooks := .later }
def TextHyphensCardSaid : Prop := Claim7.holds Tryz.pinned (.plain (OpenSpec.ofChange textHyphensSpec)) textHyphensCard

/-- THE TIED CARD OF 'tympanlaw02.TextExceptions'. -/
def textExceptionsCard : Claim7 := { stood := { row := textExceptionsRow, standIns := [], harness := (true, "b87b7f39d0644361b9b6d1e792355d10f8aaff3ea9a728c898ccc1638dd77615"), looks := true }, kinds := [], alts := [], laidByText := true, laidKinds := [.data, .data, .pinned, .pinned], laidTests := true, laidLooks := .later }
def TextExceptionsCardSaid : Prop := Claim7.holds Tryz.pinned (.plain (OpenSpec.ofChange textExceptionsSpec)) textExceptionsCard

/-- THE TIED CARD OF 'tympanlaw02.TextParts'. -/
def textPartsCard : Claim7 := { stood := { row := textPartsRow, standIns := [], harness := (true, "b87b7f39d0644361b9b6d1e792355d10f8aaff3ea9a728c898ccc1638dd77615"), looks := true }, kinds := [], alts := [], laidByText := true, laidKinds := [.data, .data, .pinned, .pinned], laidTests := true, laidLooks := .later }
def TextPartsCardSaid : Prop := Claim7.holds Tryz.pinned (.plain (OpenSpec.ofChange textPartsSpec)) textPartsCard

/-- THE TIED CARD OF 'tympanlaw02.TextBack'. -/
def textBackCard : Claim7 := { stood := { row := textBackRow, standIns := [], harness := (true, "b87b7f39d0644361b9b6d1e792355d10f8aaff3ea9a728c898ccc1638dd77615"), looks := true }, kinds := [], alts := [], laidByText := true, laidKinds := [.data, .data, .pinned, .pinned], laidTests := true, laidLooks := .later }
def TextBackCardSaid : Prop := Claim7.holds Tryz.pinned (.plain (OpenSpec.ofChange textBackSpec)) textBackCard

/-- THE TIED CARD OF 'tympantop.TopCopyBack'. -/
def topCopyBackCard : Claim7 := { stood := { row := topCopyBackRow, standIns := [], harness := (true, "b87b7f39d0644361b9b6d1e792355d10f8aaff3ea9a728c898ccc1638dd77615"), looks := true }, kinds := [], alts := [], laidByText := true, laidKinds := [.data, .data, .pinned, .pinned], laidTests := true, laidLooks := .later }
def TopCopyBackCardSaid : Prop := Claim7.holds Tryz.pinned (.plain (OpenSpec.ofChange topCopyBackSpec)) topCopyBackCard

/-- THE TIED CARD OF 'tympantop.TopHyphensBack'. -/
def topHyphensBackCard : Claim7 := { stood := { row := topHyphensBackRow, standIns := [], harness := (true, "b87b7f39d0644361b9b6d1e792355d10f8aaff3ea9a728c898ccc1638dd77615"), looks := true }, kinds := [], alts := [], laidByText := true, laidKinds := [.data, .data, .pinned, .pinned], laidTests := true, laidLooks := .later }
def TopHyphensBackCardSaid : Prop := Claim7.holds Tryz.pinned (.plain (OpenSpec.ofChange topHyphensBackSpec)) topHyphensBackCard

/-- THE SECOND FORM's CARD OF 'tympanlaw02.TextRules'. -/
def textRulesUptoCard : Claim7 := { stood := { row := textRulesUptoRow, standIns := [], harness := (true, "b87b7f39d0644361b9b6d1e792355d10f8aaff3ea9a728c898ccc1638dd77615"), looks := true }, kinds := [], alts := [], laidByText := true, laidKinds := [.data, .data, .data, .data, .sentinel, .sentinel, .data, .pinned, .pinned], laidTests := true, laidLooks := .later }
def TextRulesUptoCardSaid : Prop := Claim7.holds Tryz.pinned (.plain (OpenSpec.upto textRulesSpec)) textRulesUptoCard

/-- THE SECOND FORM's CARD OF 'tympanlaw02.TextCopies'. -/
def textCopiesUptoCard : Claim7 := { stood := { row := textCopiesUptoRow, standIns := [], harness := (true, "b87b7f39d0644361b9b6d1e792355d10f8aaff3ea9a728c898ccc1638dd77615"), looks := true }, kinds := [], alts := [], laidByText := true, laidKinds := [.data, .data, .pinned, .pinned], laidTests := true, laidLooks := .later }
def TextCopiesUptoCardSaid : Prop := Claim7.holds Tryz.pinned (.plain (OpenSpec.upto textCopiesSpec)) textCopiesUptoCard

/-- THE SECOND FORM's CARD OF 'tympanlaw02.TextReads'. -/
def textReadsUptoCard : Claim7 := { stood := { row := textReadsUptoRow, standIns := [], harness := (true, "b87b7f39d0644361b9b6d1e792355d10f8aaff3ea9a728c898ccc1638dd77615"), looks := true }, kinds := [], alts := [], laidByText := true, laidKinds := [.data, .data, .pinned, .pinned], laidTests := true, laidLooks := .later }
def TextReadsUptoCardSaid : Prop := Claim7.holds Tryz.pinned (.plain (OpenSpec.upto textReadsSpec)) textReadsUptoCard

/-- THE SECOND FORM's CARD OF 'tympanlaw02.TextSorts'. -/
def textSortsUptoCard : Claim7 := { stood := { row := textSortsUptoRow, standIns := [], harness := (true, "b87b7f39d0644361b9b6d1e792355d10f8aaff3ea9a728c898ccc1638dd77615"), looks := true }, kinds := [], alts := [], laidByText := true, laidKinds := [.data, .data, .pinned, .pinned], laidTests := true, laidLooks := .later }
def TextSortsUptoCardSaid : Prop := Claim7.holds Tryz.pinned (.plain (OpenSpec.upto textSortsSpec)) textSortsUptoCard

/-- THE SECOND FORM's CARD OF 'tympanlaw02.TextPrints'. -/
def textPrintsUptoCard : Claim7 := { stood := { row := textPrintsUptoRow, standIns := [], harness := (true, "b87b7f39d0644361b9b6d1e792355d10f8aaff3ea9a728c898ccc1638dd77615"), looks := true }, kinds := [], alts := [], laidByText := true, laidKinds := [.data, .data, .pinned, .pinned], laidTests := true, laidLooks := .later }
def TextPrintsUptoCardSaid : Prop := Claim7.holds Tryz.pinned (.plain (OpenSpec.upto textPrintsSpec)) textPrintsUptoCard

/-- THE SECOND FORM's CARD OF 'tympanlaw02.TextWords'. -/
def textWordsUptoCard : Claim7 := { stood := { row := textWordsUptoRow, standIns := [], harness := (true, "b87b7f39d0644361b9b6d1e792355d10f8aaff3ea9a728c898ccc1638dd77615"), looks := true }, kinds := [], alts := [], laidByText := true, laidKinds := [.data, .data, .pinned, .pinned], laidTests := true, laidLooks := .later }
def TextWordsUptoCardSaid : Prop := Claim7.holds Tryz.pinned (.plain (OpenSpec.upto textWordsSpec)) textWordsUptoCard

/-- THE SECOND FORM's CARD OF 'tympanlaw02.TextNeeds'. -/
def textNeedsUptoCard : Claim7 := { stood := { row := textNeedsUptoRow, standIns := [], harness := (true, "b87b7f39d0644361b9b6d1e792355d10f8aaff3ea9a728c898ccc1638dd77615"), looks := true }, kinds := [], alts := [], laidByText := true, laidKinds := [.data, .data, .pinned, .pinned], laidTests := true, laidLooks := .later }
def TextNeedsUptoCardSaid : Prop := Claim7.holds Tryz.pinned (.plain (OpenSpec.upto textNeedsSpec)) textNeedsUptoCard

/-- THE SECOND FORM's CARD OF 'tympanlaw02.TextLevels'. -/
def textLevelsUptoCard : Claim7 := { stood := { row := textLevelsUptoRow, standIns := [], harness := (true, "b87b7f39d0644361b9b6d1e792355d10f8aaff3ea9a728c898ccc1638dd77615"), looks := true }, kinds := [], alts := [], laidByText := true, laidKinds := [.data, .data, .pinned, .pinned], laidTests := true, laidLooks := .later }
def TextLevelsUptoCardSaid : Prop := Claim7.holds Tryz.pinned (.plain (OpenSpec.upto textLevelsSpec)) textLevelsUptoCard

/-- THE SECOND FORM's CARD OF 'tympanlaw02.TextHyphens'. -/
def textHyphensUptoCard : Claim7 := { stood := { row := textHyphensUptoRow, standIns := [], harness := (true, "b87b7f39d0644361b9b6d1e792355d10f8aaff3ea9a728c898ccc1638dd77615"), looks := true }, kinds := [], alts := [], laidByText := true, laidKinds := [.data, .data, .pinned, .pinned], laidTests := true, laidLooks := .later }
def TextHyphensUptoCardSaid : Prop := Claim7.holds Tryz.pinned (.plain (OpenSpec.upto textHyphensSpec)) textHyphensUptoCard

/-- THE SECOND FORM's CARD OF 'tympanlaw02.TextExceptions'. -/
def textExceptionsUptoCard : Claim7 := { stood := { row := textExceptionsUptoRow, standIns := [], harness := (true, "b87b7f39d0644361b9b6d1e792355d10f8aaff3ea9a728c898ccc1638dd77615"), looks := true }, kinds := [], alts := [], laidByText := true, laidKinds := [.data, .data, .pinned, .pinned], laidTests := true, laidLooks := .later }
def TextExceptionsUptoCardSaid : Prop := Claim7.holds Tryz.pinned (.plain (OpenSpec.upto textExceptionsSpec)) textExceptionsUptoCard

/-- THE SECOND FORM's CARD OF 'tympanlaw02.TextParts'. -/
def textPartsUptoCard : Claim7 := { stood := { row := textPartsUptoRow, standIns := [], harness := (true, "b87b7f39d0644361b9b6d1e792355d10f8aaff3ea9a728c898ccc1638dd77615"), looks := true }, kinds := [], alts := [], laidByText := true, laidKinds := [.data, .data, .pinned, .pinned], laidTests := true, laidLooks := .later }
def TextPartsUptoCardSaid : Prop := Claim7.holds Tryz.pinned (.plain (OpenSpec.upto textPartsSpec)) textPartsUptoCard

/-- THE SECOND FORM's CARD OF 'tympanlaw02.TextBack'. -/
def textBackUptoCard : Claim7 := { stood := { row := textBackUptoRow, standIns := [], harness := (true, "b87b7f39d0644361b9b6d1e792355d10f8aaff3ea9a728c898ccc1638dd77615"), looks := true }, kinds := [], alts := [], laidByText := true, laidKinds := [.data, .data, .pinned, .pinned], laidTests := true, laidLooks := .later }
def TextBackUptoCardSaid : Prop := Claim7.holds Tryz.pinned (.plain (OpenSpec.upto textBackSpec)) textBackUptoCard

/-- THE SECOND FORM's CARD OF 'tympantop.TopCopyBack'. -/
def topCopyBackUptoCard : Claim7 := { stood := { row := topCopyBackUptoRow, standIns := [], harness := (true, "b87b7f39d0644361b9b6d1e792355d10f8aaff3ea9a728c898ccc1638dd77615"), looks := true }, kinds := [], alts := [], laidByText := true, laidKinds := [.data, .data, .pinned, .pinned], laidTests := true, laidLooks := .later }
def TopCopyBackUptoCardSaid : Prop := Claim7.holds Tryz.pinned (.plain (OpenSpec.upto topCopyBackSpec)) topCopyBackUptoCard

/-- THE SECOND FORM's CARD OF 'tympantop.TopHyphensBack'. -/
def topHyphensBackUptoCard : Claim7 := { stood := { row := topHyphensBackUptoRow, standIns := [], harness := (true, "b87b7f39d0644361b9b6d1e792355d10f8aaff3ea9a728c898ccc1638dd77615"), looks := true }, kinds := [], alts := [], laidByText := true, laidKinds := [.data, .data, .pinned, .pinned], laidTests := true, laidLooks := .later }
def TopHyphensBackUptoCardSaid : Prop := Claim7.holds Tryz.pinned (.plain (OpenSpec.upto topHyphensBackSpec)) topHyphensBackUptoCard
end Rows
end Go.Proofs.YtlkkociijfdcgaaGreatDoor
