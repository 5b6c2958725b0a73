/-
  DERIVED. GIVEN WITH THE SEED: THE CARDS: each row of YtebndgepmjonoaaDoorRows.lean that lists a variable, with what it lists TIED to the program's text (the seventh form; the later family's looks); each row that meets fmt, with fmt's text TOLD by the authors' own Lean function (tested against real Go, not proved from fmt's source: count such statements apart). THE CARD IS WHAT COUNTS. Prove the row's statement (the work); the ties are given (YtebndgepmjonoaaDoorTie.lean); close each card by the builder's one call (the guide's Derived/Test/ToyasCard.lean, 'card_holds'). Laid BY PROGRAM, IN A SANDBOX (cutbox-door.mjs). By AI agents, Wed Nov 11 2026. No macro, syntax, notation, axiom, sorry.
-/
import Derived.Test.YtebndgepmjonoaaDoorRows
import GoSem.ClaimSeven
namespace Go.Proofs.YtebndgepmjonoaaDoor
namespace Rows

/-- THE TIED CARD OF 'tympanlaw01.FountChecks'. -/
def fountChecksCard : Claim7 := { stood := { row := fountChecksRow, standIns := [], harness := (true, "4319d671a2bb716605890af31ec555732e6de1bc8fc4107b96a648b894608559"), looks := false }, kinds := [], alts := [], laidByText := true, laidKinds := [.data, .data, .data, .data, .data], laidTests := true, laidLooks := .later }
def FountChecksCardSaid : Prop := Claim7.holds Tryd.pinned (.plain (OpenSpec.ofChange fountChecksSpec)) fountChecksCard

/-- THE TIED CARD OF 'tympanlaw01.FountBills'. -/
def fountBillsCard : Claim7 := { stood := { row := fountBillsRow, standIns := [], harness := (true, "4319d671a2bb716605890af31ec555732e6de1bc8fc4107b96a648b894608559"), looks := false }, kinds := [], alts := [], laidByText := true, laidKinds := [.data, .data, .data, .data, .data], laidTests := true, laidLooks := .later }
def FountBillsCardSaid : Prop := Claim7.holds Tryd.pinned (.plain (OpenSpec.ofChange fountBillsSpec)) fountBillsCard

/-- THE TIED CARD OF 'tympanlaw01.FountTexts'. -/
def fountTextsCard : Claim7 := { stood := { row := fountTextsRow, standIns := [], harness := (true, "4319d671a2bb716605890af31ec555732e6de1bc8fc4107b96a648b894608559"), looks := false }, kinds := [], alts := [], laidByText := true, laidKinds := [.data, .data, .data, .data, .data], laidTests := true, laidLooks := .later }
def FountTextsCardSaid : Prop := Claim7.holds Tryd.pinned (.plain (OpenSpec.ofChange fountTextsSpec)) fountTextsCard

/-- THE SECOND FORM's CARD OF 'tympanlaw01.FountChecks'. -/
def fountChecksUptoCard : Claim7 := { stood := { row := fountChecksUptoRow, standIns := [], harness := (true, "4319d671a2bb716605890af31ec555732e6de1bc8fc4107b96a648b894608559"), looks := false }, kinds := [], alts := [], laidByText := true, laidKinds := [.data, .data, .data, .data, .data], laidTests := true, laidLooks := .later }
def FountChecksUptoCardSaid : Prop := Claim7.holds Tryd.pinned (.plain (OpenSpec.upto fountChecksSpec)) fountChecksUptoCard

/-- THE SECOND FORM's CARD OF 'tympanlaw01.FountBills'. -/
def fountBillsUptoCard : Claim7 := { stood := { row := fountBillsUptoRow, standIns := [], harness := (true, "4319d671a2bb716605890af31ec555732e6de1bc8fc4107b96a648b894608559"), looks := false }, kinds := [], alts := [], laidByText := true, laidKinds := [.data, .data, .data, .data, .data], laidTests := true, laidLooks := .later }
def FountBillsUptoCardSaid : Prop := Claim7.holds Tryd.pinned (.plain (OpenSpec.upto fountBillsSpec)) fountBillsUptoCard

/-- THE SECOND FORM's CARD OF 'tympanlaw01.FountTexts'. -/
def fountTextsUptoCard : Claim7 := { stood := { row := fountTextsUptoRow, standIns := [], harness := (true, "4319d671a2bb716605890af31ec555732e6de1bc8fc4107b96a648b894608559"), looks := false }, kinds := [], alts := [], laidByText := true, laidKinds := [.data, .data, .data, .data, .data], laidTests := true, laidLooks := .later }
def FountTextsUptoCardSaid : Prop := Claim7.holds Tryd.pinned (.plain (OpenSpec.upto fountTextsSpec)) fountTextsUptoCard
end Rows
end Go.Proofs.YtebndgepmjonoaaDoor
