/-
  DERIVED. GIVEN WITH THE SEED: THE CARDS: each row of YteecdmceleanjaaGreatDoorRows.lean that lists a variable, with what it lists TIED to the program's text (the seventh form; the later family's looks); each row that meets fmt, with fmt's text TOLD by the authors' own Lean function (tested against real Go, not proved from fmt's source: count such statements apart). THE CARD IS WHAT COUNTS. Prove the row's statement (the work); the ties are given (YteecdmceleanjaaGreatDoorTie.lean); close each card by the builder's one call (the guide's Derived/Test/ToyasCard.lean, 'card_holds'). Laid BY PROGRAM, IN A SANDBOX (cutbox-door.mjs). By AI agents, Wed Nov 11 2026. No macro, syntax, notation, axiom, sorry.
-/
import Derived.Test.YteecdmceleanjaaGreatDoorRows
import GoSem.ClaimSeven
namespace Go.Proofs.YteecdmceleanjaaGreatDoor
namespace Rows

/-- THE TIED CARD OF 'cabochonlaw05.ValidTells'. -/
def validTellsCard : Claim7 := { stood := { row := validTellsRow, standIns := [], harness := (true, "49b4842bec8b5ab3ea4ffab0ccac830cda82e7dc01818d23164a132cec18861e"), looks := true }, kinds := [], alts := [], laidByText := true, laidKinds := [.data, .data, .data], laidTests := true, laidLooks := .later }
def ValidTellsCardSaid : Prop := Claim7.holds Tryz.pinned (.plain (OpenSpec.ofChange validTellsSpec)) validTellsCard

/-- THE TIED CARD OF 'cabochonlaw05.ValidMends'. -/
def validMendsCard : Claim7 := { stood := { row := validMendsRow, standIns := [], harness := (true, "49b4842bec8b5ab3ea4ffab0ccac830cda82e7dc01818d23164a132cec18861e"), looks := true }, kinds := [], alts := [], laidByText := true, laidKinds := [.data, .data, .data], laidTests := true, laidLooks := .later }
def ValidMendsCardSaid : Prop := Claim7.holds Tryz.pinned (.plain (OpenSpec.ofChange validMendsSpec)) validMendsCard

/-- THE TIED CARD OF 'cabochonlaw05.ValidLeast'. -/
def validLeastCard : Claim7 := { stood := { row := validLeastRow, standIns := [], harness := (true, "49b4842bec8b5ab3ea4ffab0ccac830cda82e7dc01818d23164a132cec18861e"), looks := true }, kinds := [], alts := [], laidByText := true, laidKinds := [.data, .data, .data], laidTests := true, laidLooks := .later }
def ValidLeastCardSaid : Prop := Claim7.holds Tryz.pinned (.plain (OpenSpec.ofChange validLeastSpec)) validLeastCard

/-- THE TIED CARD OF 'cabochonlaw05.ValidParts'. -/
def validPartsCard : Claim7 := { stood := { row := validPartsRow, standIns := [], harness := (true, "49b4842bec8b5ab3ea4ffab0ccac830cda82e7dc01818d23164a132cec18861e"), looks := true }, kinds := [], alts := [], laidByText := true, laidKinds := [.data, .data, .data, .sentinel, .sentinel], laidTests := true, laidLooks := .later }
def ValidPartsCardSaid : Prop := Claim7.holds Tryz.pinned (.plain (OpenSpec.ofChange validPartsSpec)) validPartsCard

/-- THE TIED CARD OF 'cabochonlaw05.ValidMore'. -/
def validMoreCard : Claim7 := { stood := { row := validMoreRow, standIns := [], harness := (true, "49b4842bec8b5ab3ea4ffab0ccac830cda82e7dc01818d23164a132cec18861e"), looks := true }, kinds := [], alts := [], laidByText := true, laidKinds := [.data, .data, .data, .sentinel, .sentinel], laidTests := true, laidLooks := .later }
def ValidMoreCardSaid : Prop := Claim7.holds Tryz.pinned (.plain (OpenSpec.ofChange validMoreSpec)) validMoreCard

/-- THE TIED CARD OF 'cabochonlaw05.ValidEach'. -/
def validEachCard : Claim7 := { stood := { row := validEachRow, standIns := [], harness := (true, "49b4842bec8b5ab3ea4ffab0ccac830cda82e7dc01818d23164a132cec18861e"), looks := true }, kinds := [], alts := [], laidByText := true, laidKinds := [.data, .data, .data, .sentinel, .sentinel], laidTests := true, laidLooks := .later }
def ValidEachCardSaid : Prop := Claim7.holds Tryz.pinned (.plain (OpenSpec.ofChange validEachSpec)) validEachCard

/-- THE SECOND FORM's CARD OF 'cabochonlaw05.ValidTells'. -/
def validTellsUptoCard : Claim7 := { stood := { row := validTellsUptoRow, standIns := [], harness := (true, "49b4842bec8b5ab3ea4ffab0ccac830cda82e7dc01818d23164a132cec18861e"), looks := true }, kinds := [], alts := [], laidByText := true, laidKinds := [.data, .data, .data], laidTests := true, laidLooks := .later }
def ValidTellsUptoCardSaid : Prop := Claim7.holds Tryz.pinned (.plain (OpenSpec.upto validTellsSpec)) validTellsUptoCard

/-- THE SECOND FORM's CARD OF 'cabochonlaw05.ValidMends'. -/
def validMendsUptoCard : Claim7 := { stood := { row := validMendsUptoRow, standIns := [], harness := (true, "49b4842bec8b5ab3ea4ffab0ccac830cda82e7dc01818d23164a132cec18861e"), looks := true }, kinds := [], alts := [], laidByText := true, laidKinds := [.data, .data, .data], laidTests := true, laidLooks := .later }
def ValidMendsUptoCardSaid : Prop := Claim7.holds Tryz.pinned (.plain (OpenSpec.upto validMendsSpec)) validMendsUptoCard

/-- THE SECOND FORM's CARD OF 'cabochonlaw05.ValidLeast'. -/
def validLeastUptoCard : Claim7 := { stood := { row := validLeastUptoRow, standIns := [], harness := (true, "49b4842bec8b5ab3ea4ffab0ccac830cda82e7dc01818d23164a132cec18861e"), looks := true }, kinds := [], alts := [], laidByText := true, laidKinds := [.data, .data, .data], laidTests := true, laidLooks := .later }
def ValidLeastUptoCardSaid : Prop := Claim7.holds Tryz.pinned (.plain (OpenSpec.upto validLeastSpec)) validLeastUptoCard

/-- THE SECOND FORM's CARD OF 'cabochonlaw05.ValidParts'. -/
def validPartsUptoCard : Claim7 := { stood := { row := validPartsUptoRow, standIns := [], harness := (true, "49b4842bec8b5ab3ea4ffab0ccac830cda82e7dc01818d23164a132cec18861e"), looks := true }, kinds := [], alts := [], laidByText := true, laidKinds := [.data, .data, .data, .sentinel, .sentinel], laidTests := true, laidLooks := .later }
def ValidPartsUptoCardSaid : Prop := Claim7.holds Tryz.pinned (.plain (OpenSpec.upto validPartsSpec)) validPartsUptoCard

/-- THE SECOND FORM's CARD OF 'cabochonlaw05.ValidMore'. -/
def validMoreUptoCard : Claim7 := { stood := { row := validMoreUptoRow, standIns := [], harness := (true, "49b4842bec8b5ab3ea4ffab0ccac830cda82e7dc01818d23164a132cec18861e"), looks := true }, kinds := [], alts := [], laidByText := true, laidKinds := [.data, .data, .data, .sentinel, .sentinel], laidTests := true, laidLooks := .later }
def ValidMoreUptoCardSaid : Prop := Claim7.holds Tryz.pinned (.plain (OpenSpec.upto validMoreSpec)) validMoreUptoCard

/-- THE SECOND FORM's CARD OF 'cabochonlaw05.ValidEach'. -/
def validEachUptoCard : Claim7 := { stood := { row := validEachUptoRow, standIns := [], harness := (true, "49b4842bec8b5ab3ea4ffab0ccac830cda82e7dc01818d23164a132cec18861e"), looks := true }, kinds := [], alts := [], laidByText := true, laidKinds := [.data, .data, .data, .sentinel, .sentinel], laidTests := true, laidLooks := .later }
def ValidEachUptoCardSaid : Prop := Claim7.holds Tryz.pinned (.plain (OpenSpec.upto validEachSpec)) validEachUptoCard
end Rows
end Go.Proofs.YteecdmceleanjaaGreatDoor
