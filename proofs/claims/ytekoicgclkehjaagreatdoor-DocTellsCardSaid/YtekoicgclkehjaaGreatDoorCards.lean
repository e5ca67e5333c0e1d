/-
  DERIVED. GIVEN WITH THE SEED: THE CARDS: each row of YtekoicgclkehjaaGreatDoorRows.lean that lists a variable, with what it lists TIED to the program's text (the seventh form; the later family's looks); each row that meets fmt, with fmt's text TOLD by the authors' own Lean function (tested against real Go, not proved from fmt's source: count such statements apart). THE CARD IS WHAT COUNTS. Prove the row's statement (the work); the ties are given (YtekoicgclkehjaaGreatDoorTie.lean); close each card by the builder's one call (the guide's Derived/Test/ToyasCard.lean, 'card_holds'). Laid BY PROGRAM, IN A SANDBOX (cutbox-door.mjs). By AI agents, Wed Nov 11 2026. No macro, syntax, notation, axiom, sorry.
-/
import Derived.Test.YtekoicgclkehjaaGreatDoorRows
import GoSem.ClaimSeven
namespace Go.Proofs.YtekoicgclkehjaaGreatDoor
namespace Rows

/-- THE TIED CARD OF 'cabochonlaw01.DocTells'. -/
def docTellsCard : Claim7 := { stood := { row := docTellsRow, standIns := [], harness := (true, "e3b893276bff17c12b0a3c6c0a57941f3da9922aaea38486d294415c835d86a7"), looks := true }, kinds := [], alts := [], laidByText := true, laidKinds := [.data, .data, .data, .sentinel, .sentinel], laidTests := true, laidLooks := .later }
def DocTellsCardSaid : Prop := Claim7.holds Tryz.pinned (.plain (OpenSpec.ofChange docTellsSpec)) docTellsCard

/-- THE TIED CARD OF 'cabochonlaw01.DocMakes'. -/
def docMakesCard : Claim7 := { stood := { row := docMakesRow, standIns := [], harness := (true, "e3b893276bff17c12b0a3c6c0a57941f3da9922aaea38486d294415c835d86a7"), looks := true }, kinds := [], alts := [], laidByText := true, laidKinds := [.data, .data, .data, .sentinel, .sentinel], laidTests := true, laidLooks := .later }
def DocMakesCardSaid : Prop := Claim7.holds Tryz.pinned (.plain (OpenSpec.ofChange docMakesSpec)) docMakesCard

/-- THE SECOND FORM's CARD OF 'cabochonlaw01.DocTells'. -/
def docTellsUptoCard : Claim7 := { stood := { row := docTellsUptoRow, standIns := [], harness := (true, "e3b893276bff17c12b0a3c6c0a57941f3da9922aaea38486d294415c835d86a7"), looks := true }, kinds := [], alts := [], laidByText := true, laidKinds := [.data, .data, .data, .sentinel, .sentinel], laidTests := true, laidLooks := .later }
def DocTellsUptoCardSaid : Prop := Claim7.holds Tryz.pinned (.plain (OpenSpec.upto docTellsSpec)) docTellsUptoCard

/-- THE SECOND FORM's CARD OF 'cabochonlaw01.DocMakes'. -/
def docMakesUptoCard : Claim7 := { stood := { row := docMakesUptoRow, standIns := [], harness := (true, "e3b893276bff17c12b0a3c6c0a57941f3da9922aaea38486d294415c835d86a7"), looks := true }, kinds := [], alts := [], laidByText := true, laidKinds := [.data, .data, .data, .sentinel, .sentinel], laidTests := true, laidLooks := .later }
def DocMakesUptoCardSaid : Prop := Claim7.holds Tryz.pinned (.plain (OpenSpec.upto docMakesSpec)) docMakesUptoCard
end Rows
end Go.Proofs.YtekoicgclkehjaaGreatDoor
