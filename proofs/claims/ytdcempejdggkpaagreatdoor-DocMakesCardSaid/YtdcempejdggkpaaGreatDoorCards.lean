/-
  DERIVED. GIVEN WITH THE SEED: THE CARDS: each row of YtdcempejdggkpaaGreatDoorRows.lean that lists a variable, with what it lists TIED to the program's text (the seventh form; the later family's looks); each row that meets fmt, with fmt's text TOLD by the authors' own Lean function (tested against real Go, not proved from fmt's source: count such statements apart). THE CARD IS WHAT COUNTS. Prove the row's statement (the work); the ties are given (YtdcempejdggkpaaGreatDoorTie.lean); close each card by the builder's one call (the guide's Derived/Test/ToyasCard.lean, 'card_holds'). Laid BY PROGRAM, IN A SANDBOX (cutbox-door.mjs). By AI agents, Wed Nov 11 2026. No macro, syntax, notation, axiom, sorry.
-/
import Derived.Test.YtdcempejdggkpaaGreatDoorRows
import GoSem.ClaimSeven
namespace Go.Proofs.YtdcempejdggkpaaGreatDoor
namespace Rows

/-- THE TIED CARD OF 'cabochonlaw01.DocMakes'. -/
def docMakesCard : Claim7 := { stood := { row := docMakesRow, standIns := [], harness := (true, "831fdb0e3dc24c73d35265d0452cca2bee2218c5afe49dc413e68614d9755573"), looks := true }, kinds := [], alts := [], laidByText := true, laidKinds := [.data, .data, .data, .sentinel, .sentinel], laidTests := true, laidLooks := .later }
def DocMakesCardSaid : Prop := Claim7.holds Tryz.pinned (.plain (OpenSpec.ofChange docMakesSpec)) docMakesCard

/-- THE SECOND FORM's CARD OF 'cabochonlaw01.DocMakes'. -/
def docMakesUptoCard : Claim7 := { stood := { row := docMakesUptoRow, standIns := [], harness := (true, "831fdb0e3dc24c73d35265d0452cca2bee2218c5afe49dc413e68614d9755573"), looks := true }, kinds := [], alts := [], laidByText := true, laidKinds := [.data, .data, .data, .sentinel, .sentinel], laidTests := true, laidLooks := .later }
def DocMakesUptoCardSaid : Prop := Claim7.holds Tryz.pinned (.plain (OpenSpec.upto docMakesSpec)) docMakesUptoCard
end Rows
end Go.Proofs.YtdcempejdggkpaaGreatDoor
