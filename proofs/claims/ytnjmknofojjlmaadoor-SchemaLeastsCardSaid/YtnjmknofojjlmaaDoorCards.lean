/-
  DERIVED. GIVEN WITH THE SEED: THE CARDS: each row of YtnjmknofojjlmaaDoorRows.lean that lists a variable, with what it lists TIED to the program's text (the seventh form; the later family's looks); each row that meets fmt, with fmt's text TOLD by the authors' own Lean function (tested against real Go, not proved from fmt's source: count such statements apart). THE CARD IS WHAT COUNTS. Prove the row's statement (the work); the ties are given (YtnjmknofojjlmaaDoorTie.lean); close each card by the builder's one call (the guide's Derived/Test/ToyasCard.lean, 'card_holds'). Laid BY PROGRAM, IN A SANDBOX (cutbox-door.mjs). By AI agents, Wed Nov 11 2026. No macro, syntax, notation, axiom, sorry.
-/
import Derived.Test.YtnjmknofojjlmaaDoorRows
import GoSem.ClaimSeven
namespace Go.Proofs.YtnjmknofojjlmaaDoor
namespace Rows

/-- THE TIED CARD OF 'cabochonlaw04.SchemaLeasts'. -/
def schemaLeastsCard : Claim7 := { stood := { row := schemaLeastsRow, standIns := [], harness := (true, "9a21230a856c73d01b690c1fe1abed7600e79dba9f0bf5599a2da5789259763c"), looks := false }, kinds := [], alts := [], laidByText := true, laidKinds := [.data, .data, .data], laidTests := true, laidLooks := .later }
def SchemaLeastsCardSaid : Prop := Claim7.holds Tryd.pinned (.plain (OpenSpec.ofChange schemaLeastsSpec)) schemaLeastsCard

/-- THE SECOND FORM's CARD OF 'cabochonlaw04.SchemaLeasts'. -/
def schemaLeastsUptoCard : Claim7 := { stood := { row := schemaLeastsUptoRow, standIns := [], harness := (true, "9a21230a856c73d01b690c1fe1abed7600e79dba9f0bf5599a2da5789259763c"), looks := false }, kinds := [], alts := [], laidByText := true, laidKinds := [.data, .data, .data], laidTests := true, laidLooks := .later }
def SchemaLeastsUptoCardSaid : Prop := Claim7.holds Tryd.pinned (.plain (OpenSpec.upto schemaLeastsSpec)) schemaLeastsUptoCard
end Rows
end Go.Proofs.YtnjmknofojjlmaaDoor
