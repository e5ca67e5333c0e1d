/-
  DERIVED. GIVEN WITH THE SEED: THE CARDS: each row of YtcbbocnblgpbbaaDoorRows.lean that lists a variable, with what it lists TIED to the program's text (the seventh form; the later family's looks); each row that meets fmt, with fmt's text TOLD by the authors' own Lean function (tested against real Go, not proved from fmt's source: count such statements apart). THE CARD IS WHAT COUNTS. Prove the row's statement (the work); the ties are given (YtcbbocnblgpbbaaDoorTie.lean); close each card by the builder's one call (the guide's Derived/Test/ToyasCard.lean, 'card_holds'). Laid BY PROGRAM, IN A SANDBOX (cutbox-door.mjs). By AI agents, Wed Nov 11 2026. No macro, syntax, notation, axiom, sorry.
-/
import Derived.Test.YtcbbocnblgpbbaaDoorRows
import GoSem.ClaimSeven
namespace Go.Proofs.YtcbbocnblgpbbaaDoor
namespace Rows

/-- THE TIED CARD OF 'cabochonlaw04.SchemaTells'. -/
def schemaTellsCard : Claim7 := { stood := { row := schemaTellsRow, standIns := [], harness := (true, "6887adb5857edcc9de0f42be2e7924e369ecffa945af1bf294b248dfc843047d"), looks := false }, kinds := [], alts := [], laidByText := true, laidKinds := [.data, .data, .data], laidTests := true, laidLooks := .later }
def SchemaTellsCardSaid : Prop := Claim7.holds Tryd.pinned (.plain (OpenSpec.ofChange schemaTellsSpec)) schemaTellsCard

/-- THE TIED CARD OF 'cabochonlaw04.SchemaTurns'. -/
def schemaTurnsCard : Claim7 := { stood := { row := schemaTurnsRow, standIns := [], harness := (true, "6887adb5857edcc9de0f42be2e7924e369ecffa945af1bf294b248dfc843047d"), looks := false }, kinds := [], alts := [], laidByText := true, laidKinds := [.data, .data, .data], laidTests := true, laidLooks := .later }
def SchemaTurnsCardSaid : Prop := Claim7.holds Tryd.pinned (.plain (OpenSpec.ofChange schemaTurnsSpec)) schemaTurnsCard

/-- THE TIED CARD OF 'cabochonlaw04.SchemaLeasts'. -/
def schemaLeastsCard : Claim7 := { stood := { row := schemaLeastsRow, standIns := [], harness := (true, "6887adb5857edcc9de0f42be2e7924e369ecffa945af1bf294b248dfc843047d"), looks := false }, kinds := [], alts := [], laidByText := true, laidKinds := [.data, .data, .data], laidTests := true, laidLooks := .later }
def SchemaLeastsCardSaid : Prop := Claim7.holds Tryd.pinned (.plain (OpenSpec.ofChange schemaLeastsSpec)) schemaLeastsCard

/-- THE TIED CARD OF 'cabochonlaw04.SchemaBack'. -/
def schemaBackCard : Claim7 := { stood := { row := schemaBackRow, standIns := [], harness := (true, "6887adb5857edcc9de0f42be2e7924e369ecffa945af1bf294b248dfc843047d"), looks := false }, kinds := [], alts := [], laidByText := true, laidKinds := [.data, .data, .data], laidTests := true, laidLooks := .later }
def SchemaBackCardSaid : Prop := Claim7.holds Tryd.pinned (.plain (OpenSpec.ofChange schemaBackSpec)) schemaBackCard

/-- THE TIED CARD OF 'cabochonlaw04.SchemaCopies'. -/
def schemaCopiesCard : Claim7 := { stood := { row := schemaCopiesRow, standIns := [], harness := (true, "6887adb5857edcc9de0f42be2e7924e369ecffa945af1bf294b248dfc843047d"), looks := false }, kinds := [], alts := [], laidByText := true, laidKinds := [.data, .data, .data], laidTests := true, laidLooks := .later }
def SchemaCopiesCardSaid : Prop := Claim7.holds Tryd.pinned (.plain (OpenSpec.ofChange schemaCopiesSpec)) schemaCopiesCard

/-- THE TIED CARD OF 'cabochonlaw04.SchemaWays'. -/
def schemaWaysCard : Claim7 := { stood := { row := schemaWaysRow, standIns := [], harness := (true, "6887adb5857edcc9de0f42be2e7924e369ecffa945af1bf294b248dfc843047d"), looks := false }, kinds := [], alts := [], laidByText := true, laidKinds := [.data, .data, .data], laidTests := true, laidLooks := .later }
def SchemaWaysCardSaid : Prop := Claim7.holds Tryd.pinned (.plain (OpenSpec.ofChange schemaWaysSpec)) schemaWaysCard

/-- THE SECOND FORM's CARD OF 'cabochonlaw04.SchemaTells'. -/
def schemaTellsUptoCard : Claim7 := { stood := { row := schemaTellsUptoRow, standIns := [], harness := (true, "6887adb5857edcc9de0f42be2e7924e369ecffa945af1bf294b248dfc843047d"), looks := false }, kinds := [], alts := [], laidByText := true, laidKinds := [.data, .data, .data], laidTests := true, laidLooks := .later }
def SchemaTellsUptoCardSaid : Prop := Claim7.holds Tryd.pinned (.plain (OpenSpec.upto schemaTellsSpec)) schemaTellsUptoCard

/-- THE SECOND FORM's CARD OF 'cabochonlaw04.SchemaTurns'. -/
def schemaTurnsUptoCard : Claim7 := { stood := { row := schemaTurnsUptoRow, standIns := [], harness := (true, "6887adb5857edcc9de0f42be2e7924e369ecffa945af1bf294b248dfc843047d"), looks := false }, kinds := [], alts := [], laidByText := true, laidKinds := [.data, .data, .data], laidTests := true, laidLooks := .later }
def SchemaTurnsUptoCardSaid : Prop := Claim7.holds Tryd.pinned (.plain (OpenSpec.upto schemaTurnsSpec)) schemaTurnsUptoCard

/-- THE SECOND FORM's CARD OF 'cabochonlaw04.SchemaLeasts'. -/
def schemaLeastsUptoCard : Claim7 := { stood := { row := schemaLeastsUptoRow, standIns := [], harness := (true, "6887adb5857edcc9de0f42be2e7924e369ecffa945af1bf294b248dfc843047d"), looks := false }, kinds := [], alts := [], laidByText := true, laidKinds := [.data, .data, .data], laidTests := true, laidLooks := .later }
def SchemaLeastsUptoCardSaid : Prop := Claim7.holds Tryd.pinned (.plain (OpenSpec.upto schemaLeastsSpec)) schemaLeastsUptoCard

/-- THE SECOND FORM's CARD OF 'cabochonlaw04.SchemaBack'. -/
def schemaBackUptoCard : Claim7 := { stood := { row := schemaBackUptoRow, standIns := [], harness := (true, "6887adb5857edcc9de0f42be2e7924e369ecffa945af1bf294b248dfc843047d"), looks := false }, kinds := [], alts := [], laidByText := true, laidKinds := [.data, .data, .data], laidTests := true, laidLooks := .later }
def SchemaBackUptoCardSaid : Prop := Claim7.holds Tryd.pinned (.plain (OpenSpec.upto schemaBackSpec)) schemaBackUptoCard

/-- THE SECOND FORM's CARD OF 'cabochonlaw04.SchemaCopies'. -/
def schemaCopiesUptoCard : Claim7 := { stood := { row := schemaCopiesUptoRow, standIns := [], harness := (true, "6887adb5857edcc9de0f42be2e7924e369ecffa945af1bf294b248dfc843047d"), looks := false }, kinds := [], alts := [], laidByText := true, laidKinds := [.data, .data, .data], laidTests := true, laidLooks := .later }
def SchemaCopiesUptoCardSaid : Prop := Claim7.holds Tryd.pinned (.plain (OpenSpec.upto schemaCopiesSpec)) schemaCopiesUptoCard

/-- THE SECOND FORM's CARD OF 'cabochonlaw04.SchemaWays'. -/
def schemaWaysUptoCard : Claim7 := { stood := { row := schemaWaysUptoRow, standIns := [], harness := (true, "6887adb5857edcc9de0f42be2e7924e369ecffa945af1bf294b248dfc843047d"), looks := false }, kinds := [], alts := [], laidByText := true, laidKinds := [.data, .data, .data], laidTests := true, laidLooks := .later }
def SchemaWaysUptoCardSaid : Prop := Claim7.holds Tryd.pinned (.plain (OpenSpec.upto schemaWaysSpec)) schemaWaysUptoCard
end Rows
end Go.Proofs.YtcbbocnblgpbbaaDoor
