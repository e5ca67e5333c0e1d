/-
  DERIVED. GIVEN WITH THE SEED: THE CARDS: each row of YtekoicgclkehjaaDoorRows.lean that lists a variable, with what it lists TIED to the program's text (the seventh form; the later family's looks); each row that meets fmt, with fmt's text TOLD by the authors' own Lean function (tested against real Go, not proved from fmt's source: count such statements apart). THE CARD IS WHAT COUNTS. Prove the row's statement (the work); the ties are given (YtekoicgclkehjaaDoorTie.lean); close each card by the builder's one call (the guide's Derived/Test/ToyasCard.lean, 'card_holds'). Laid BY PROGRAM, IN A SANDBOX (cutbox-door.mjs). By AI agents, Wed Nov 11 2026. No macro, syntax, notation, axiom, sorry.
-/
import Derived.Test.YtekoicgclkehjaaDoorRows
import GoSem.ClaimSeven
namespace Go.Proofs.YtekoicgclkehjaaDoor
namespace Rows

/-- THE TIED CARD OF 'cabochonlaw01.DocKeeps'. -/
def docKeepsCard : Claim7 := { stood := { row := docKeepsRow, standIns := [], harness := (true, "20d492875dde5a4dfddfed6bc261118106d6ebec3a648c35e29b59e2d6737522"), looks := true }, kinds := [], alts := [], laidByText := true, laidKinds := [.data, .data, .data, .sentinel, .sentinel], laidTests := true, laidLooks := .later }
def DocKeepsCardSaid : Prop := Claim7.holds Tryd.pinned (.plain (OpenSpec.ofChange docKeepsSpec)) docKeepsCard

/-- THE TIED CARD OF 'cabochonlaw01.DocOrders'. -/
def docOrdersCard : Claim7 := { stood := { row := docOrdersRow, standIns := [], harness := (true, "20d492875dde5a4dfddfed6bc261118106d6ebec3a648c35e29b59e2d6737522"), looks := true }, kinds := [], alts := [], laidByText := true, laidKinds := [.data, .data, .data, .sentinel, .sentinel], laidTests := true, laidLooks := .later }
def DocOrdersCardSaid : Prop := Claim7.holds Tryd.pinned (.plain (OpenSpec.ofChange docOrdersSpec)) docOrdersCard

/-- THE TIED CARD OF 'cabochonlaw01.DocGrows'. -/
def docGrowsCard : Claim7 := { stood := { row := docGrowsRow, standIns := [], harness := (true, "20d492875dde5a4dfddfed6bc261118106d6ebec3a648c35e29b59e2d6737522"), looks := true }, kinds := [], alts := [], laidByText := true, laidKinds := [.data, .data, .data, .sentinel, .sentinel], laidTests := true, laidLooks := .later }
def DocGrowsCardSaid : Prop := Claim7.holds Tryd.pinned (.plain (OpenSpec.ofChange docGrowsSpec)) docGrowsCard

/-- THE TIED CARD OF 'cabochonlaw01.DocLimits'. -/
def docLimitsCard : Claim7 := { stood := { row := docLimitsRow, standIns := [], harness := (true, "20d492875dde5a4dfddfed6bc261118106d6ebec3a648c35e29b59e2d6737522"), looks := true }, kinds := [], alts := [], laidByText := true, laidKinds := [.data, .data, .data, .sentinel, .sentinel], laidTests := true, laidLooks := .later }
def DocLimitsCardSaid : Prop := Claim7.holds Tryd.pinned (.plain (OpenSpec.ofChange docLimitsSpec)) docLimitsCard

/-- THE TIED CARD OF 'cabochonlaw01.DocLists'. -/
def docListsCard : Claim7 := { stood := { row := docListsRow, standIns := [], harness := (true, "20d492875dde5a4dfddfed6bc261118106d6ebec3a648c35e29b59e2d6737522"), looks := true }, kinds := [], alts := [], laidByText := true, laidKinds := [.data, .data, .data, .sentinel, .sentinel], laidTests := true, laidLooks := .later }
def DocListsCardSaid : Prop := Claim7.holds Tryd.pinned (.plain (OpenSpec.ofChange docListsSpec)) docListsCard

/-- THE SECOND FORM's CARD OF 'cabochonlaw01.DocKeeps'. -/
def docKeepsUptoCard : Claim7 := { stood := { row := docKeepsUptoRow, standIns := [], harness := (true, "20d492875dde5a4dfddfed6bc261118106d6ebec3a648c35e29b59e2d6737522"), looks := true }, kinds := [], alts := [], laidByText := true, laidKinds := [.data, .data, .data, .sentinel, .sentinel], laidTests := true, laidLooks := .later }
def DocKeepsUptoCardSaid : Prop := Claim7.holds Tryd.pinned (.plain (OpenSpec.upto docKeepsSpec)) docKeepsUptoCard

/-- THE SECOND FORM's CARD OF 'cabochonlaw01.DocOrders'. -/
def docOrdersUptoCard : Claim7 := { stood := { row := docOrdersUptoRow, standIns := [], harness := (true, "20d492875dde5a4dfddfed6bc261118106d6ebec3a648c35e29b59e2d6737522"), looks := true }, kinds := [], alts := [], laidByText := true, laidKinds := [.data, .data, .data, .sentinel, .sentinel], laidTests := true, laidLooks := .later }
def DocOrdersUptoCardSaid : Prop := Claim7.holds Tryd.pinned (.plain (OpenSpec.upto docOrdersSpec)) docOrdersUptoCard

/-- THE SECOND FORM's CARD OF 'cabochonlaw01.DocGrows'. -/
def docGrowsUptoCard : Claim7 := { stood := { row := docGrowsUptoRow, standIns := [], harness := (true, "20d492875dde5a4dfddfed6bc261118106d6ebec3a648c35e29b59e2d6737522"), looks := true }, kinds := [], alts := [], laidByText := true, laidKinds := [.data, .data, .data, .sentinel, .sentinel], laidTests := true, laidLooks := .later }
def DocGrowsUptoCardSaid : Prop := Claim7.holds Tryd.pinned (.plain (OpenSpec.upto docGrowsSpec)) docGrowsUptoCard

/-- THE SECOND FORM's CARD OF 'cabochonlaw01.DocLimits'. -/
def docLimitsUptoCard : Claim7 := { stood := { row := docLimitsUptoRow, standIns := [], harness := (true, "20d492875dde5a4dfddfed6bc261118106d6ebec3a648c35e29b59e2d6737522"), looks := true }, kinds := [], alts := [], laidByText := true, laidKinds := [.data, .data, .data, .sentinel, .sentinel], laidTests := true, laidLooks := .later }
def DocLimitsUptoCardSaid : Prop := Claim7.holds Tryd.pinned (.plain (OpenSpec.upto docLimitsSpec)) docLimitsUptoCard

/-- THE SECOND FORM's CARD OF 'cabochonlaw01.DocLists'. -/
def docListsUptoCard : Claim7 := { stood := { row := docListsUptoRow, standIns := [], harness := (true, "20d492875dde5a4dfddfed6bc261118106d6ebec3a648c35e29b59e2d6737522"), looks := true }, kinds := [], alts := [], laidByText := true, laidKinds := [.data, .data, .data, .sentinel, .sentinel], laidTests := true, laidLooks := .later }
def DocListsUptoCardSaid : Prop := Claim7.holds Tryd.pinned (.plain (OpenSpec.upto docListsSpec)) docListsUptoCard
end Rows
end Go.Proofs.YtekoicgclkehjaaDoor
