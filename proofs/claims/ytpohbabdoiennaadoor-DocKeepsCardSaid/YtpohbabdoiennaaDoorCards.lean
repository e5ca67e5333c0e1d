/-
  DERIVED. GIVEN WITH THE SEED: THE CARDS: each row of YtpohbabdoiennaaDoorRows.lean that lists a variable, with what it lists TIED to the program's text (the seventh form; the later family's looks); each row that meets fmt, with fmt's text TOLD by the authors' own Lean function (tested against real Go, not proved from fmt's source: count such statements apart). THE CARD IS WHAT COUNTS. Prove the row's statement (the work); the ties are given (YtpohbabdoiennaaDoorTie.lean); close each card by the builder's one call (the guide's Derived/Test/ToyasCard.lean, 'card_holds'). Laid BY PROGRAM, IN A SANDBOX (cutbox-door.mjs). By AI agents, Wed Nov 11 2026. No macro, syntax, notation, axiom, sorry.
-/
import Derived.Test.YtpohbabdoiennaaDoorRows
import GoSem.ClaimSeven
namespace Go.Proofs.YtpohbabdoiennaaDoor
namespace Rows

/-- THE TIED CARD OF 'cabochonlaw01.DocKeeps'. -/
def docKeepsCard : Claim7 := { stood := { row := docKeepsRow, standIns := [], harness := (true, "660575c02305d33d1e8601330629e4a278870eac1b0e8755b38a930e53d946e1"), looks := true }, kinds := [], alts := [], laidByText := true, laidKinds := [.data, .data, .data, .sentinel, .sentinel], laidTests := true, laidLooks := .later }
def DocKeepsCardSaid : Prop := Claim7.holds Tryd.pinned (.plain (OpenSpec.ofChange docKeepsSpec)) docKeepsCard

/-- THE SECOND FORM's CARD OF 'cabochonlaw01.DocKeeps'. -/
def docKeepsUptoCard : Claim7 := { stood := { row := docKeepsUptoRow, standIns := [], harness := (true, "660575c02305d33d1e8601330629e4a278870eac1b0e8755b38a930e53d946e1"), looks := true }, kinds := [], alts := [], laidByText := true, laidKinds := [.data, .data, .data, .sentinel, .sentinel], laidTests := true, laidLooks := .later }
def DocKeepsUptoCardSaid : Prop := Claim7.holds Tryd.pinned (.plain (OpenSpec.upto docKeepsSpec)) docKeepsUptoCard
end Rows
end Go.Proofs.YtpohbabdoiennaaDoor
