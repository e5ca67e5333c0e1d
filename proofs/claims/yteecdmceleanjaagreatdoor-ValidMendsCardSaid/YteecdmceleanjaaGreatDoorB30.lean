/-
  
  
-/
import Derived.Test.YteecdmceleanjaaGreatDoorB29
import Derived.Test.YteecdmceleanjaaGreatDoorB26
namespace Go.Proofs.YteecdmceleanjaaGreatDoor
open Go.RowKit

def D.dropKid (d : D) (i : Nat) : D := .mk d.kind d.num d.str (if d.kind = 3 then d.keys else d.keys.take i ++ d.keys.drop (i + 1)) (d.kids.take i ++ d.kids.drop (i + 1))

end Go.Proofs.YteecdmceleanjaaGreatDoor
namespace Go.Proofs.YteecdmceleanjaaGreatDoor
open Go.RowKit

/-- What Drop tells. -/
def dropV (d : D) (ps : List ByteArray) : D × Int :=
  if rightB d = false ∨ ps = [] then (D.zero, 1)
  else match D.locate d ps.dropLast with
    | none => (D.zero, 3)
    | some is => match D.subAt d is with
      | none => (D.zero, 3)
      | some x => match stepD x (ps.getLastD ByteArray.empty) with
        | none => (D.zero, 3)
        | some i => (D.repl d is (x.dropKid i), 0)

end Go.Proofs.YteecdmceleanjaaGreatDoor
