/-
  
-/
import Derived.Test.YteecdmceleanjaaGreatDoorB28
import Derived.Test.YteecdmceleanjaaGreatDoorB30
namespace Go.Proofs.YteecdmceleanjaaGreatDoor
open Go.RowKit

def D.ins (d : D) (s : ByteArray) (y : D) : D :=
  let p := (d.keys.takeWhile fun k => decide (scmp k s = -1)).length
  .mk d.kind d.num d.str (d.keys.take p ++ s :: d.keys.drop p) (d.kids.take p ++ y :: d.kids.drop p)
def setD (x : D) (s : ByteArray) (y : D) : Option D :=
  match stepD x s with
  | some i => some (x.setKid i y)
  | none => if keyOfB x.kind s = true then some (x.ins s y) else if x.kind = 3 ∧ placeI s = x.kids.length then some (x.snoc y) else none
def SetTold (w : World) (base : Nat) (x y : D) (s : ByteArray) (b off : Nat) (G FY : List Nat) (e : Ending) (w' : World) : Prop :=
  (setD x s y = none ∧ e = .returned (.bool false) ∧ Below w.heap.size w w') ∨ ∃ x', setD x s y = some x' ∧ e = .returned (.bool true) ∧ SetOk w base x' b off G FY w'
/-- .. told as one. -/
def SetOne (w : World) (base : Nat) (x y : D) (s : ByteArray) (b off : Nat) (G FY : List Nat) (ok : Bool) (w' : World) : Prop :=
  (ok = false ∧ setD x s y = none) ∨ (ok = true ∧ ∃ x', setD x s y = some x' ∧ SetOk w base x' b off G FY w')
/-- What Put tells. -/
def putV (d y : D) (ps : List ByteArray) : D × Int :=
  if rightB d = false ∨ rightB y = false then (D.zero, 1)
  else if ps = [] then (y, 0)
  else match D.locate d ps.dropLast with
    | none => (D.zero, 3)
    | some is => match D.subAt d is with
      | none => (D.zero, 3)
      | some x => match setD x (ps.getLastD ByteArray.empty) y with
        | none => (D.zero, 3)
        | some x' => (D.repl d is x', 0)
/-- No key is new on the way. -/
def OldKey (d : D) (ps : List ByteArray) : Prop := ∀ is x, D.locate d ps.dropLast = some is → D.subAt d is = some x → stepD x (ps.getLastD ByteArray.empty) = none → keyOfB x.kind (ps.getLastD ByteArray.empty) = false

end Go.Proofs.YteecdmceleanjaaGreatDoor
