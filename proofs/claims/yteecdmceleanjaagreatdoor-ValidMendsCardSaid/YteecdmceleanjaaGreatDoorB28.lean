/-
  
-/
import Derived.Test.YteecdmceleanjaaGreatDoorB27
namespace Go.Proofs.YteecdmceleanjaaGreatDoor
open Go.RowKit

end Go.Proofs.YteecdmceleanjaaGreatDoor
