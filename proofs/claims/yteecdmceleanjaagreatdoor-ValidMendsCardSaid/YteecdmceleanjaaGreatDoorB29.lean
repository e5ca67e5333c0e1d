/-
  
-/
import Derived.Test.YteecdmceleanjaaGreatDoorB01
import Derived.Deep.RegionLaw
import Derived.Deep.DrawnRows
namespace Go.Proofs.YteecdmceleanjaaGreatDoor
open Go.RowKit

end Go.Proofs.YteecdmceleanjaaGreatDoor
