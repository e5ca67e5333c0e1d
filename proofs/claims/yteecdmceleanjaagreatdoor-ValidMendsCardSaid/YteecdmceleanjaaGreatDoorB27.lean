/-
  
-/
import Derived.Test.YteecdmceleanjaaGreatDoorB26
namespace Go.Proofs.YteecdmceleanjaaGreatDoor
open Go.RowKit
attribute [local go_sem ↓] Go.wp_at_zero Go.wp_at_succ

end Go.Proofs.YteecdmceleanjaaGreatDoor
