/-
  A text of this claim: EvDeed9.
-/
import Derived.Test.YtimllihegnokeaaGreatDoorQ6
import Derived.Test.YtimllihegnokeaaGreatDoorQ4
import Derived.Test.YtimllihegnokeaaGreatDoorQOvAlloc
namespace Go.Proofs.YtimllihegnokeaaGreatDoor.Ev
open Go.ChangeShapes Go.WideShapes Go.ChangeAt Go.RowKit Ov Va Ga Ex
end Go.Proofs.YtimllihegnokeaaGreatDoor.Ev
