/-
  A text of this claim: EvDeed6.
-/
import Derived.Test.YtimllihegnokeaaGreatDoorQ6
namespace Go.Proofs.YtimllihegnokeaaGreatDoor.Ev
open Go.ChangeShapes Go.WideShapes Go.ChangeAt Go.RowKit Ov Va Ga Ex
end Go.Proofs.YtimllihegnokeaaGreatDoor.Ev
