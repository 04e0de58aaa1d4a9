/-
  Small texts of this claim, together: EvPre, EvDeed1, EvDeed2, EvDeed3, EvAlike, EvReckon, EvDeed4, EvDeed5, EvDeed7, EvDeed8.
-/
import Derived.Test.YtimllihegnokeaaGreatDoorQEvParts
import Derived.Test.YtimllihegnokeaaGreatDoorQ5
import Derived.Test.YtimllihegnokeaaGreatDoorQ3
import Derived.Deep.QuietTactic
import Derived.BigQuiet
import Derived.Test.YtimllihegnokeaaGreatDoorQ2
import Derived.Defers
import Derived.Test.YtimllihegnokeaaGreatDoorQ1
namespace Go.Proofs.YtimllihegnokeaaGreatDoor.Ev
open Go.ChangeShapes Go.WideShapes Go.ChangeAt Go.RowKit Ov Va Ex
end Go.Proofs.YtimllihegnokeaaGreatDoor.Ev
namespace Go.Proofs.YtimllihegnokeaaGreatDoor.Ev
open Go.ChangeShapes Go.WideShapes Go.ChangeAt Go.RowKit Ov Va Ga Ex
end Go.Proofs.YtimllihegnokeaaGreatDoor.Ev
