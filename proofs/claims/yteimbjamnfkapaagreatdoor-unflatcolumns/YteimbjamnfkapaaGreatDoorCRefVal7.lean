/- The document's own reckoning of trees, walked: Get. -/
import Derived.Test.YteimbjamnfkapaaGreatDoorCVBase
import Derived.Lib.Strings
namespace Go.Proofs.YteimbjamnfkapaaGreatDoor
open Go.RowKit
end Go.Proofs.YteimbjamnfkapaaGreatDoor
