/- The document's own likeness of trees, walked: Same. -/
import Derived.Test.YteimbjamnfkapaaGreatDoorLVSameT
import Derived.Deep.LoopGhost
import Derived.Test.YteimbjamnfkapaaGreatDoorLRefDec
import Derived.Test.YteimbjamnfkapaaGreatDoorLOrders
namespace Go.Proofs.YteimbjamnfkapaaGreatDoor
open Go.RowKit
end Go.Proofs.YteimbjamnfkapaaGreatDoor
