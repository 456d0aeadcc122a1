/- The document's own likeness of trees, walked: Same. -/
import Derived.Test.YteimbjamnfkapaaGreatDoorGVSameT
import Derived.Deep.LoopGhost
import Derived.Test.YteimbjamnfkapaaGreatDoorGRefDec
import Derived.Test.YteimbjamnfkapaaGreatDoorGOrders
namespace Go.Proofs.YteimbjamnfkapaaGreatDoor
open Go.RowKit
end Go.Proofs.YteimbjamnfkapaaGreatDoor
