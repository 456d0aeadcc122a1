import Derived.Laws.CopyOwn
import Derived.Laws.IdiomCopy
import Derived.Test.YteimbjamnfkapaaGreatDoorLVBase
import Derived.Deep.RegionWith
import Derived.Test.YteimbjamnfkapaaGreatDoorLVStr
namespace Go.Proofs.YteimbjamnfkapaaGreatDoor
open Go.RowKit
end Go.Proofs.YteimbjamnfkapaaGreatDoor
