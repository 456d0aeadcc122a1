import Derived.Laws.CopyOwn
import Derived.Laws.IdiomCopy
import Derived.Test.YteimbjamnfkapaaGreatDoorCBase
import Derived.Deep.RegionWith
import Derived.Test.YteimbjamnfkapaaGreatDoorCVStr
namespace Go.Proofs.YteimbjamnfkapaaGreatDoor
open Go.RowKit
end Go.Proofs.YteimbjamnfkapaaGreatDoor
