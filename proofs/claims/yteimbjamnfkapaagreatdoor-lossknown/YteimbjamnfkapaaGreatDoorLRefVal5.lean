/- The document's own judgement of texts in trees, walked: Str, Stamp. -/
import Derived.Test.YteimbjamnfkapaaGreatDoorLRefVal4
import Derived.Test.YteimbjamnfkapaaGreatDoorLRefOne
import Derived.Test.YteimbjamnfkapaaGreatDoorLRefDec
namespace Go.Proofs.YteimbjamnfkapaaGreatDoor
open Go.RowKit
end Go.Proofs.YteimbjamnfkapaaGreatDoor
