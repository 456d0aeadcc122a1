/- The document's own judgement of texts in trees, walked: Str, Stamp. -/
import Derived.Test.YteimbjamnfkapaaGreatDoorCRefVal4
import Derived.Test.YteimbjamnfkapaaGreatDoorCRefOne
import Derived.Test.YteimbjamnfkapaaGreatDoorCRefDec
namespace Go.Proofs.YteimbjamnfkapaaGreatDoor
open Go.RowKit
end Go.Proofs.YteimbjamnfkapaaGreatDoor
