/- The document's own judgement of texts in trees, walked: Str, Stamp. -/
import Derived.Test.YteimbjamnfkapaaGreatDoorGRefVal4
import Derived.Test.YteimbjamnfkapaaGreatDoorGRefOne
import Derived.Test.YteimbjamnfkapaaGreatDoorGRefDec
namespace Go.Proofs.YteimbjamnfkapaaGreatDoor
open Go.RowKit
end Go.Proofs.YteimbjamnfkapaaGreatDoor
