/- The document's own likeness of trees, walked: Same. -/
import Derived.Test.YtadbeodeiijhdaaGreatDoorKVSameT
import Derived.Deep.LoopGhost
import Derived.Test.YtadbeodeiijhdaaGreatDoorKRefDec
import Derived.Test.YtadbeodeiijhdaaGreatDoorKOrders
namespace Go.Proofs.YtadbeodeiijhdaaGreatDoor
open Go.RowKit

end Go.Proofs.YtadbeodeiijhdaaGreatDoor
