
import Derived.Laws.CopyOwn
import Derived.Laws.IdiomCopy
import Derived.Test.YtadbeodeiijhdaaGreatDoorKVBase
import Derived.Deep.RegionWith
import Derived.Test.YtadbeodeiijhdaaGreatDoorKUtfAll
namespace Go.Proofs.YtadbeodeiijhdaaGreatDoor
open Go.RowKit

end Go.Proofs.YtadbeodeiijhdaaGreatDoor
namespace Go.Proofs.YtadbeodeiijhdaaGreatDoor
open Go.RowKit

end Go.Proofs.YtadbeodeiijhdaaGreatDoor
namespace Go.Proofs.YtadbeodeiijhdaaGreatDoor
open Go.RowKit

end Go.Proofs.YtadbeodeiijhdaaGreatDoor
namespace Go.Proofs.YtadbeodeiijhdaaGreatDoor
open Go.RowKit

end Go.Proofs.YtadbeodeiijhdaaGreatDoor
namespace Go.Proofs.YtadbeodeiijhdaaGreatDoor
open Go.RowKit

end Go.Proofs.YtadbeodeiijhdaaGreatDoor
namespace Go.Proofs.YtadbeodeiijhdaaGreatDoor
open Go.RowKit

end Go.Proofs.YtadbeodeiijhdaaGreatDoor
namespace Go.Proofs.YtadbeodeiijhdaaGreatDoor
open Go.RowKit

end Go.Proofs.YtadbeodeiijhdaaGreatDoor
namespace Go.Proofs.YtadbeodeiijhdaaGreatDoor
open Go.RowKit

end Go.Proofs.YtadbeodeiijhdaaGreatDoor
namespace Go.Proofs.YtadbeodeiijhdaaGreatDoor
open Go.RowKit

end Go.Proofs.YtadbeodeiijhdaaGreatDoor
namespace Go.Proofs.YtadbeodeiijhdaaGreatDoor
open Go.RowKit

end Go.Proofs.YtadbeodeiijhdaaGreatDoor
