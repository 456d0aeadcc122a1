
import Derived.Laws.CopyOwn
import Derived.Laws.IdiomCopy
import Derived.Test.YtjcgkihkjjaefaaGreatDoorKBase
import Derived.Deep.RegionWith
import Derived.Test.YtjcgkihkjjaefaaGreatDoorKVStr
namespace Go.Proofs.YtjcgkihkjjaefaaGreatDoor
open Go.RowKit

end Go.Proofs.YtjcgkihkjjaefaaGreatDoor
namespace Go.Proofs.YtjcgkihkjjaefaaGreatDoor
open Go.RowKit

end Go.Proofs.YtjcgkihkjjaefaaGreatDoor
namespace Go.Proofs.YtjcgkihkjjaefaaGreatDoor
open Go.RowKit

end Go.Proofs.YtjcgkihkjjaefaaGreatDoor
namespace Go.Proofs.YtjcgkihkjjaefaaGreatDoor
open Go.RowKit

end Go.Proofs.YtjcgkihkjjaefaaGreatDoor
namespace Go.Proofs.YtjcgkihkjjaefaaGreatDoor
open Go.RowKit

end Go.Proofs.YtjcgkihkjjaefaaGreatDoor
namespace Go.Proofs.YtjcgkihkjjaefaaGreatDoor
open Go.RowKit

end Go.Proofs.YtjcgkihkjjaefaaGreatDoor
namespace Go.Proofs.YtjcgkihkjjaefaaGreatDoor
open Go.RowKit

end Go.Proofs.YtjcgkihkjjaefaaGreatDoor
namespace Go.Proofs.YtjcgkihkjjaefaaGreatDoor
open Go.RowKit

end Go.Proofs.YtjcgkihkjjaefaaGreatDoor
namespace Go.Proofs.YtjcgkihkjjaefaaGreatDoor
open Go.RowKit

end Go.Proofs.YtjcgkihkjjaefaaGreatDoor
namespace Go.Proofs.YtjcgkihkjjaefaaGreatDoor
open Go.RowKit

end Go.Proofs.YtjcgkihkjjaefaaGreatDoor
