/- The document's own likeness of trees, walked: Same. -/
import Derived.Test.YtjcgkihkjjaefaaGreatDoorOVSameT
import Derived.Deep.LoopGhost
import Derived.Test.YtjcgkihkjjaefaaGreatDoorORefDec
import Derived.Test.YtjcgkihkjjaefaaGreatDoorOOrders
namespace Go.Proofs.YtjcgkihkjjaefaaGreatDoor
open Go.RowKit

end Go.Proofs.YtjcgkihkjjaefaaGreatDoor
