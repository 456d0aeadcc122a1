/- The document's own likeness of trees, walked: Same. -/
import Derived.Test.YtjcgkihkjjaefaaGreatDoorKVSameT
import Derived.Deep.LoopGhost
import Derived.Test.YtjcgkihkjjaefaaGreatDoorKRefDec
import Derived.Test.YtjcgkihkjjaefaaGreatDoorKOrders
namespace Go.Proofs.YtjcgkihkjjaefaaGreatDoor
open Go.RowKit

end Go.Proofs.YtjcgkihkjjaefaaGreatDoor
