/- The document's own likeness of trees, walked: Same. -/
import Derived.Test.YtjcgkihkjjaefaaGreatDoorHVSameT
import Derived.Deep.LoopGhost
import Derived.Test.YtjcgkihkjjaefaaGreatDoorHRefDec
import Derived.Test.YtjcgkihkjjaefaaGreatDoorHOrders
namespace Go.Proofs.YtjcgkihkjjaefaaGreatDoor
open Go.RowKit

end Go.Proofs.YtjcgkihkjjaefaaGreatDoor
