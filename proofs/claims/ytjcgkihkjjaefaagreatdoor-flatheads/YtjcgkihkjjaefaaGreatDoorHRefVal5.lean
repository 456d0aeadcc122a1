/- The document's own judgement of texts in trees, walked: Str, Stamp. -/
import Derived.Test.YtjcgkihkjjaefaaGreatDoorHRefVal4
import Derived.Test.YtjcgkihkjjaefaaGreatDoorHRefOne
import Derived.Test.YtjcgkihkjjaefaaGreatDoorHRefDec
namespace Go.Proofs.YtjcgkihkjjaefaaGreatDoor
open Go.RowKit

end Go.Proofs.YtjcgkihkjjaefaaGreatDoor
