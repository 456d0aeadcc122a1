/- The document's own judgement of texts in trees, walked: Str, Stamp. -/
import Derived.Test.YtjcgkihkjjaefaaGreatDoorKRefVal4
import Derived.Test.YtjcgkihkjjaefaaGreatDoorKRefOne
import Derived.Test.YtjcgkihkjjaefaaGreatDoorKRefDec
namespace Go.Proofs.YtjcgkihkjjaefaaGreatDoor
open Go.RowKit

end Go.Proofs.YtjcgkihkjjaefaaGreatDoor
