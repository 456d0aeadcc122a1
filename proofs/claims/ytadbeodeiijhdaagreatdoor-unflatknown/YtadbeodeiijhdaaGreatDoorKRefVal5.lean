/- The document's own judgement of texts in trees, walked: Str, Stamp. -/
import Derived.Test.YtadbeodeiijhdaaGreatDoorKRefVal4
import Derived.Test.YtadbeodeiijhdaaGreatDoorKRefOne
import Derived.Test.YtadbeodeiijhdaaGreatDoorKRefDec
namespace Go.Proofs.YtadbeodeiijhdaaGreatDoor
open Go.RowKit

end Go.Proofs.YtadbeodeiijhdaaGreatDoor
