
import Derived.Test.YtadbeodeiijhdaaGreatDoorKFlB
/- flat: a node visited: another way. -/
namespace Go.Proofs.YtadbeodeiijhdaaGreatDoor
open Go.RowKit

end Go.Proofs.YtadbeodeiijhdaaGreatDoor
