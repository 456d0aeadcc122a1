/- The document's own judgement of trees, walked: plain. -/
import Derived.Test.YteimbjamnfkapaaGreatDoorLRefVal5
import Derived.Test.YteimbjamnfkapaaGreatDoorLFlA
import Derived.Test.YteimbjamnfkapaaGreatDoorLOrders
namespace Go.Proofs.YteimbjamnfkapaaGreatDoor
open Go.RowKit
def badKd (k : Int) (a b c d : Bool) : Bool := (k != 1 && k != 2 && !a) || (k != 3 && k != 4 && k != 7 && !b) || (k != 5 && !c) || (k != 6 && !d)
def kindC (k n : Int) (num te st ks : Bool) : Bool :=
 if k = 0 then true else if k = 2 then true else if k = 1 then (n == 0 || n == 1) else if k = 3 then num else if k = 4 then te else if k = 7 then st else if k = 5 then true else if k = 6 then ks else false
end Go.Proofs.YteimbjamnfkapaaGreatDoor
