import Derived.Test.YteimbjamnfkapaaGreatDoorGOrders
import Derived.Deep.DeepCutAuto
import Derived.Deep.CutRange
import Derived.Test.YteimbjamnfkapaaGreatDoorGMathDecAll
import Derived.Deep.RegionWith
/- The document's own reckoning of numbers' texts, walked: digit, run, power, sign. -/
/- The document's own reckoning of a number's text, walked: parts. -/
/- The document's own reckoning of numbers' texts, walked: Form, Number, scaled, Whole. -/
/- The document's own order of numbers, walked: Cmp. -/
/- The document's own reading of whole numbers, walked: Int. -/
namespace Go.Proofs.YteimbjamnfkapaaGreatDoor
open Go.RowKit
theorem mkS_add (a b : List UInt8) : mkS a ++ mkS b = mkS (a ++ b) := by
 apply mkS_of; simp [mkS]
def szOf (v : Value) : Nat := match v with | .string x => x.size | _ => 0
end Go.Proofs.YteimbjamnfkapaaGreatDoor
