/- The document's own reckoning of trees, walked: steep, Heavy, Deep. -/
import Derived.Test.YteimbjamnfkapaaGreatDoorLVBase
import Derived.Deep.LoopGhost
namespace Go.Proofs.YteimbjamnfkapaaGreatDoor
open Go.RowKit
def fitB (T : VT) (deep nodes : Int) : Bool := decide ((hgT T : Int) ≤ deep ∧ (szT T : Int) ≤ nodes)
def fitN (T : VT) (deep nodes : Int) : Int := if (hgT T : Int) ≤ deep ∧ (szT T : Int) ≤ nodes then nodes - szT T else 0
end Go.Proofs.YteimbjamnfkapaaGreatDoor
