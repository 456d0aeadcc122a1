import Derived.Test.YteimbjamnfkapaaGreatDoorGShelf3
import Derived.Test.YteimbjamnfkapaaGreatDoorGOwnB
/- flat: a node visited: a leaf; a list; a map; and Leaves. -/
namespace Go.Proofs.YteimbjamnfkapaaGreatDoor
open Go.RowKit
end Go.Proofs.YteimbjamnfkapaaGreatDoor
/- flat: a node visited: another way. -/
namespace Go.Proofs.YteimbjamnfkapaaGreatDoor
open Go.RowKit
end Go.Proofs.YteimbjamnfkapaaGreatDoor
/- flat: a node visited: another way. -/
namespace Go.Proofs.YteimbjamnfkapaaGreatDoor
open Go.RowKit
end Go.Proofs.YteimbjamnfkapaaGreatDoor
/- flat: a node visited: another way. -/
namespace Go.Proofs.YteimbjamnfkapaaGreatDoor
open Go.RowKit
end Go.Proofs.YteimbjamnfkapaaGreatDoor
/- flat: a node visited, every way; Leaves. -/
namespace Go.Proofs.YteimbjamnfkapaaGreatDoor
open Go.RowKit
end Go.Proofs.YteimbjamnfkapaaGreatDoor
