
import Derived.Test.YtadbeodeiijhdaaGreatDoorKPathOne
import Derived.Test.YtadbeodeiijhdaaGreatDoorKRefVal5
import Derived.Test.YtadbeodeiijhdaaGreatDoorKOrders
import Derived.Test.YtadbeodeiijhdaaGreatDoorKVHold
import Derived.Deep.AppendLies
import Derived.BigQuiet
/- The document's side: may a path be? -/
/- The document's side: a path as its own steps. -/
/- The document's side: are two paths alike? -/
namespace Go.Proofs.YtadbeodeiijhdaaGreatDoor
open Go.RowKit

/-- a step may be -/
def stepOk (s : PStep) : Bool := if s.place = true then (s.key.toList.isEmpty && decide (0 ≤ s.at_ ∧ s.at_ ≤ 1000000000)) else (decide (s.at_ = 0) && strOkB s.key)
def pathOk (p : List PStep) : Bool := decide (p.length ≤ 50) && p.all stepOk
end Go.Proofs.YtadbeodeiijhdaaGreatDoor
namespace Go.Proofs.YtadbeodeiijhdaaGreatDoor
open Go.RowKit

/-- a step's cells -/
def sc (s : PStep) : List Value := [.string s.key, .int .i64 s.at_, .bool s.place]
end Go.Proofs.YtadbeodeiijhdaaGreatDoor
namespace Go.Proofs.YtadbeodeiijhdaaGreatDoor
open Go.RowKit

end Go.Proofs.YtadbeodeiijhdaaGreatDoor
