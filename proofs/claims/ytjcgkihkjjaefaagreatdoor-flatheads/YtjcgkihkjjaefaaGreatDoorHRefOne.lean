
import Derived.Laws.CopyOwn
import Derived.Laws.IdiomCopy
import Derived.Test.YtjcgkihkjjaefaaGreatDoorHBase
import Derived.Deep.RegionWith
import Derived.Test.YtjcgkihkjjaefaaGreatDoorHVStr
namespace Go.Proofs.YtjcgkihkjjaefaaGreatDoor
open Go.RowKit

end Go.Proofs.YtjcgkihkjjaefaaGreatDoor
namespace Go.Proofs.YtjcgkihkjjaefaaGreatDoor
open Go.RowKit

end Go.Proofs.YtjcgkihkjjaefaaGreatDoor
namespace Go.Proofs.YtjcgkihkjjaefaaGreatDoor
open Go.RowKit

end Go.Proofs.YtjcgkihkjjaefaaGreatDoor
namespace Go.Proofs.YtjcgkihkjjaefaaGreatDoor
open Go.RowKit

theorem toList_some (s : ByteArray) (h : 0 < s.size) : s.toList.isEmpty = false := by
  rw [ByteArray.toList_eq]
  have := list_of s h
  rw [this]; rfl
end Go.Proofs.YtjcgkihkjjaefaaGreatDoor
namespace Go.Proofs.YtjcgkihkjjaefaaGreatDoor
open Go.RowKit

end Go.Proofs.YtjcgkihkjjaefaaGreatDoor
namespace Go.Proofs.YtjcgkihkjjaefaaGreatDoor
open Go.RowKit

end Go.Proofs.YtjcgkihkjjaefaaGreatDoor
namespace Go.Proofs.YtjcgkihkjjaefaaGreatDoor
open Go.RowKit

end Go.Proofs.YtjcgkihkjjaefaaGreatDoor
namespace Go.Proofs.YtjcgkihkjjaefaaGreatDoor
open Go.RowKit

end Go.Proofs.YtjcgkihkjjaefaaGreatDoor
namespace Go.Proofs.YtjcgkihkjjaefaaGreatDoor
open Go.RowKit

end Go.Proofs.YtjcgkihkjjaefaaGreatDoor
namespace Go.Proofs.YtjcgkihkjjaefaaGreatDoor
open Go.RowKit

end Go.Proofs.YtjcgkihkjjaefaaGreatDoor
