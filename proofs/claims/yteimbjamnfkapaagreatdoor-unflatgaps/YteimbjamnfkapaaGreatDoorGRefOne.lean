import Derived.Laws.CopyOwn
import Derived.Laws.IdiomCopy
import Derived.Test.YteimbjamnfkapaaGreatDoorGBase
import Derived.Deep.RegionWith
import Derived.Test.YteimbjamnfkapaaGreatDoorGVStr
namespace Go.Proofs.YteimbjamnfkapaaGreatDoor
open Go.RowKit
theorem conv_new (w : World) (xs : List Int) (k : Nat) (hk : xs.length = k) :
  (convert 116 9 (.slice (some ⟨w.heap.size, 0, none⟩) k k)).run Tryz.prog (w.alloc (.cells (xs.map (Value.int .u8)).toArray 5)) = .ok (.string (strOfNums xs)) (w.alloc (.cells (xs.map (Value.int .u8)).toArray 5)) := by
 refine run_convert_bytes_arg _ 116 5 Tryz.underlying116 Tryz.underlying5 _ 0 k k xs hk (fun i hi => ?_) 9 Tryz.underlying9
 have := World.cell?_alloc_mark w (xs.map (Value.int .u8)).toArray 5 (0, 0) i
 rw [Nat.zero_add, this]
 have hi' : i < xs.length := by omega
 simp [List.getD, List.getElem?_eq_getElem hi']
end Go.Proofs.YteimbjamnfkapaaGreatDoor
