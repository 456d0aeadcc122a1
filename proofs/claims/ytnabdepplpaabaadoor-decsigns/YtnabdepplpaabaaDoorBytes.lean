import Derived.Laws.CopyOwn
import Derived.Laws.IdiomCopy
import Derived.Test.YtnabdepplpaabaaDoorBase
namespace Go.Proofs.YtnabdepplpaabaaDoor
open Go.RowKit

theorem Tryd.info_u8 : (Tryd.prog.info? 5).map (fun i => (i.zero, i.size, i.bytes)) = some (some (.int .u8 0), 1, 1) := by kernel_rfl
theorem Tryd.size_u8 : (Tryd.prog.info? 5).map (·.size) = some 1 := by kernel_rfl
/-- a row that is owned, read as a text -/
theorem conv_row (w : World) (base n cap : Nat) (g : Nat) (xs : List Int) (hown : w.ownsRow base 5 1 (.slice (some ⟨g, 0, none⟩) n cap) n (xs.map (Value.int .u8))) :
    (convert 43 9 (.slice (some ⟨g, 0, none⟩) n cap)).run Tryd.prog w = .ok (.string (strOfNums xs)) w := by
  have hl : xs.length = n := by have := hown.1; simpa using this
  refine run_convert_bytes_arg w 43 5 Tryd.underlying43 Tryd.underlying5 g 0 n cap xs hl (fun i hi => ?_) 9 Tryd.underlying9
  rw [Nat.zero_add, hown.cellAt i (by omega)]
  have hi' : i < xs.length := by omega
  simp [List.getD, List.getElem?_eq_getElem hi']
/-- a block just laid, read as a text -/
theorem conv_new (w : World) (xs : List Int) (k : Nat) (hk : xs.length = k) :
    (convert 43 9 (.slice (some ⟨w.heap.size, 0, none⟩) k k)).run Tryd.prog (w.alloc (.cells (xs.map (Value.int .u8)).toArray 5)) = .ok (.string (strOfNums xs)) (w.alloc (.cells (xs.map (Value.int .u8)).toArray 5)) := by
  refine run_convert_bytes_arg _ 43 5 Tryd.underlying43 Tryd.underlying5 _ 0 k k xs hk (fun i hi => ?_) 9 Tryd.underlying9
  have := World.cell?_alloc_mark w (xs.map (Value.int .u8)).toArray 5 (0, 0) i
  rw [Nat.zero_add, this]
  have hi' : i < xs.length := by omega
  simp [List.getD, List.getElem?_eq_getElem hi']
end Go.Proofs.YtnabdepplpaabaaDoor
