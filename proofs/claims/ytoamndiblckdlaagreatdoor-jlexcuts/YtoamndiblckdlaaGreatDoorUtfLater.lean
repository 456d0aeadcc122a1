import Derived.Test.YtoamndiblckdlaaGreatDoorBase
namespace Go.Proofs.YtoamndiblckdlaaGreatDoor
open Go.RowKit

set_option maxHeartbeats 400000 in
theorem later_any (r : Int) (w : World) :
    Calls Tryz.prog 118 #[.int .i64 r] w fun e w' => e = .returned (.int .u8 (128 + r % 64)) ∧ w' = w := by
  go_enter Tryz.func118, Tryz.ntmps118
  go_wp2
  go_ret
  exact ⟨ret_int (later_eq r), rfl⟩
end Go.Proofs.YtoamndiblckdlaaGreatDoor
