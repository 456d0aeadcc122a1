import Derived.Test.YtikdggcdgdokiaaDoorBase
namespace Go.Proofs.YtikdggcdgdokiaaDoor
open Go.RowKit

set_option maxHeartbeats 400000 in
theorem later_any (r : Int) (w : World) :
    Calls Tryd.prog 69 #[.int .i64 r] w fun e w' => e = .returned (.int .u8 (128 + r % 64)) ∧ w' = w := by
  go_enter Tryd.func69, Tryd.ntmps69
  go_wp2
  go_ret
  exact ⟨ret_int (later_eq r), rfl⟩
end Go.Proofs.YtikdggcdgdokiaaDoor
