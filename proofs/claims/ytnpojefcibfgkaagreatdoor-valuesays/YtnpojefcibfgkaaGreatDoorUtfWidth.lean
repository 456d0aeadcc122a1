import Derived.Test.YtnpojefcibfgkaaGreatDoorBase
namespace Go.Proofs.YtnpojefcibfgkaaGreatDoor
open Go.RowKit

set_option maxHeartbeats 400000 in
theorem width_any (r : Int) (w : World) :
    Calls Tryz.prog 111 #[.int .i64 r] w fun e w' => e = .returned (.int .i64 (wdI r)) ∧ w' = w := by
  go_enter Tryz.func111, Tryz.ntmps111
  go_wp2
  all_goals
    go_ret
    exact ⟨ret_int (by unfold wdI; (repeat' split) <;> omega), rfl⟩
end Go.Proofs.YtnpojefcibfgkaaGreatDoor
