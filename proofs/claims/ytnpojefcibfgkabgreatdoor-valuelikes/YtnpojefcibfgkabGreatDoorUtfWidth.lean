import Derived.Test.YtnpojefcibfgkabGreatDoorBase
namespace Go.Proofs.YtnpojefcibfgkabGreatDoor
open Go.RowKit

set_option maxHeartbeats 400000 in
theorem width_any (r : Int) (w : World) :
    Calls Tryz.prog 87 #[.int .i64 r] w fun e w' => e = .returned (.int .i64 (wdI r)) ∧ w' = w := by
  go_enter Tryz.func87, Tryz.ntmps87
  go_wp2
  all_goals
    go_ret
    exact ⟨ret_int (by unfold wdI; (repeat' split) <;> omega), rfl⟩
end Go.Proofs.YtnpojefcibfgkabGreatDoor
