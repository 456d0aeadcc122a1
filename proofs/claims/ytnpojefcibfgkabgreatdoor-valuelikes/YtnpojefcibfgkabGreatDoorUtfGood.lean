import Derived.Test.YtnpojefcibfgkabGreatDoorBase
namespace Go.Proofs.YtnpojefcibfgkabGreatDoor
open Go.RowKit

set_option maxHeartbeats 400000 in
theorem good_any (r : Int) (w : World) :
    Calls Tryz.prog 86 #[.int .i64 r] w fun e w' => e = .returned (.bool (goodB r)) ∧ w' = w := by
  go_enter Tryz.func86, Tryz.ntmps86
  go_wp2
  all_goals
    go_ret
    exact ⟨ret_bool (by unfold goodB; rw [Bool.eq_iff_iff]; simp; try omega), rfl⟩
end Go.Proofs.YtnpojefcibfgkabGreatDoor
