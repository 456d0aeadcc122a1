import Derived.Test.YtnpojefcibfgkaaGreatDoorBase
namespace Go.Proofs.YtnpojefcibfgkaaGreatDoor
open Go.RowKit

set_option maxRecDepth 100000 in
set_option maxHeartbeats 400000 in
theorem begin_any (b : Nat) (hb : b < 256) (w : World) :
    Calls Tryz.prog 109 #[.int .u8 (b : Int)] w fun e w' => e = .returned (.tuple #[.int .i64 (begR b), .int .i64 (begN b)]) ∧ w' = w := by
  obtain ⟨t1, t2, t3, -⟩ := and_tests b hb
  obtain ⟨p1, p2, p3, -⟩ := and_parts b hb
  go_enter Tryz.func109, Tryz.ntmps109
  go_wp2
  all_goals
    go_ret2
    exact ⟨ret_two (by unfold begR; (repeat' split) <;> simp_all <;> omega) (by unfold begN; (repeat' split) <;> simp_all <;> omega), rfl⟩
end Go.Proofs.YtnpojefcibfgkaaGreatDoor
