import Derived.Test.YtoamndiblckdlaaGreatDoorUtfAll
namespace Go.Proofs.YtoamndiblckdlaaGreatDoor
open Go.RowKit

set_option maxRecDepth 100000 in
set_option maxHeartbeats 400000 in
theorem stride_any (s : ByteArray) (w : World) (hs : s.size ≤ maxLen) :
    Calls Tryz.prog 55 #[.string s] w fun e w' => e = .returned (.int .i64 (stp s.data.toList)) ∧ w' = w := by
  go_enter Tryz.func55, Tryz.ntmps55
  go_wp2_with (first | (go_at_call 69; go_must (refine (take_all _ _ hs).mono ?_; rintro e w' ⟨rfl, rfl⟩)))
  all_goals
    go_ret
    exact ⟨ret_int (by unfold stp; omega), rfl⟩
theorem stride_at (s : ByteArray) (p : Nat) (w : World) (hs : s.size ≤ maxLen) :
    Calls Tryz.prog 55 #[.string (s.extract p s.size)] w fun e w' => e = .returned (.int .i64 (stp (s.data.toList.drop p))) ∧ w' = w := by
  have h := stride_any (s.extract p s.size) w (cut_size s p hs)
  rw [drop_list] at h
  exact h
end Go.Proofs.YtoamndiblckdlaaGreatDoor
