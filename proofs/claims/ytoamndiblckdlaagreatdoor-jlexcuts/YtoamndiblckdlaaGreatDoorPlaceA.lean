/- Package place, walked: clamp, Lines, Begin; and the document's own clamp. -/
import Derived.Test.YtoamndiblckdlaaGreatDoorStrNl
import Derived.Test.YtoamndiblckdlaaGreatDoorUtfCount
namespace Go.Proofs.YtoamndiblckdlaaGreatDoor
open Go.RowKit

set_option maxRecDepth 100000 in
set_option maxHeartbeats 400000 in
theorem clamp_any (t : ByteArray) (a : Int) (w : World) :
    Calls Tryz.prog 26 #[.string t, .int .i64 a] w fun e w' => e = .returned (.int .i64 (clN t.size a)) ∧ w' = w := by
  go_enter Tryz.func26, Tryz.ntmps26
  go_wp2
  all_goals (go_ret; exact ⟨ret_int (by unfold clN; omega), rfl⟩)
set_option maxRecDepth 100000 in
set_option maxHeartbeats 400000 in
theorem lines_any (t : ByteArray) (w : World) (hs : t.size ≤ 1000000) :
    Calls Tryz.prog 41 #[.string t] w fun e w' => e = .returned (.int .i64 (linOf t.data.toList)) ∧ w' = w := by
  have hn := nls_le t.data.toList
  rw [size_list] at hn
  go_enter Tryz.func41, Tryz.ntmps41
  go_wp2_with (go_at_call 54; go_must (refine (ct_any _ _).mono ?_; rintro e w' ⟨rfl, rfl⟩))
  go_ret
  exact ⟨ret_int (by unfold linOf; omega), rfl⟩
set_option maxRecDepth 100000 in
set_option maxHeartbeats 400000 in
theorem rclamp_any (t : ByteArray) (a : Int) (w : World) :
    Calls Tryz.prog 22 #[.string t, .int .i64 a] w fun e w' => e = .returned (.int .i64 (clN t.size a)) ∧ w' = w := by
  go_enter Tryz.func22, Tryz.ntmps22
  go_wp2
  all_goals (go_ret; exact ⟨ret_int (by unfold clN; omega), rfl⟩)
theorem drop_at (s : ByteArray) (p : Nat) (w : World) :
    Calls Tryz.prog 68 #[.string (s.extract p s.size), .string ⟨#[10]⟩] w fun e w' => e = .returned (.int .i64 (Lib.indexByte (s.data.toList.drop p) 10)) ∧ w' = w := by
  have := ix_any (s.extract p s.size) w
  rwa [drop_list] at this
end Go.Proofs.YtoamndiblckdlaaGreatDoor
