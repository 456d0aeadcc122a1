import Derived.Test.YtncapmppmepdkaaRows
import Derived.Test.YtncapmppmepdkaaM
import Derived.WalkKit
import Derived.WalkSpells
import Derived.WalkLawsBesides
namespace Go.Proofs.Ytncapmppmepdkaa
open Go.RowKit

theorem ret_int {k : IntKind} {a b : Int} (h : a = b) : Ending.returned (.int k a) = .returned (.int k b) := by rw [h]
theorem ret_bool {a b : Bool} (h : a = b) : Ending.returned (.bool a) = .returned (.bool b) := by rw [h]
theorem ret_two {k l : IntKind} {a b c d : Int} (h : a = b) (g : c = d) : Ending.returned (.tuple #[.int k a, .int l c]) = .returned (.tuple #[.int k b, .int l d]) := by rw [h, g]

set_option maxHeartbeats 400000 in
theorem good_any (r : Int) (w : World) :
    Calls Try.prog 12 #[.int .i64 r] w fun e w' => e = .returned (.bool (goodB r)) ∧ w' = w := by
  go_enter Try.func12, Try.ntmps12
  go_wp2
  all_goals
    go_ret
    exact ⟨ret_bool (by unfold goodB; rw [Bool.eq_iff_iff]; simp; try omega), rfl⟩

set_option maxHeartbeats 400000 in
theorem rgood_any (r : Int) (w : World) :
    Calls Try.prog 19 #[.int .i64 r] w fun e w' => e = .returned (.bool (goodB r)) ∧ w' = w := by
  go_enter Try.func19, Try.ntmps19
  go_wp2
  all_goals
    go_ret
    exact ⟨ret_bool (by unfold goodB; rw [Bool.eq_iff_iff]; simp; try omega), rfl⟩

set_option maxHeartbeats 400000 in
theorem width_any (r : Int) (w : World) :
    Calls Try.prog 21 #[.int .i64 r] w fun e w' => e = .returned (.int .i64 (wdI r)) ∧ w' = w := by
  go_enter Try.func21, Try.ntmps21
  go_wp2
  all_goals
    go_ret
    exact ⟨ret_int (by unfold wdI; (repeat' split) <;> omega), rfl⟩

set_option maxHeartbeats 400000 in
theorem later_any (r : Int) (w : World) :
    Calls Try.prog 23 #[.int .i64 r] w fun e w' => e = .returned (.int .u8 (128 + r % 64)) ∧ w' = w := by
  go_enter Try.func23, Try.ntmps23
  go_wp2
  go_ret
  exact ⟨ret_int (later_eq r), rfl⟩

set_option maxRecDepth 100000 in
set_option maxHeartbeats 400000 in
theorem begin_any (b : Nat) (hb : b < 256) (w : World) :
    Calls Try.prog 20 #[.int .u8 (b : Int)] w fun e w' => e = .returned (.tuple #[.int .i64 (begR b), .int .i64 (begN b)]) ∧ w' = w := by
  obtain ⟨t1, t2, t3, -⟩ := and_tests b hb
  obtain ⟨p1, p2, p3, -⟩ := and_parts b hb
  go_enter Try.func20, Try.ntmps20
  go_wp2
  all_goals
    go_ret2
    exact ⟨ret_two (by unfold begR; (repeat' split) <;> simp_all <;> omega) (by unfold begN; (repeat' split) <;> simp_all <;> omega), rfl⟩
end Go.Proofs.Ytncapmppmepdkaa
