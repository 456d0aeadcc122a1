import Derived.Test.YtmgbnjadfhjbfaaBase
namespace Go.Proofs.Ytmgbnjadfhjbfaa
open Go.RowKit

set_option maxHeartbeats 400000 in
theorem rgood_any (r : Int) (w : World) :
    Calls Try.prog 36 #[.int .i64 r] w fun e w' => e = .returned (.bool (goodB r)) ∧ w' = w := by
  go_enter Try.func36, Try.ntmps36
  go_wp2
  all_goals
    go_ret
    exact ⟨ret_bool (by unfold goodB; rw [Bool.eq_iff_iff]; simp; try omega), rfl⟩
end Go.Proofs.Ytmgbnjadfhjbfaa
