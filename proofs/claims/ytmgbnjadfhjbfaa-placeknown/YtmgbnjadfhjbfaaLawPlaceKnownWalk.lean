/- PlaceKnown, walked: the chapter's examples. -/
import Derived.Test.YtmgbnjadfhjbfaaPlaceAwake
namespace Go.Proofs.Ytmgbnjadfhjbfaa
open Go.RowKit

theorem kn5 : ofL ⟨#[]⟩ (-5) = 1 ∧ ofC ⟨#[]⟩ (-5) = 1 := by decide +kernel
theorem kn6 : bgP (ByteArray.mk #[97]).data.toList 2 = 0 ∧ bgB (ByteArray.mk #[97]).data.toList 2 = false := by decide +kernel
theorem kn7 : bgP (ByteArray.mk #[97]).data.toList 0 = 0 ∧ bgB (ByteArray.mk #[97]).data.toList 0 = false := by decide +kernel
theorem kn8 : bgP (ByteArray.mk #[97, 10]).data.toList 2 = 2 ∧ bgB (ByteArray.mk #[97, 10]).data.toList 2 = true := by decide +kernel
theorem kn9 : linOf (ByteArray.mk #[]).data.toList = 1 := by decide +kernel
set_option maxRecDepth 100000 in
set_option maxHeartbeats 400000 in
theorem known_walk (w : World) :
    Calls Try.prog 3 #[] w fun e w' => e = .returned (.bool true) ∧ Below w.heap.size w w' := by
  have K5 := hid kn5
  have K6 := hid kn6
  have K7 := hid kn7
  have K8 := hid kn8
  have K9 := hid kn9
  go_enter Try.func3, Try.ntmps3
  go_wp2_with (first
    | (go_at_call 7; go_must (refine (awake_any _).mono ?_; rintro e w' ⟨rfl, hb⟩))
    | (go_at_call 8; go_must (refine (of_any _ _ _ (by decide)).mono ?_; rintro e w' ⟨rfl, n, rfl⟩; rw [K5.out.1, K5.out.2]))
    | (go_at_call 9; go_must (refine (pbegin_any _ _ _ (by decide) (by decide)).mono ?_; rintro e w' ⟨rfl, hw⟩; obtain rfl := hw.symm; first | rw [K6.out.1, K6.out.2] | rw [K7.out.1, K7.out.2] | rw [K8.out.1, K8.out.2]))
    | (go_at_call 10; go_must (refine (lines_any _ _ (by decide)).mono ?_; rintro e w' ⟨rfl, hw⟩; obtain rfl := hw.symm; rw [K9.out])))
  go_ret
  exact ⟨rfl, below_drewN hb n⟩
end Go.Proofs.Ytmgbnjadfhjbfaa
