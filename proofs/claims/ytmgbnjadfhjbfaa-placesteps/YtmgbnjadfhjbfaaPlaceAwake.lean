/- What the law of package place tells of the document's first byte: walked; and the closed answers. -/
import Derived.Test.YtmgbnjadfhjbfaaPlaceB
namespace Go.Proofs.Ytmgbnjadfhjbfaa
open Go.RowKit

theorem kn1 : ofL ⟨#[97, 98, 10, 99]⟩ 3 = 2 ∧ ofC ⟨#[97, 98, 10, 99]⟩ 3 = 1 := by decide +kernel
theorem kn2 : faultV ⟨#[120]⟩ 9 4 = .agg #[.int .i64 4, .int .i64 1, .int .i64 1, .int .i64 2] := by
  unfold faultV; rw [show clN (ByteArray.mk #[120]).size 9 = 1 by decide +kernel, show ofL ⟨#[120]⟩ 9 = 1 by decide +kernel, show ofC ⟨#[120]⟩ 9 = 2 by decide +kernel]; rfl
theorem kn3 : bgP (ByteArray.mk #[97, 10, 98]).data.toList 2 = 2 ∧ bgB (ByteArray.mk #[97, 10, 98]).data.toList 2 = true := by decide +kernel
theorem kn4 : linOf (ByteArray.mk #[97, 10, 98]).data.toList = 2 := by decide +kernel
set_option maxRecDepth 100000 in
set_option maxHeartbeats 400000 in
theorem awake_any (w : World) :
    Calls Try.prog 7 #[] w fun e w' => e = .returned (.bool true) ∧ Below w.heap.size w w' := by
  have K1 := hid kn1
  have K3 := hid kn3
  have K4 := hid kn4
  go_enter Try.func7, Try.ntmps7
  go_wp2_with (first
    | (go_at_call 8; go_must (refine (of_any _ _ _ (by decide)).mono ?_; rintro e w' ⟨rfl, n, rfl⟩; rw [K1.out.1, K1.out.2]))
    | (go_at_call 12; go_must (refine (fault_any _ _ _ _ (by decide)).mono ?_; rintro e w' ⟨rfl, hb⟩; rw [kn2]))
    | (go_at_call 9; go_must (refine (pbegin_any _ _ _ (by decide) (by decide)).mono ?_; rintro e w' ⟨rfl, hw⟩; obtain rfl := hw.symm; rw [K3.out.1, K3.out.2]))
    | (go_at_call 10; go_must (refine (lines_any _ _ (by decide)).mono ?_; rintro e w' ⟨rfl, hw⟩; obtain rfl := hw.symm; rw [K4.out])))
  go_ret
  exact ⟨rfl, (((below_drewN (Below.refl _ _) n).trans hb).alloc hb.size _)⟩
end Go.Proofs.Ytmgbnjadfhjbfaa
