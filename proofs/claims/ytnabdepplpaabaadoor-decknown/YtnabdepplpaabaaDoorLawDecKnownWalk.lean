/- DecKnown, walked: the chapter's examples and bounds. -/
import Derived.Test.YtnabdepplpaabaaDoorDecAwake
namespace Go.Proofs.YtnabdepplpaabaaDoor
open Go.RowKit

theorem dk1 : intB (ByteArray.mk #[57, 50, 50, 51, 51, 55, 50, 48, 51, 54, 56, 53, 52, 55, 55, 53, 56, 48, 56]).data.toList = false := by decide +kernel
theorem dk2 : intB (ByteArray.mk #[45, 48]).data.toList = false := by decide +kernel
theorem dk3 : intB (ByteArray.mk #[49, 46, 48]).data.toList = false := by decide +kernel
theorem dk4 : numB (ByteArray.mk #[48, 49]).data.toList = false := by decide +kernel
theorem dg0 : numB (ByteArray.mk #[]).data.toList = false := by decide +kernel
theorem dg1 : numB (ByteArray.mk #[49, 46]).data.toList = false := by decide +kernel
theorem dg2 : numB (ByteArray.mk #[46, 53]).data.toList = false := by decide +kernel
theorem dg3 : numB (ByteArray.mk #[43, 49]).data.toList = false := by decide +kernel
theorem dg4 : numB (ByteArray.mk #[49, 101, 49, 48, 48, 48, 48, 48]).data.toList = true := by decide +kernel
theorem dg5 : numB (ByteArray.mk #[49, 101, 49, 48, 48, 48, 48, 49]).data.toList = false := by decide +kernel
theorem dg6 : numB (ByteArray.mk #[48, 101, 45, 48, 48, 55]).data.toList = true := by decide +kernel
theorem dc1 : cmpI (ByteArray.mk #[120]).data.toList (ByteArray.mk #[49]).data.toList = -1 := by decide +kernel
theorem dc2 : cmpI (ByteArray.mk #[120]).data.toList (ByteArray.mk #[121]).data.toList = 0 := by decide +kernel
set_option maxRecDepth 100000 in
set_option maxHeartbeats 1000000 in
theorem known_walk (w : World) (hg : Glob w) :
    Calls Tryd.prog 3 #[] w fun e w' => e = .returned (.bool true) ∧ Below w.heap.size w w' := by
  have GL := hid hg
  clear hg
  have HB : Below w.heap.size w w := Below.refl _ _
  have Kdk1 := hid dk1
  have Kdk2 := hid dk2
  have Kdk3 := hid dk3
  have Kdk4 := hid dk4
  have Kdg0 := hid dg0
  have Kdg1 := hid dg1
  have Kdg2 := hid dg2
  have Kdg3 := hid dg3
  have Kdg4 := hid dg4
  have Kdg5 := hid dg5
  have Kdg6 := hid dg6
  have Kdc1 := hid dc1
  have Kdc2 := hid dc2
  go_enter Tryd.func3, Tryd.ntmps3
  go_wp2_with (first
    | (go_at_call 9; go_must (refine (awake_any _ (GL.out.on HB)).mono ?_; rintro e x ⟨rfl, hx⟩; replace HB := onto HB hx))
    | (go_at_call 10; go_must (refine (dint_any _ _ (GL.out.on HB) (by decide)).mono ?_; first | (rintro e x ⟨rfl, hx⟩; replace HB := onto HB hx; rw [Kdk1.out]) | (rintro e x ⟨rfl, hx⟩; replace HB := onto HB hx; rw [Kdk2.out]) | (rintro e x ⟨rfl, hx⟩; replace HB := onto HB hx; rw [Kdk3.out])))
    | (go_at_call 11; go_must (refine (dcanon_any _ _ (GL.out.on HB) (by decide)).mono ?_; rintro e x ⟨rfl, hx⟩; replace HB := onto HB hx; rw [Kdk4.out]))
    | (go_at_call 12; go_must (refine (dgood_any _ _ (by decide)).mono ?_; first | (rintro e x ⟨rfl, hx⟩; replace HB := onto HB hx; rw [Kdg0.out]) | (rintro e x ⟨rfl, hx⟩; replace HB := onto HB hx; rw [Kdg1.out]) | (rintro e x ⟨rfl, hx⟩; replace HB := onto HB hx; rw [Kdg2.out]) | (rintro e x ⟨rfl, hx⟩; replace HB := onto HB hx; rw [Kdg3.out]) | (rintro e x ⟨rfl, hx⟩; replace HB := onto HB hx; rw [Kdg4.out]) | (rintro e x ⟨rfl, hx⟩; replace HB := onto HB hx; rw [Kdg5.out]) | (rintro e x ⟨rfl, hx⟩; replace HB := onto HB hx; rw [Kdg6.out])))
    | (go_at_call 13; go_must (refine (dcmp_any _ _ _ (by decide) (by decide)).mono ?_; first | (rintro e x ⟨rfl, hx⟩; replace HB := onto HB hx; rw [Kdc1.out]) | (rintro e x ⟨rfl, hx⟩; replace HB := onto HB hx; rw [Kdc2.out]))))
  go_ret
  exact ⟨rfl, HB⟩
end Go.Proofs.YtnabdepplpaabaaDoor
