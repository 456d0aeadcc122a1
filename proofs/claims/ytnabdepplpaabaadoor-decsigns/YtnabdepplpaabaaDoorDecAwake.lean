/- What the law of package dec tells of a few numbers, walked. -/
import Derived.Test.YtnabdepplpaabaaDoorDecAll
namespace Go.Proofs.YtnabdepplpaabaaDoor
open Go.RowKit

theorem da1 : mkS (canV (ByteArray.mk #[49, 50, 48, 48, 46, 53, 48]).data.toList) = ⟨#[49, 46, 50, 48, 48, 53, 101, 51]⟩ ∧ numB (ByteArray.mk #[49, 50, 48, 48, 46, 53, 48]).data.toList = true := by decide +kernel
theorem da2 : mkS (canV (ByteArray.mk #[45, 48, 46, 48]).data.toList) = ⟨#[48]⟩ ∧ numB (ByteArray.mk #[45, 48, 46, 48]).data.toList = true := by decide +kernel
theorem da3 : intV (ByteArray.mk #[45, 57, 50, 50, 51, 51, 55, 50, 48, 51, 54, 56, 53, 52, 55, 55, 53, 56, 48, 56]).data.toList = -9223372036854775808 ∧ intB (ByteArray.mk #[45, 57, 50, 50, 51, 51, 55, 50, 48, 51, 54, 56, 53, 52, 55, 55, 53, 56, 48, 56]).data.toList = true := by decide +kernel
theorem da4 : cmpI (ByteArray.mk #[49, 101, 50]).data.toList (ByteArray.mk #[49, 48, 48]).data.toList = 0 := by decide +kernel
theorem da5 : cmpI (ByteArray.mk #[45, 49]).data.toList (ByteArray.mk #[48, 46, 53]).data.toList = -1 := by decide +kernel
theorem da6 : mkS (txt (-5)) = ⟨#[45, 53]⟩ := by decide +kernel
theorem da7 : numB (ByteArray.mk #[49, 101, 53]).data.toList = true := by decide +kernel
theorem da8 : wholeB (ByteArray.mk #[49, 46, 53, 48, 101, 49]).data.toList = true := by decide +kernel
theorem da9 : wholeB (ByteArray.mk #[48, 46, 53]).data.toList = false := by decide +kernel
set_option maxRecDepth 100000 in
set_option maxHeartbeats 1000000 in
theorem awake_any (w : World) (hg : Glob w) :
    Calls Tryd.prog 9 #[] w fun e w' => e = .returned (.bool true) ∧ Below w.heap.size w w' := by
  have GL := hid hg
  have HB : Below w.heap.size w w := Below.refl _ _
  clear hg
  have K1 := hid da1
  have K2 := hid da2
  have K3 := hid da3
  have K4 := hid da4
  have K5 := hid da5
  have K6 := hid da6
  have K7 := hid da7
  have K8 := hid da8
  have K9 := hid da9
  go_enter Tryd.func9, Tryd.ntmps9
  go_wp2_with (first
    | (go_at_call 11; go_must (refine (dcanon_any _ _ (GL.out.on HB) (by decide)).mono ?_; first | (rintro e x ⟨rfl, hx⟩; replace HB := onto HB hx; rw [K1.out.1, K1.out.2]) | (rintro e x ⟨rfl, hx⟩; replace HB := onto HB hx; rw [K2.out.1, K2.out.2])))
    | (go_at_call 10; go_must (refine (dint_any _ _ (GL.out.on HB) (by decide)).mono ?_; rintro e x ⟨rfl, hx⟩; replace HB := onto HB hx; rw [K3.out.1, K3.out.2]))
    | (go_at_call 13; go_must (refine (dcmp_any _ _ _ (by decide) (by decide)).mono ?_; first | (rintro e x ⟨rfl, hx⟩; replace HB := onto HB hx; rw [K4.out]) | (rintro e x ⟨rfl, hx⟩; replace HB := onto HB hx; rw [K5.out])))
    | (go_at_call 20; go_must (refine (dtext_any _ _ (GL.out.on HB) (by decide) (by decide)).mono ?_; rintro e x ⟨rfl, hx⟩; replace HB := onto HB hx; rw [K6.out]))
    | (go_at_call 12; go_must (refine (dgood_any _ _ (by decide)).mono ?_; rintro e x ⟨rfl, hx⟩; replace HB := onto HB hx; rw [K7.out]))
    | (go_at_call 17; go_must (refine (dwhole_any _ _ (by decide)).mono ?_; first | (rintro e x ⟨rfl, hx⟩; replace HB := onto HB hx; rw [K8.out]) | (rintro e x ⟨rfl, hx⟩; replace HB := onto HB hx; rw [K9.out]))))
  go_ret
  exact ⟨rfl, HB⟩
end Go.Proofs.YtnabdepplpaabaaDoor
