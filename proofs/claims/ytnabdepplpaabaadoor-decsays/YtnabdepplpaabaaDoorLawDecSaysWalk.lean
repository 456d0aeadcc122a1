/- DecSays, walked: numbers' texts, their one form, their order, just as the document says. -/
import Derived.Test.YtnabdepplpaabaaDoorDecAwake
import Derived.OpenShut
namespace Go.Proofs.YtnabdepplpaabaaDoor
open Go.RowKit

set_option maxRecDepth 100000 in
set_option maxHeartbeats 1000000 in
theorem says_walk (a b : ByteArray) (n : Int) (w0 : a.size ≤ maxLen) (w1 : b.size ≤ maxLen) (w2 : (Lit.int .i64 n).wf = true) (w : World) (hg : Glob w) :
    Calls Tryd.prog 4 #[.string a, .string b, .int .i64 n] w fun e w' => e = .returned (.bool true) ∧ Below w.heap.size w w' := by
  have GL := hid hg
  clear hg
  have HB : Below w.heap.size w w := Below.refl _ _
  have HN := hid (bounds_i64 w2)
  unfold maxLen at w0 w1
  by_cases h5 : a.size > 500
  · go_enter Tryd.func4, Tryd.ntmps4
    go_wp2_with (go_at_call 9; go_must (refine (awake_any _ (GL.out.on HB)).mono ?_; rintro e w' ⟨rfl, hb⟩; replace HB := onto HB hb))
    go_ret
    exact ⟨rfl, HB⟩
  · by_cases h6 : b.size > 500
    · go_enter Tryd.func4, Tryd.ntmps4
      go_wp2_with (go_at_call 9; go_must (refine (awake_any _ (GL.out.on HB)).mono ?_; rintro e w' ⟨rfl, hb⟩; replace HB := onto HB hb))
      go_ret
      exact ⟨rfl, HB⟩
    · have ha : a.size ≤ 1000000 := by omega
      have hb : b.size ≤ 1000000 := by omega
      go_enter Tryd.func4, Tryd.ntmps4
      go_wp2_with (first
        | (go_at_call 9; go_must (refine (awake_any _ (GL.out.on HB)).mono ?_; rintro e x ⟨rfl, hx⟩; replace HB := onto HB hx))
        | (go_at_call 11; go_must (refine (dcanon_any _ _ (GL.out.on HB) ha).mono ?_; rintro e x ⟨rfl, hx⟩; replace HB := onto HB hx))
        | (go_at_call 14; go_must (refine (canon_any _ _ (max_le ha)).mono ?_; rintro e x ⟨rfl, hx⟩; replace HB := onto HB hx))
        | (go_at_call 10; go_must (refine (dint_any _ _ (GL.out.on HB) ha).mono ?_; rintro e x ⟨rfl, hx⟩; replace HB := onto HB hx))
        | (go_at_call 15; go_must (refine (int_any _ _ (max_le ha)).mono ?_; rintro e x' ⟨rfl, hw⟩; obtain rfl := hw.symm))
        | (go_at_call 12; go_must (refine (dgood_any _ _ ha).mono ?_; rintro e x ⟨rfl, hx⟩; replace HB := onto HB hx))
        | (go_at_call 16; go_must (refine (number_any _ _ (max_le ha)).mono ?_; rintro e x' ⟨rfl, hw⟩; obtain rfl := hw.symm))
        | (go_at_call 17; go_must (refine (dwhole_any _ _ ha).mono ?_; rintro e x ⟨rfl, hx⟩; replace HB := onto HB hx))
        | (go_at_call 18; go_must (refine (whole_any _ _ (max_le ha)).mono ?_; rintro e x' ⟨rfl, hw⟩; obtain rfl := hw.symm))
        | (go_at_call 13; go_must (refine (dcmp_any _ _ _ ha hb).mono ?_; rintro e x ⟨rfl, hx⟩; replace HB := onto HB hx))
        | (go_at_call 19; go_must (refine (cmp_any _ _ _ (max_le ha) (max_le hb)).mono ?_; rintro e x' ⟨rfl, hw⟩; obtain rfl := hw.symm))
        | (go_at_call 20; go_must (refine (dtext_any _ _ (GL.out.on HB) HN.out.1 (by have := HN.out.2; omega)).mono ?_; rintro e x ⟨rfl, hx⟩; replace HB := onto HB hx))
        | (go_at_call 21; go_must (refine (text_any _ _ HN.out.1 (by have := HN.out.2; omega)).mono ?_; rintro e x ⟨rfl, hx⟩; replace HB := onto HB hx)))
      go_ret
      exact ⟨rfl, HB⟩
end Go.Proofs.YtnabdepplpaabaaDoor
