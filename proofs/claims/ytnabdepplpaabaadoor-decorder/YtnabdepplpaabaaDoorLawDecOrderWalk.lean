/- DecOrder, walked: numbers are in one order; two are alike just if their one form is. -/
import Derived.Test.YtnabdepplpaabaaDoorDecAwake
import Derived.Test.YtnabdepplpaabaaDoorMathDec4
import Derived.Deep.RegionWith
import Derived.OpenShut
namespace Go.Proofs.YtnabdepplpaabaaDoor
open Go.RowKit

theorem str_beq (x y : List UInt8) : ((mkS x).toList == (mkS y).toList) = (x == y) := by
  rw [Lib.toList_data, Lib.toList_data, mkS_list, mkS_list]
set_option maxRecDepth 100000 in
set_option maxHeartbeats 1000000 in
theorem order_walk (a b c : ByteArray) (w0 : a.size ≤ maxLen) (w1 : b.size ≤ maxLen) (w2 : c.size ≤ maxLen) (w : World) (hg : Glob w) :
    Calls Tryd.prog 5 #[.string a, .string b, .string c] w fun e w' => e = .returned (.bool true) ∧ Below w.heap.size w w' := by
  have GL := hid hg
  clear hg
  have HB : Below w.heap.size w w := Below.refl _ _
  unfold maxLen at w0 w1 w2
  by_cases h4 : a.size > 400 ∨ b.size > 400 ∨ c.size > 400
  · have h4' : a.size > 400 ∨ (¬ a.size > 400 ∧ b.size > 400) ∨ (¬ a.size > 400 ∧ ¬ b.size > 400 ∧ c.size > 400) := by omega
    clear h4
    rcases h4' with h | ⟨h, h'⟩ | ⟨h, h', h''⟩
    all_goals
      go_enter Tryd.func5, Tryd.ntmps5
      go_wp2_with (go_at_call 9; go_must (refine (awake_any _ (GL.out.on HB)).mono ?_; rintro e x ⟨rfl, hx⟩; replace HB := onto HB hx))
      go_ret
      exact ⟨rfl, HB⟩
  · have ha4 : ¬ a.size > 400 := by omega
    have hb4 : ¬ b.size > 400 := by omega
    have hc4 : ¬ c.size > 400 := by omega
    have ha : a.size ≤ 1000000 := by omega
    have hb : b.size ≤ 1000000 := by omega
    have hc : c.size ≤ 1000000 := by omega
    clear h4
    by_cases hn : numB a.data.toList = true ∧ numB b.data.toList = true ∧ numB c.data.toList = true
    · obtain ⟨na, nb, nc⟩ := hn
      have hv := cmp_vals _ _ na nb
      have HBA := hid (cmp_turn _ _ na nb)
      have HAC := hid (cmp_trans _ _ _ na nb nc)
      have HCE := hid (canV_eq _ _ na nb)
      obtain ⟨X, hX⟩ : ∃ X, cmpI a.data.toList b.data.toList = X := ⟨_, rfl⟩
      obtain ⟨Y, hY⟩ : ∃ Y, cmpI b.data.toList c.data.toList = Y := ⟨_, rfl⟩
      rw [hX] at hv HBA HAC HCE
      rw [hY] at HAC
      have HX := hid hX
      have HY := hid hY
      have hx1 : -1 ≤ X := by omega
      have hx2 : X ≤ 1 := by omega
      clear hX hY hv
      have hcan : ((mkS (canV a.data.toList)).toList == (mkS (canV b.data.toList)).toList) = (X == 0) := by
        rw [str_beq, Bool.eq_iff_iff, beq_iff_eq, beq_iff_eq]; exact HCE.out
      by_cases hq : X = Y
      · have hq' : (X == Y) = true := by rw [hq]; simp
        have HAC' := hid (HAC.out hq)
        clear hq
        go_enter Tryd.func5, Tryd.ntmps5
        go_wp2_with (first
          | (go_at_call 9; go_must (refine (awake_any _ (GL.out.on HB)).mono ?_; rintro e x ⟨rfl, hx⟩; replace HB := onto HB hx))
          | (go_at_call 12; go_must (refine (dgood_any _ _ (by first | exact ha | exact hb | exact hc)).mono ?_; rintro e x ⟨rfl, hx⟩; replace HB := onto HB hx; first | rw [na] | rw [nb] | rw [nc]))
          | (go_at_call 13; go_must (refine (dcmp_any _ _ _ (by first | exact ha | exact hb | exact hc) (by first | exact ha | exact hb | exact hc)).mono ?_; rintro e x ⟨rfl, hx⟩; replace HB := onto HB hx; first | rw [HX.out] | rw [HY.out] | rw [HBA.out] | rw [HAC'.out]))
          | (go_at_call 11; go_must (refine (dcanon_any _ _ (GL.out.on HB) (by first | exact ha | exact hb | exact hc)).mono ?_; rintro e x ⟨rfl, hx⟩; replace HB := onto HB hx)))
        go_ret
        exact ⟨rfl, HB⟩
      · have hq' : (X == Y) = false := by simpa using hq
        clear hq
        go_enter Tryd.func5, Tryd.ntmps5
        go_wp2_with (first
          | (go_at_call 9; go_must (refine (awake_any _ (GL.out.on HB)).mono ?_; rintro e x ⟨rfl, hx⟩; replace HB := onto HB hx))
          | (go_at_call 12; go_must (refine (dgood_any _ _ (by first | exact ha | exact hb | exact hc)).mono ?_; rintro e x ⟨rfl, hx⟩; replace HB := onto HB hx; first | rw [na] | rw [nb] | rw [nc]))
          | (go_at_call 13; go_must (refine (dcmp_any _ _ _ (by first | exact ha | exact hb | exact hc) (by first | exact ha | exact hb | exact hc)).mono ?_; rintro e x ⟨rfl, hx⟩; replace HB := onto HB hx; first | rw [HX.out] | rw [HY.out] | rw [HBA.out]))
          | (go_at_call 11; go_must (refine (dcanon_any _ _ (GL.out.on HB) (by first | exact ha | exact hb | exact hc)).mono ?_; rintro e x ⟨rfl, hx⟩; replace HB := onto HB hx)))
        go_ret
        exact ⟨rfl, HB⟩
    · cases na : numB a.data.toList with
      | false =>
        clear hn
        go_enter Tryd.func5, Tryd.ntmps5
        go_wp2_with (first
          | (go_at_call 9; go_must (refine (awake_any _ (GL.out.on HB)).mono ?_; rintro e x ⟨rfl, hx⟩; replace HB := onto HB hx))
          | (go_at_call 12; go_must (refine (dgood_any _ _ ha).mono ?_; rintro e x ⟨rfl, hx⟩; replace HB := onto HB hx; rw [na])))
        go_ret
        exact ⟨rfl, HB⟩
      | true =>
        cases nb : numB b.data.toList with
        | false =>
          clear hn
          go_enter Tryd.func5, Tryd.ntmps5
          go_wp2_with (first
            | (go_at_call 9; go_must (refine (awake_any _ (GL.out.on HB)).mono ?_; rintro e x ⟨rfl, hx⟩; replace HB := onto HB hx))
            | (go_at_call 12; go_must (refine (dgood_any _ _ (by first | exact ha | exact hb)).mono ?_; rintro e x ⟨rfl, hx⟩; replace HB := onto HB hx; first | rw [na] | rw [nb])))
          go_ret
          exact ⟨rfl, HB⟩
        | true =>
          have nc : numB c.data.toList = false := by
            cases h : numB c.data.toList with
            | false => rfl
            | true => exact absurd ⟨na, nb, h⟩ hn
          clear hn
          go_enter Tryd.func5, Tryd.ntmps5
          go_wp2_with (first
            | (go_at_call 9; go_must (refine (awake_any _ (GL.out.on HB)).mono ?_; rintro e x ⟨rfl, hx⟩; replace HB := onto HB hx))
            | (go_at_call 12; go_must (refine (dgood_any _ _ (by first | exact ha | exact hb | exact hc)).mono ?_; rintro e x ⟨rfl, hx⟩; replace HB := onto HB hx; first | rw [na] | rw [nb] | rw [nc])))
          go_ret
          exact ⟨rfl, HB⟩
end Go.Proofs.YtnabdepplpaabaaDoor
