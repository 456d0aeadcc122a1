/- DecSigns, walked: with its sign turned a number's order is turned; nought has no sign. -/
import Derived.Test.YtnabdepplpaabaaDoorDecAwake
import Derived.Test.YtnabdepplpaabaaDoorMathDec5
import Derived.Deep.RegionWith
import Derived.OpenShut
namespace Go.Proofs.YtnabdepplpaabaaDoor
open Go.RowKit

theorem ds1 : cmpI (ByteArray.mk #[45, 48]).data.toList (ByteArray.mk #[48, 46, 48, 48, 101, 53]).data.toList = 0 := by decide +kernel
theorem minus_list (a : ByteArray) : ((⟨#[45]⟩ : ByteArray) ++ a).data.toList = 45 :: a.data.toList := by simp
theorem minus_size (a : ByteArray) : ((⟨#[45]⟩ : ByteArray) ++ a).size = a.size + 1 := by rw [← size_list, minus_list]; simp
set_option maxRecDepth 100000 in
set_option maxHeartbeats 1000000 in
theorem signs_walk (a b : ByteArray) (w0 : a.size ≤ maxLen) (w1 : b.size ≤ maxLen) (w : World) (hg : Glob w) :
    Calls Tryd.prog 8 #[.string a, .string b] w fun e w' => e = .returned (.bool true) ∧ Below w.heap.size w w' := by
  have GL := hid hg
  clear hg
  have HB : Below w.heap.size w w := Below.refl _ _
  unfold maxLen at w0 w1
  by_cases h4 : a.size > 300 ∨ b.size > 300
  · have h4' : a.size > 300 ∨ (¬ a.size > 300 ∧ b.size > 300) := by omega
    clear h4
    rcases h4' with h | ⟨h, h'⟩
    all_goals
      go_enter Tryd.func8, Tryd.ntmps8
      go_wp2_with (go_at_call 9; go_must (refine (awake_any _ (GL.out.on HB)).mono ?_; rintro e x ⟨rfl, hx⟩; replace HB := onto HB hx))
      go_ret
      exact ⟨rfl, HB⟩
  · have ha4 : ¬ a.size > 300 := by omega
    have hb4 : ¬ b.size > 300 := by omega
    have ha : a.size ≤ 1000000 := by omega
    have hb : b.size ≤ 1000000 := by omega
    have LA := hid (size_list a)
    have LB := hid (size_list b)
    clear h4
    cases na : numB a.data.toList with
    | false =>
      go_enter Tryd.func8, Tryd.ntmps8
      go_wp2_with (first
        | (go_at_call 9; go_must (refine (awake_any _ (GL.out.on HB)).mono ?_; rintro e x ⟨rfl, hx⟩; replace HB := onto HB hx))
        | (go_at_call 12; go_must (refine (dgood_any _ _ ha).mono ?_; rintro e x ⟨rfl, hx⟩; replace HB := onto HB hx; rw [na])))
      go_ret
      exact ⟨rfl, HB⟩
    | true =>
      cases nb : numB b.data.toList with
      | false =>
        go_enter Tryd.func8, Tryd.ntmps8
        go_wp2_with (first
          | (go_at_call 9; go_must (refine (awake_any _ (GL.out.on HB)).mono ?_; rintro e x ⟨rfl, hx⟩; replace HB := onto HB hx))
          | (go_at_call 12; go_must (refine (dgood_any _ _ (by first | exact ha | exact hb)).mono ?_; rintro e x ⟨rfl, hx⟩; replace HB := onto HB hx; first | rw [na] | rw [nb])))
        go_ret
        exact ⟨rfl, HB⟩
      | true =>
        have ha0 : 0 < a.size := emp_size a (num_ne _ na)
        have hb0 : 0 < b.size := emp_size b (num_ne _ nb)
        have EA := hid (getD_at a 0 ha0)
        have EB := hid (getD_at b 0 hb0)
        by_cases h1 : a[0].toNat = 45
        · have h2 : ((a[0].toNat : Int) == 45) = true := byte_is _ _ h1
          clear h1
          go_enter Tryd.func8, Tryd.ntmps8
          go_wp2_with (first
            | (go_at_call 9; go_must (refine (awake_any _ (GL.out.on HB)).mono ?_; rintro e x ⟨rfl, hx⟩; replace HB := onto HB hx))
            | (go_at_call 12; go_must (refine (dgood_any _ _ (by first | exact ha | exact hb)).mono ?_; rintro e x ⟨rfl, hx⟩; replace HB := onto HB hx; first | rw [na] | rw [nb])))
          go_ret
          exact ⟨rfl, HB⟩
        · have h2 : ((a[0].toNat : Int) == 45) = false := byte_not _ _ h1
          have pa : pNeg a.data.toList = false := by unfold pNeg; rw [EA.out]; simp [h1]
          clear h1
          by_cases h1 : b[0].toNat = 45
          · have h3 : ((b[0].toNat : Int) == 45) = true := byte_is _ _ h1
            clear h1
            go_enter Tryd.func8, Tryd.ntmps8
            go_wp2_with (first
              | (go_at_call 9; go_must (refine (awake_any _ (GL.out.on HB)).mono ?_; rintro e x ⟨rfl, hx⟩; replace HB := onto HB hx))
              | (go_at_call 12; go_must (refine (dgood_any _ _ (by first | exact ha | exact hb)).mono ?_; rintro e x ⟨rfl, hx⟩; replace HB := onto HB hx; first | rw [na] | rw [nb])))
            go_ret
            exact ⟨rfl, HB⟩
          · have h3 : ((b[0].toNat : Int) == 45) = false := byte_not _ _ h1
            have pb : pNeg b.data.toList = false := by unfold pNeg; rw [EB.out]; simp [h1]
            clear h1
            have hc := turn_cmp _ _ pa pb na nb (by rw [LA.out]; omega) (by rw [LB.out]; omega)
            have hw := turn_whole _ pa na (by rw [LA.out]; omega)
            have hv := cmp_vals _ _ na nb
            obtain ⟨A, hA⟩ : ∃ x, (⟨#[45]⟩ : ByteArray) ++ a = x := ⟨_, rfl⟩
            obtain ⟨B, hB⟩ : ∃ x, (⟨#[45]⟩ : ByteArray) ++ b = x := ⟨_, rfl⟩
            have hAl : A.data.toList = 45 :: a.data.toList := by rw [← hA]; exact minus_list a
            have hBl : B.data.toList = 45 :: b.data.toList := by rw [← hB]; exact minus_list b
            have hAs : A.size ≤ 1000000 := by rw [← hA, minus_size]; omega
            have hBs : B.size ≤ 1000000 := by rw [← hB, minus_size]; omega
            rw [← hAl] at hc hw
            rw [← hBl] at hc
            obtain ⟨X, hX⟩ : ∃ X, cmpI a.data.toList b.data.toList = X := ⟨_, rfl⟩
            obtain ⟨Z, hZ⟩ : ∃ X, cmpI A.data.toList b.data.toList = X := ⟨_, rfl⟩
            rw [hX] at hc hv
            rw [hZ] at hc
            have h5 : -1 ≤ X := by omega
            have h6 : X ≤ 1 := by omega
            have h7 : Z ≤ 0 := hc.2
            have HC := hid hc.1
            have HX := hid hX
            have HZ := hid hZ
            have HW := hid hw
            have HS := hid ds1
            clear hc hw hv hX hZ hAl hBl
            go_enter Tryd.func8, Tryd.ntmps8
            go_wp2_with (first
              | (go_at_call 9; go_must (refine (awake_any _ (GL.out.on HB)).mono ?_; rintro e x ⟨rfl, hx⟩; replace HB := onto HB hx))
              | (go_at_call 12; go_must (refine (dgood_any _ _ (by first | exact ha | exact hb)).mono ?_; rintro e x ⟨rfl, hx⟩; replace HB := onto HB hx; first | rw [na] | rw [nb]))
              | (go_at_call 13; go_must (refine (dcmp_any _ _ _ (by first | exact ha | exact hAs | decide) (by first | exact hb | exact hBs | decide)).mono ?_; rintro e x ⟨rfl, hx⟩; replace HB := onto HB hx; first | rw [HX.out] | rw [HZ.out] | rw [HC.out] | rw [HS.out]))
              | (go_at_call 17; go_must (refine (dwhole_any _ _ (by first | exact ha | exact hAs)).mono ?_; rintro e x ⟨rfl, hx⟩; replace HB := onto HB hx; try rw [HW.out])))
            go_ret
            exact ⟨rfl, HB⟩
end Go.Proofs.YtnabdepplpaabaaDoor
