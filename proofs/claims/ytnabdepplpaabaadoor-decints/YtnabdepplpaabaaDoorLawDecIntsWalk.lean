/- DecInts, walked: a whole number that fits is told, and written, back and forth; its order is that of numbers. -/
import Derived.Test.YtnabdepplpaabaaDoorDecAwake
import Derived.Test.YtnabdepplpaabaaDoorMathDec8
import Derived.Deep.RegionWith
import Derived.Deep.DeepCutAuto
import Derived.OpenShut
namespace Go.Proofs.YtnabdepplpaabaaDoor
open Go.RowKit

set_option maxRecDepth 100000 in
set_option maxHeartbeats 1000000 in
theorem ints_walk (a b : Int) (w0 : (Lit.int .i64 a).wf = true) (w1 : (Lit.int .i64 b).wf = true) (w : World) (hg : Glob w) :
    Calls Tryd.prog 6 #[.int .i64 a, .int .i64 b] w fun e w' => e = .returned (.bool true) ∧ Below w.heap.size w w' := by
  have GL := hid hg
  clear hg
  have HB : Below w.heap.size w w := Below.refl _ _
  have ha : -9223372036854775808 ≤ a ∧ a < 9223372036854775808 := ⟨(bounds_i64 w0).1, by have := (bounds_i64 w0).2; omega⟩
  have hb : -9223372036854775808 ≤ b ∧ b < 9223372036854775808 := ⟨(bounds_i64 w1).1, by have := (bounds_i64 w1).2; omega⟩
  clear w0 w1
  have t1 : (mkS (txt a)).size ≤ 20 := by rw [mkS_size]; exact txt_short a ha
  have t2 : (mkS (txt b)).size ≤ 20 := by rw [mkS_size]; exact txt_short b hb
  have hI := ints_int a ha
  have hC := ints_cmp a b ha hb
  have hS := ints_same a ha
  have hG := (text_bare a ha).1
  have HTA := hid (fun w (g : Glob w) => dtext_any a w g ha.1 ha.2)
  have HTB := hid (fun w (g : Glob w) => dtext_any b w g hb.1 hb.2)
  obtain ⟨s, hs⟩ : ∃ s, mkS (txt a) = s := ⟨_, rfl⟩
  obtain ⟨t, ht⟩ : ∃ s, mkS (txt b) = s := ⟨_, rfl⟩
  have ls : s.data.toList = txt a := by rw [← hs]; exact mkS_list _
  have lt : t.data.toList = txt b := by rw [← ht]; exact mkS_list _
  rw [hs] at t1 HTA
  rw [ht] at t2 HTB
  obtain ⟨s1, hs1⟩ : ∃ x, s ++ (⟨#[46, 48, 48]⟩ : ByteArray) = x := ⟨_, rfl⟩
  obtain ⟨s2, hs2⟩ : ∃ x, s ++ (⟨#[101, 48]⟩ : ByteArray) = x := ⟨_, rfl⟩
  obtain ⟨s3, hs3⟩ : ∃ x, s ++ (⟨#[46, 53, 101, 49]⟩ : ByteArray) = x := ⟨_, rfl⟩
  obtain ⟨s4, hs4⟩ : ∃ x, s ++ (⟨#[46, 53, 69, 43, 49]⟩ : ByteArray) = x := ⟨_, rfl⟩
  have l1 : (⟨#[46, 48, 48]⟩ : ByteArray).size = 3 := rfl
  have l2 : (⟨#[101, 48]⟩ : ByteArray).size = 2 := rfl
  have l3 : (⟨#[46, 53, 101, 49]⟩ : ByteArray).size = 4 := rfl
  have l4 : (⟨#[46, 53, 69, 43, 49]⟩ : ByteArray).size = 5 := rfl
  have z1 : s1.size ≤ 30 := by rw [← hs1, ByteArray.size_append]; omega
  have z2 : s2.size ≤ 30 := by rw [← hs2, ByteArray.size_append]; omega
  have z3 : s3.size ≤ 30 := by rw [← hs3, ByteArray.size_append]; omega
  have z4 : s4.size ≤ 30 := by rw [← hs4, ByteArray.size_append]; omega
  have g1 : s1.data.toList = txt a ++ [46, 48, 48] := by rw [← hs1, ← ls]; simp
  have g2 : s2.data.toList = txt a ++ [101, 48] := by rw [← hs2, ← ls]; simp
  have g3 : s3.data.toList = txt a ++ [46, 53, 101, 49] := by rw [← hs3, ← ls]; simp
  have g4 : s4.data.toList = txt a ++ [46, 53, 69, 43, 49] := by rw [← hs4, ← ls]; simp
  rw [← g1, ← g2, ← g3, ← g4, ← ls] at hS
  rw [← ls] at hI hG
  rw [← ls, ← lt] at hC
  have HI1 := hid hI.1
  have HI2 := hid hI.2.1
  have HI3 := hid hI.2.2
  have HG := hid hG
  have HC := hid hC
  have H1 := hid hS.1
  have H2 := hid hS.2.1
  have H3 := hid hS.2.2
  clear hS hI hG hC g1 g2 g3 g4 ls lt hs ht
  rcases Int.lt_trichotomy a b with h | h | h
  · have HO := hid (show ordI a b = -1 by unfold ordI; rw [if_pos h])
    have h' : ¬ a > b := by omega
    go_enter Tryd.func6, Tryd.ntmps6
    go_wp2_with (first
      | (go_at_call 9; go_must (refine (awake_any _ (GL.out.on HB)).mono ?_; rintro e x ⟨rfl, hx⟩; replace HB := onto HB hx))
      | (go_at_call_of 20 a; go_must (refine (HTA.out _ (GL.out.on HB)).mono ?_; rintro e x ⟨rfl, hx⟩; replace HB := onto HB hx))
      | (go_at_call_of 20 b; go_must (refine (HTB.out _ (GL.out.on HB)).mono ?_; rintro e x ⟨rfl, hx⟩; replace HB := onto HB hx))
      | (go_at_call 10; go_must (refine (dint_any _ _ (GL.out.on HB) (by omega)).mono ?_; rintro e x ⟨rfl, hx⟩; replace HB := onto HB hx; rw [HI1.out, HI2.out]))
      | (go_at_call 12; go_must (refine (dgood_any _ _ (by omega)).mono ?_; rintro e x ⟨rfl, hx⟩; replace HB := onto HB hx; rw [HG.out]))
      | (go_at_call 17; go_must (refine (dwhole_any _ _ (by omega)).mono ?_; rintro e x ⟨rfl, hx⟩; replace HB := onto HB hx; rw [HI3.out]))
      | (go_at_call 13; go_must (refine (dcmp_any _ _ _ (by omega) (by omega)).mono ?_; rintro e x ⟨rfl, hx⟩; replace HB := onto HB hx; first | rw [HC.out, HO.out] | rw [H1.out] | rw [H2.out] | rw [H3.out])))
    go_ret
    exact ⟨rfl, HB⟩
  · have HO := hid (show ordI a b = 0 by unfold ordI; rw [if_neg (by omega), if_neg (by omega)])
    have h1 : ¬ a < b := by omega
    have h2 : ¬ a > b := by omega
    clear h
    go_enter Tryd.func6, Tryd.ntmps6
    go_wp2_with (first
      | (go_at_call 9; go_must (refine (awake_any _ (GL.out.on HB)).mono ?_; rintro e x ⟨rfl, hx⟩; replace HB := onto HB hx))
      | (go_at_call_of 20 a; go_must (refine (HTA.out _ (GL.out.on HB)).mono ?_; rintro e x ⟨rfl, hx⟩; replace HB := onto HB hx))
      | (go_at_call_of 20 b; go_must (refine (HTB.out _ (GL.out.on HB)).mono ?_; rintro e x ⟨rfl, hx⟩; replace HB := onto HB hx))
      | (go_at_call 10; go_must (refine (dint_any _ _ (GL.out.on HB) (by omega)).mono ?_; rintro e x ⟨rfl, hx⟩; replace HB := onto HB hx; rw [HI1.out, HI2.out]))
      | (go_at_call 12; go_must (refine (dgood_any _ _ (by omega)).mono ?_; rintro e x ⟨rfl, hx⟩; replace HB := onto HB hx; rw [HG.out]))
      | (go_at_call 17; go_must (refine (dwhole_any _ _ (by omega)).mono ?_; rintro e x ⟨rfl, hx⟩; replace HB := onto HB hx; rw [HI3.out]))
      | (go_at_call 13; go_must (refine (dcmp_any _ _ _ (by omega) (by omega)).mono ?_; rintro e x ⟨rfl, hx⟩; replace HB := onto HB hx; first | rw [HC.out, HO.out] | rw [H1.out] | rw [H2.out] | rw [H3.out])))
    go_ret
    exact ⟨rfl, HB⟩
  · have HO := hid (show ordI a b = 1 by unfold ordI; rw [if_neg (by omega), if_pos h])
    have h' : ¬ a < b := by omega
    go_enter Tryd.func6, Tryd.ntmps6
    go_wp2_with (first
      | (go_at_call 9; go_must (refine (awake_any _ (GL.out.on HB)).mono ?_; rintro e x ⟨rfl, hx⟩; replace HB := onto HB hx))
      | (go_at_call_of 20 a; go_must (refine (HTA.out _ (GL.out.on HB)).mono ?_; rintro e x ⟨rfl, hx⟩; replace HB := onto HB hx))
      | (go_at_call_of 20 b; go_must (refine (HTB.out _ (GL.out.on HB)).mono ?_; rintro e x ⟨rfl, hx⟩; replace HB := onto HB hx))
      | (go_at_call 10; go_must (refine (dint_any _ _ (GL.out.on HB) (by omega)).mono ?_; rintro e x ⟨rfl, hx⟩; replace HB := onto HB hx; rw [HI1.out, HI2.out]))
      | (go_at_call 12; go_must (refine (dgood_any _ _ (by omega)).mono ?_; rintro e x ⟨rfl, hx⟩; replace HB := onto HB hx; rw [HG.out]))
      | (go_at_call 17; go_must (refine (dwhole_any _ _ (by omega)).mono ?_; rintro e x ⟨rfl, hx⟩; replace HB := onto HB hx; rw [HI3.out]))
      | (go_at_call 13; go_must (refine (dcmp_any _ _ _ (by omega) (by omega)).mono ?_; rintro e x ⟨rfl, hx⟩; replace HB := onto HB hx; first | rw [HC.out, HO.out] | rw [H1.out] | rw [H2.out] | rw [H3.out])))
    go_ret
    exact ⟨rfl, HB⟩
end Go.Proofs.YtnabdepplpaabaaDoor
