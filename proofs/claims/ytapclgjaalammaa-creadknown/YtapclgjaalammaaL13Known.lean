import Derived.Test.YtapclgjaalammaaL13B
/- The statement CreadKnown: walked. -/
namespace Go.Proofs.Ytapclgjaalammaa
open Go.RowKit

theorem kcsv0 : csvR fldP (⟨#[97, 34, 98]⟩ : ByteArray).data.toList = .bad 4 [34, 98] := by kernel_rfl
theorem kfv0 : faultV ⟨#[97, 34, 98]⟩ (((⟨#[97, 34, 98]⟩ : ByteArray).size - ([34, 98] : List UInt8).length : Nat) : Int) ((4 : Nat) : Int) = .agg #[.int .i64 4, .int .i64 1, .int .i64 1, .int .i64 2] := by kernel_rfl
theorem kcsv1 : csvR fldP (⟨#[34, 97, 34, 98]⟩ : ByteArray).data.toList = .bad 4 [98] := by kernel_rfl
theorem kfv1 : faultV ⟨#[34, 97, 34, 98]⟩ (((⟨#[34, 97, 34, 98]⟩ : ByteArray).size - ([98] : List UInt8).length : Nat) : Int) ((4 : Nat) : Int) = .agg #[.int .i64 4, .int .i64 3, .int .i64 1, .int .i64 4] := by kernel_rfl
theorem kcsv2 : csvR fldP (⟨#[34, 97]⟩ : ByteArray).data.toList = .bad 4 [] := by kernel_rfl
theorem kfv2 : faultV ⟨#[34, 97]⟩ (((⟨#[34, 97]⟩ : ByteArray).size - ([] : List UInt8).length : Nat) : Int) ((4 : Nat) : Int) = .agg #[.int .i64 4, .int .i64 2, .int .i64 1, .int .i64 3] := by kernel_rfl
theorem kcsv3 : csvR fldP (⟨#[97, 13, 98]⟩ : ByteArray).data.toList = .bad 4 [13, 98] := by kernel_rfl
theorem kfv3 : faultV ⟨#[97, 13, 98]⟩ (((⟨#[97, 13, 98]⟩ : ByteArray).size - ([13, 98] : List UInt8).length : Nat) : Int) ((4 : Nat) : Int) = .agg #[.int .i64 4, .int .i64 1, .int .i64 1, .int .i64 2] := by kernel_rfl
theorem kcsv4 : csvR fldP (⟨#[]⟩ : ByteArray).data.toList = .ok [] := by kernel_rfl
theorem kcsv5 : csvR fldP (⟨#[10]⟩ : ByteArray).data.toList = .ok [[[]]] := by kernel_rfl
set_option maxRecDepth 100000 in
set_option maxHeartbeats 8000000 in
theorem Try.creadKnown_walk (w : World) : Calls Try.prog 3 #[] w fun e w' => e = .returned (.bool true) ∧ Below w.heap.size w w' := by
  have CA := hid (awake13 w)
  have C0 := hid (fun X => crows_any ⟨#[97, 34, 98]⟩ X (by decide))
  rw [kcsv0] at C0
  have C1 := hid (fun X => crows_any ⟨#[34, 97, 34, 98]⟩ X (by decide))
  rw [kcsv1] at C1
  have C2 := hid (fun X => crows_any ⟨#[34, 97]⟩ X (by decide))
  rw [kcsv2] at C2
  have C3 := hid (fun X => crows_any ⟨#[97, 13, 98]⟩ X (by decide))
  rw [kcsv3] at C3
  have C4 := hid (fun X => crows_any ⟨#[]⟩ X (by decide))
  rw [kcsv4] at C4
  have C5 := hid (fun X => crows_any ⟨#[10]⟩ X (by decide))
  rw [kcsv5] at C5
  go_enter Try.func3, Try.ntmps3
  go_wp2_with fail
  go_at_call 8
  refine CA.out.mono ?_
  rintro e v0 ⟨rfl, hb0⟩
  have HV0 := hid hb0
  clear hb0 CA
  go_wp2_with fail
  go_at_call 9
  refine (C0.out _).mono ?_
  rintro e w0 ⟨rfl, hb⟩
  rw [kfv0]
  have HW0 := hid (vonto HV0.out hb)
  clear hb HV0 C0
  go_upto_region 4 with fail
  refine cwp_gen ?_
  intro v1 hV
  have d4 := box4 w0 (.int .i64 4) (.int .i64 1) (.int .i64 1) (.int .i64 2)
  have hb : Below w0.heap.size w0 v1 := by rw [hV]; exact valloc_bel (Below.refl _ _) _
  rw [← hV] at d4
  obtain ⟨a0, b0, -, -⟩ := d4
  have HV1 := hid (vonto HW0.out hb)
  clear hV hb HW0
  go_wp2_with fail
  go_at_call 9
  refine (C1.out _).mono ?_
  rintro e w1 ⟨rfl, hb⟩
  rw [kfv1]
  replace a0 := keepCell hb a0
  replace b0 := keepCell hb b0
  have HW1 := hid (vonto HV1.out hb)
  clear hb HV1 C1
  go_upto_region 5 with fail
  refine cwp_gen ?_
  intro v2 hV
  have d4 := box4 w1 (.int .i64 4) (.int .i64 3) (.int .i64 1) (.int .i64 4)
  have hb : Below w1.heap.size w1 v2 := by rw [hV]; exact valloc_bel (Below.refl _ _) _
  rw [← hV] at d4
  obtain ⟨a1, b1, -, -⟩ := d4
  replace a0 := keepCell hb a0
  replace b0 := keepCell hb b0
  have HV2 := hid (vonto HW1.out hb)
  clear hV hb HW1
  go_wp2_with fail
  go_at_call 9
  refine (C2.out _).mono ?_
  rintro e w2 ⟨rfl, hb⟩
  rw [kfv2]
  replace a0 := keepCell hb a0
  replace b0 := keepCell hb b0
  replace a1 := keepCell hb a1
  replace b1 := keepCell hb b1
  have HW2 := hid (vonto HV2.out hb)
  clear hb HV2 C2
  go_upto_region 6 with fail
  refine cwp_gen ?_
  intro v3 hV
  have d4 := box4 w2 (.int .i64 4) (.int .i64 2) (.int .i64 1) (.int .i64 3)
  have hb : Below w2.heap.size w2 v3 := by rw [hV]; exact valloc_bel (Below.refl _ _) _
  rw [← hV] at d4
  obtain ⟨a2, b2, -, -⟩ := d4
  replace a0 := keepCell hb a0
  replace b0 := keepCell hb b0
  replace a1 := keepCell hb a1
  replace b1 := keepCell hb b1
  have HV3 := hid (vonto HW2.out hb)
  clear hV hb HW2
  go_wp2_with fail
  go_at_call 9
  refine (C3.out _).mono ?_
  rintro e w3 ⟨rfl, hb⟩
  rw [kfv3]
  replace a0 := keepCell hb a0
  replace b0 := keepCell hb b0
  replace a1 := keepCell hb a1
  replace b1 := keepCell hb b1
  replace a2 := keepCell hb a2
  replace b2 := keepCell hb b2
  have HW3 := hid (vonto HV3.out hb)
  clear hb HV3 C3
  go_upto_region 7 with fail
  refine cwp_gen ?_
  intro v4 hV
  have d4 := box4 w3 (.int .i64 4) (.int .i64 1) (.int .i64 1) (.int .i64 2)
  have hb : Below w3.heap.size w3 v4 := by rw [hV]; exact valloc_bel (Below.refl _ _) _
  rw [← hV] at d4
  obtain ⟨a3, b3, -, -⟩ := d4
  replace a0 := keepCell hb a0
  replace b0 := keepCell hb b0
  replace a1 := keepCell hb a1
  replace b1 := keepCell hb b1
  replace a2 := keepCell hb a2
  replace b2 := keepCell hb b2
  have HV4 := hid (vonto HW3.out hb)
  clear hV hb HW3
  go_wp2_with fail
  go_at_call 9
  refine (C4.out _).mono ?_
  rintro e w4 ⟨o4, n4, c4, E4, rfl, hE4, hR4, hb⟩
  obtain rfl : E4 = [] := by simpa using hE4
  obtain ⟨o4', c4', hu4, -, -⟩ := crows_at hR4
  injection hu4 with x1 x2 x3
  subst x2
  simp only [List.length_nil]
  replace a0 := keepCell hb a0
  replace b0 := keepCell hb b0
  replace a1 := keepCell hb a1
  replace b1 := keepCell hb b1
  replace a2 := keepCell hb a2
  replace b2 := keepCell hb b2
  replace a3 := keepCell hb a3
  replace b3 := keepCell hb b3
  have HW4 := hid (vonto HV4.out hb)
  clear hb HV4 C4 hE4 hR4 x1 x3
  go_upto_region 8 with fail
  refine cwp_gen ?_
  intro v5 hV
  have d4 := box4 w4 (.int .i64 0) (.int .i64 0) (.int .i64 0) (.int .i64 0)
  have hb : Below w4.heap.size w4 v5 := by rw [hV]; exact valloc_bel (Below.refl _ _) _
  rw [← hV] at d4
  obtain ⟨a4, -, -, -⟩ := d4
  replace a0 := keepCell hb a0
  replace b0 := keepCell hb b0
  replace a1 := keepCell hb a1
  replace b1 := keepCell hb b1
  replace a2 := keepCell hb a2
  replace b2 := keepCell hb b2
  replace a3 := keepCell hb a3
  replace b3 := keepCell hb b3
  have HV5 := hid (vonto HW4.out hb)
  clear hV hb HW4
  go_wp2_with fail
  go_at_call 9
  refine (C5.out _).mono ?_
  rintro e w5 ⟨o5, n5, c5, E5, rfl, hE5, hR5, hb⟩
  obtain ⟨g, o2, c2, rfl, rfl, hc1, k1, hc2, hk⟩ := one_row hR5 hE5
  obtain ⟨g2, rfl, k2⟩ := hk 0 [] rfl
  replace a0 := keepCell hb a0
  replace b0 := keepCell hb b0
  replace a1 := keepCell hb a1
  replace b1 := keepCell hb b1
  replace a2 := keepCell hb a2
  replace b2 := keepCell hb b2
  replace a3 := keepCell hb a3
  replace b3 := keepCell hb b3
  replace a4 := keepCell hb a4
  have HW5 := hid (vonto HV5.out hb)
  clear hb HV5 C5 hE5 hR5 hk
  go_upto_region 9 with fail
  refine cwp_gen ?_
  intro v6 hV
  have d4 := box4 w5 (.int .i64 0) (.int .i64 0) (.int .i64 0) (.int .i64 0)
  have hb : Below w5.heap.size w5 v6 := by rw [hV]; exact valloc_bel (Below.refl _ _) _
  rw [← hV] at d4
  obtain ⟨a5, -, -, -⟩ := d4
  replace a0 := keepCell hb a0
  replace b0 := keepCell hb b0
  replace a1 := keepCell hb a1
  replace b1 := keepCell hb b1
  replace a2 := keepCell hb a2
  replace b2 := keepCell hb b2
  replace a3 := keepCell hb a3
  replace b3 := keepCell hb b3
  replace a4 := keepCell hb a4
  replace k1 := keepCell hb k1
  replace k2 := keepCell hb k2
  have HV6 := hid (vonto HW5.out hb)
  clear hV hb HW5
  have hq : ((mkS []).toList == []) = true := by kernel_rfl
  have hq2 : (mkS []).toList.isEmpty = true := by kernel_rfl
  generalize mkS [] = m at k2 hq hq2
  go_wp2_with fail
  go_ret
  exact ⟨rfl, HV6.out⟩
end Go.Proofs.Ytapclgjaalammaa
