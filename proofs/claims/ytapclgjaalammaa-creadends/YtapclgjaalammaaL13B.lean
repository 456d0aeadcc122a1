import Derived.Test.YtapclgjaalammaaL13A
/- The statements of stage 13: awake. -/
namespace Go.Proofs.Ytapclgjaalammaa
open Go.RowKit

theorem one_row {W : World} {base : Nat} {o : Option Addr} {n c : Nat} {E : List (List (List UInt8) × Value)} {fs : List (List UInt8)} (h : Rws W base (.slice o n c) E) (hE : E.map (·.1) = [fs]) : ∃ g o2 c2, o = some ⟨g, 0, none⟩ ∧ n = 1 ∧ 1 ≤ c ∧ W.cell? ⟨g, 0, none⟩ = some (.slice o2 fs.length c2) ∧ fs.length ≤ c2 ∧ ∀ (j : Nat) p, fs[j]? = some p → ∃ g2, o2 = some ⟨g2, 0, none⟩ ∧ W.cell? ⟨g2, j, none⟩ = some (.string (mkS p)) := by
  obtain ⟨e, rfl⟩ : ∃ e, E = [e] := by
    cases E with
    | nil => simp at hE
    | cons e E =>
      cases E with
      | nil => exact ⟨e, rfl⟩
      | cons e2 E => simp at hE
  have hfs : e.1 = fs := by simpa using hE
  subst hfs
  obtain ⟨o', cap, hu, hcap, hc⟩ := crows_at h
  injection hu with h1 h2 h3
  subst h1 h2 h3
  obtain ⟨g, rfl, hcell⟩ := hc 0 e rfl
  obtain ⟨o2, c2, hv, hc2, h4⟩ := crow_at (h.rows e (by simp))
  rw [hv] at hcell
  exact ⟨g, o2, c2, rfl, rfl, hcap, hcell, hc2, h4⟩
theorem csv1 : csvR fldP (⟨#[97, 44, 34, 98, 34, 34, 99, 34]⟩ : ByteArray).data.toList = .ok [[[97], [98, 34, 99]]] := by kernel_rfl
theorem csv2 : csvR fldP (⟨#[97, 44, 98, 10, 99]⟩ : ByteArray).data.toList = .bad 7 [99] := by kernel_rfl
theorem csv3 : csvR fldP (⟨#[97, 13, 10, 98]⟩ : ByteArray).data.toList = .ok [[[97]], [[98]]] := by kernel_rfl
theorem fv2 : faultV ⟨#[97, 44, 98, 10, 99]⟩ (((⟨#[97, 44, 98, 10, 99]⟩ : ByteArray).size - ([99] : List UInt8).length : Nat) : Int) ((7 : Nat) : Int) = .agg #[.int .i64 7, .int .i64 4, .int .i64 2, .int .i64 1] := by kernel_rfl
theorem box4 (w : World) (a b c d : Value) : (w.alloc (.cells #[a, b, c, d] 26)).cell? ⟨w.heap.size, 0, none⟩ = some a ∧ (w.alloc (.cells #[a, b, c, d] 26)).cell? ⟨w.heap.size, 1, none⟩ = some b ∧ (w.alloc (.cells #[a, b, c, d] 26)).cell? ⟨w.heap.size, 2, none⟩ = some c ∧ (w.alloc (.cells #[a, b, c, d] 26)).cell? ⟨w.heap.size, 3, none⟩ = some d := by
  have h := new_cells w [a, b, c, d] 26
  have a0 := h 0 _ rfl
  have a1 := h 1 _ rfl
  have a2 := h 2 _ rfl
  have a3 := h 3 _ rfl
  rw [add_at] at a0 a1 a2 a3
  exact ⟨a0, a1, a2, a3⟩
set_option maxRecDepth 100000 in
set_option maxHeartbeats 4000000 in
theorem awake13 (w : World) : Calls Try.prog 8 #[] w fun e w' => e = .returned (.bool true) ∧ Below w.heap.size w w' := by
  have C1 := hid (crows_any ⟨#[97, 44, 34, 98, 34, 34, 99, 34]⟩ w (by decide))
  rw [csv1] at C1
  have C2 := hid (fun X => crows_any ⟨#[97, 44, 98, 10, 99]⟩ X (by decide))
  rw [csv2] at C2
  have C3 := hid (fun X => cvalid_any ⟨#[97, 13, 10, 98]⟩ X (by decide))
  rw [csv3] at C3
  have e3 : decide (ctrErr (CTR.ok [[[97]], [[98]]]) = 0) = true := rfl
  rw [e3] at C3
  go_enter Try.func8, Try.ntmps8
  go_wp2_with fail
  go_at_call 9
  refine C1.out.mono ?_
  rintro e w1 ⟨o, n, c, E, rfl, hE, hR, hb1⟩
  obtain ⟨g, o2, c2, rfl, rfl, hc1, k1, hc2, hk⟩ := one_row hR hE
  obtain ⟨g2, rfl, k2⟩ := hk 1 [98, 34, 99] rfl
  have HB1 := hid hb1
  clear hE hR hk C1 hb1
  go_upto_region 2 with fail
  refine cwp_gen ?_
  intro W hW
  have b4 := box4 w1 (.int .i64 0) (.int .i64 0) (.int .i64 0) (.int .i64 0)
  have hbW : Below w1.heap.size w1 W := by rw [hW]; exact valloc_bel (Below.refl _ _) _
  rw [← hW] at b4
  obtain ⟨f0, f1, f2, f3⟩ := b4
  replace k1 := keepCell hbW k1
  replace k2 := keepCell hbW k2
  have HBW := hid (vonto HB1.out hbW)
  clear hW hbW HB1
  go_wp2_with fail
  go_at_call 9
  refine (C2.out _).mono ?_
  rintro e w2 ⟨rfl, hb2⟩
  rw [fv2]
  replace k1 := keepCell hb2 k1
  replace k2 := keepCell hb2 k2
  replace f0 := keepCell hb2 f0
  replace f1 := keepCell hb2 f1
  replace f2 := keepCell hb2 f2
  replace f3 := keepCell hb2 f3
  have HB2 := hid (vonto HBW.out hb2)
  clear hb2 HBW C2
  go_upto_region 3 with fail
  refine cwp_gen ?_
  intro V hV
  have d4 := box4 w2 (.int .i64 7) (.int .i64 4) (.int .i64 2) (.int .i64 1)
  have hbV : Below w2.heap.size w2 V := by rw [hV]; exact valloc_bel (Below.refl _ _) _
  rw [← hV] at d4
  obtain ⟨d0, d1, d2, d3⟩ := d4
  replace k1 := keepCell hbV k1
  replace k2 := keepCell hbV k2
  replace f0 := keepCell hbV f0
  replace f1 := keepCell hbV f1
  replace f2 := keepCell hbV f2
  replace f3 := keepCell hbV f3
  have HBV := hid (vonto HB2.out hbV)
  clear hV hbV HB2
  have hq : ((mkS [98, 34, 99]).toList == [98, 34, 99]) = true := by kernel_rfl
  generalize mkS [98, 34, 99] = m at k2 hq
  go_wp2_with (go_at_call 12; go_must (refine (C3.out _).mono ?_; rintro e w3 ⟨rfl, hb3⟩))
  go_ret
  exact ⟨rfl, vonto HBV.out hb3⟩
end Go.Proofs.Ytapclgjaalammaa
