import Derived.Test.YtapclgjaalammaaL13U
import Derived.Test.YtapclgjaalammaaL13B
import Derived.Test.YtapclgjaalammaaMathCsv4
/- The statement CreadSays: walked. -/
namespace Go.Proofs.Ytapclgjaalammaa
open Go.RowKit

set_option maxRecDepth 100000 in
set_option maxHeartbeats 4000000 in
theorem csays_bad (t : ByteArray) (er : Nat) (r : List UInt8) (w : World) (ht : t.size ≤ 3000) (hR : csvR fldP t.data.toList = .bad er r) :
    Calls Try.prog 4 #[.string t] w fun e w' => e = .returned (.bool true) ∧ Below w.heap.size w w' := by
  have CA := hid (awake13 w)
  have C1 := hid (fun X => crows_any t X (by omega))
  have C2 := hid (fun X => drows_any t X (by omega))
  rw [csv_same _ (by rw [size_list]; omega)] at C2
  have C3 := hid (fun X => cvalid_any t X (by omega))
  rw [hR] at C1 C2 C3
  have hne : er ≠ 0 := csv_err _ _ _ hR
  rw [show ctrErr (CTR.bad er r) = er from rfl, decide_eq_false hne] at C3
  obtain ⟨ea, hea⟩ : ∃ a, t.size - r.length = a := ⟨_, rfl⟩
  unfold Tq at C1
  unfold Du at C2
  dsimp only at C1 C2
  rw [hea] at C1 C2
  have CG := hid (fun X => rfault_any t (ea : Int) (er : Int) X (by omega))
  have HFV : Hid (faultV t (ea : Int) (er : Int) = .agg #[.int .i64 (er : Int), .int .i64 (clN t.size (ea : Int)), .int .i64 (ofL t (ea : Int)), .int .i64 (ofC t (ea : Int))]) := hid rfl
  generalize faultV t (ea : Int) (er : Int) = fv at C1 CG HFV
  generalize ((clN t.size (ea : Int) : Nat) : Int) = c1 at HFV
  generalize ((ofL t (ea : Int) : Nat) : Int) = c2 at HFV
  generalize ((ofC t (ea : Int) : Nat) : Int) = c3 at HFV
  obtain rfl := HFV.out
  have hen : ((er : Int) != 0) = true := by simp; omega
  clear hR HFV hea hne
  go_enter Try.func4, Try.ntmps4
  go_wp2_with fail
  go_at_call 8
  refine CA.out.mono ?_
  rintro e w0 ⟨rfl, hb0⟩
  have HB0 := hid hb0
  clear hb0 CA
  go_wp2_with fail
  go_at_call 9
  refine (C1.out _).mono ?_
  rintro e w1 ⟨rfl, hb1⟩
  have HB1 := hid (vonto HB0.out hb1)
  clear hb1 C1 HB0
  go_upto_region 6 with fail
  refine cwp_gen ?_
  intro W hW
  have b4 := box4 w1 (.int .i64 (er : Int)) (.int .i64 c1) (.int .i64 c2) (.int .i64 c3)
  have hbW : Below w1.heap.size w1 W := by rw [hW]; exact valloc_bel (Below.refl _ _) _
  rw [← hW] at b4
  obtain ⟨f0, f1, f2, f3⟩ := b4
  have HBW := hid (vonto HB1.out hbW)
  clear hW hbW HB1
  go_wp2_with fail
  go_at_call 10
  refine (C2.out _).mono ?_
  rintro e w2 ⟨rfl, hb2⟩
  replace f0 := keepCell hb2 f0
  replace f1 := keepCell hb2 f1
  replace f2 := keepCell hb2 f2
  replace f3 := keepCell hb2 f3
  have HB2 := hid (vonto HBW.out hb2)
  clear hb2 C2 HBW
  go_upto_region 7 with fail
  refine cwp_gen ?_
  intro V hV
  have d2 := box2 w2 (.int .i64 (er : Int)) (.int .i64 (ea : Int))
  have hbV : Below w2.heap.size w2 V := by rw [hV]; exact valloc_bel (Below.refl _ _) _
  rw [← hV] at d2
  obtain ⟨e0, e1⟩ := d2
  replace f0 := keepCell hbV f0
  replace f1 := keepCell hbV f1
  replace f2 := keepCell hbV f2
  replace f3 := keepCell hbV f3
  have HB3 := hid (vonto HB2.out hbV)
  clear hV hbV HB2
  have KF := hid (fun X : Abv V => CG.out X.u)
  have KV := hid (fun X : Abv V => C3.out X.u)
  have hinh := abv_some V
  go_wp2_with fail
  have yf0 := above_cell f0
  have yf1 := above_cell f1
  have yf2 := above_cell f2
  have yf3 := above_cell f3
  have ye0 := above_cell e0
  have ye1 := above_cell e1
  clear f0 f1 f2 f3 e0 e1 CG C3
  refine wp_region_above (by kernel_rfl) (by kernel_rfl) ?_
  repeat (go_big_quiet_step ((first
    | (go_at_call 11; with_reducible exact above_of (KF.out _))
    | (go_at_call 12; with_reducible exact above_of (KV.out _)))))
  refine wpQuiet_nil ?_
  intro _ hw'
  obtain ⟨X, hX⟩ := hw'
  subst hX
  go_wp2_with fail
  go_ret
  exact ⟨rfl, vonto HB3.out X.h⟩
set_option maxRecDepth 100000 in
set_option maxHeartbeats 4000000 in
theorem csays_ok (t : ByteArray) (rs : List (List (List UInt8))) (w : World) (ht : t.size ≤ 3000) (hR : csvR fldP t.data.toList = .ok rs) :
    Calls Try.prog 4 #[.string t] w fun e w' => e = .returned (.bool true) ∧ Below w.heap.size w w' := by
  have CA := hid (awake13 w)
  have C1 := hid (fun X => crows_any t X (by omega))
  have C2 := hid (fun X => drows_any t X (by omega))
  rw [csv_same _ (by rw [size_list]; omega)] at C2
  have C3 := hid (fun X => cvalid_any t X (by omega))
  rw [hR] at C1 C2 C3
  have e3 : decide (ctrErr (CTR.ok rs) = 0) = true := rfl
  rw [e3] at C3
  have HLN := hid (csv_len _ _ _ hR)
  clear hR
  go_enter Try.func4, Try.ntmps4
  go_wp2_with fail
  go_at_call 8
  refine CA.out.mono ?_
  rintro e w0 ⟨rfl, hb0⟩
  have HB0 := hid hb0
  clear hb0 CA
  go_wp2_with fail
  go_at_call 9
  refine (C1.out _).mono ?_
  rintro e w1 ⟨o, n, c, E, rfl, hE, hW1, hb1⟩
  have HB1 := hid (vonto HB0.out hb1)
  have HW1 := hid hW1
  have HE := hid hE
  clear hb1 C1 HB0 hW1 hE
  go_upto_region 6 with fail
  refine cwp_gen ?_
  intro W hW
  have b4 := box4 w1 (.int .i64 0) (.int .i64 0) (.int .i64 0) (.int .i64 0)
  have hbW : Below w1.heap.size w1 W := by rw [hW]; exact valloc_bel (Below.refl _ _) _
  rw [← hW] at b4
  obtain ⟨f0, f1, f2, f3⟩ := b4
  have HBW := hid (vonto HB1.out hbW)
  have HW2 := hid (HW1.out.onto hbW)
  clear hW hbW HB1 HW1
  go_wp2_with fail
  go_at_call 10
  refine (C2.out _).mono ?_
  rintro e w2 ⟨o2, n2, c2, o3, n3, c3, E2, rfl, hE2, hD2, hb2⟩
  replace f0 := keepCell hb2 f0
  replace f1 := keepCell hb2 f1
  replace f2 := keepCell hb2 f2
  replace f3 := keepCell hb2 f3
  have HB2 := hid (vonto HBW.out hb2)
  have HW3 := hid (HW2.out.onto hb2)
  have HD2 := hid hD2
  have HE2 := hid hE2
  clear hb2 C2 HBW HW2 hD2 hE2
  go_upto_region 7 with fail
  refine cwp_gen ?_
  intro V hV
  have d2 := box2 w2 (.int .i64 0) (.int .i64 0)
  have hbV : Below w2.heap.size w2 V := by rw [hV]; exact valloc_bel (Below.refl _ _) _
  rw [← hV] at d2
  obtain ⟨e0, e1⟩ := d2
  replace f0 := keepCell hbV f0
  replace f1 := keepCell hbV f1
  replace f2 := keepCell hbV f2
  replace f3 := keepCell hbV f3
  have HB3 := hid (vonto HB2.out hbV)
  have hlE : E.length ≤ 513 := by have := HLN.out.1; rw [← HE.out, List.length_map] at this; exact this
  have hlr : ∀ e ∈ E, e.1.length ≤ 1000000 := fun e he => by
    have := HLN.out.2 e.1 (by rw [← HE.out]; exact List.mem_map_of_mem he)
    omega
  have CS := hid (crows_same E E2 _ _ _ _ V (by omega) hlr (HW3.out.onto hbV) (HD2.out.onto hbV) (by rw [HE.out, HE2.out]))
  clear hV hbV HB2 HW3 HD2 HE HE2 HLN hlE hlr
  go_wp2_with fail
  go_at_call 13
  refine CS.out.mono ?_
  rintro e w3 ⟨rfl, hb3⟩
  have HB4 := hid (vonto HB3.out hb3)
  clear hb3 CS HB3
  go_wp2_with fail
  go_at_call 12
  refine (C3.out _).mono ?_
  rintro e w4 ⟨rfl, hb4⟩
  go_wp2_with fail
  go_ret
  exact ⟨rfl, vonto HB4.out hb4⟩
set_option maxRecDepth 100000 in
set_option maxHeartbeats 1000000 in
theorem Try.creadSays_walk (t : ByteArray) (_w0 : t.size ≤ maxLen) (w : World) :
    Calls Try.prog 4 #[.string t] w fun e w' => e = .returned (.bool true) ∧ Below w.heap.size w w' := by
  by_cases h : t.size ≤ 3000
  · cases hR : csvR fldP t.data.toList with
    | ok rs => exact csays_ok t rs w h hR
    | bad er r => exact csays_bad t er r w h hR
  · have CA := hid (awake13 w)
    have h' : (3000 : Int) < (t.size : Int) := by omega
    clear h
    go_enter Try.func4, Try.ntmps4
    go_wp2_with (go_at_call 8; go_must (refine CA.out.mono ?_; rintro e w0 ⟨rfl, hb0⟩))
    go_ret
    exact ⟨rfl, hb0⟩
end Go.Proofs.Ytapclgjaalammaa
