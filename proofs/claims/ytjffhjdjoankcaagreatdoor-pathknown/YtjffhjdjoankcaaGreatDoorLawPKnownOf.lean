/- PathKnown, walked: what chapter 5 says of what is not there. -/
import Derived.Test.YtjffhjdjoankcaaGreatDoorPathAwake
namespace Go.Proofs.YtjffhjdjoankcaaGreatDoor
open Go.RowKit

theorem kn_1 : parseP [97] = none := by kernel_rfl
theorem kn_2 : parseP [47, 126, 50] = none := by kernel_rfl
theorem kn_3 : parseP [47, 48, 49, 120, 47, 126, 107, 97, 98, 99] = none := by kernel_rfl
def cB1 : ByteArray := ⟨#[98]⟩
def cC1 : ByteArray := ⟨#[99]⟩
theorem kn_4 : getP tRow [kyS cB1] = none := by kernel_rfl
theorem kn_5 : setP tRow [kyS cB1, kyS cC1] zeroT = none := by kernel_rfl
theorem kn_6 : dropP tRow [] = none := rfl
theorem kn_7 : setP tRow [] zeroT = some zeroT := rfl
theorem inp_nil (w : World) : InP w [] (.slice none 0 0) := ⟨default, ⟨none, 0, rfl, Nat.le_refl _, Nat.zero_le _, fun h => absurd h (by simp)⟩, fun i s h => by simp at h⟩
theorem parse_no {l : List UInt8} {e : Ending} {w : World} (h : ParsePost l e w) (hn : parseP l = none) : e = .returned (.tuple #[.slice none 0 0, .int .i64 4]) := by
  rcases h with ⟨v, p, h1, -⟩ | ⟨-, h2⟩
  · rw [hn] at h1; cases h1
  · exact h2
set_option maxRecDepth 100000 in
set_option maxHeartbeats 4000000 in
theorem pknown_walk (w : World) (hg : Glob5 w) : Calls Tryz.prog 3 #[] w fun e w' => e = .returned (.bool true) ∧ Below w.heap.size w w' := by
  have HG := hid hg
  clear hg
  go_enter Tryz.func3, Tryz.ntmps3
  go_wp2_with fail
  go_at_call 10
  refine (pawake_any _ HG.out).mono ?_
  rintro e w1 ⟨rfl, hb1⟩
  have H1 := hid hb1
  clear hb1
  go_wp2_with fail
  go_at_call 11
  refine (parse_any _ _ (HG.out.on H1.out) (by decide)).mono ?_
  rintro e w2 ⟨hpp, hb2⟩
  obtain rfl := parse_no hpp kn_1
  have H2 := hid (vonto H1.out hb2)
  clear hpp hb2 H1
  go_wp2_with fail
  go_at_call 11
  refine (parse_any _ _ (HG.out.on H2.out) (by decide)).mono ?_
  rintro e w3 ⟨hpp, hb3⟩
  obtain rfl := parse_no hpp kn_2
  have H3 := hid (vonto H2.out hb3)
  clear hpp hb3 H2
  go_wp2_with fail
  go_at_call 11
  refine (parse_any _ _ (HG.out.on H3.out) (by decide)).mono ?_
  rintro e w4 ⟨hpp, hb4⟩
  obtain rfl := parse_no hpp kn_3
  have H4 := hid (vonto H3.out hb4)
  clear hpp hb4 H3
  go_wp2_with fail
  go_at_call 13
  refine (prow_any _).mono ?_
  rintro e w5 ⟨ro, rn, rc, rfl, hr5, hb5⟩
  have H5 := hid (vonto H4.out hb5)
  have R5 := hid (fun o => hr5.onto (valloc_bel (Below.refl w5.heap.size w5) o))
  clear hr5 hb5 H4
  go_wp2_with fail
  have I5 := inp_one w5 ⟨#[98]⟩ 0 false 36 (by decide)
  have hal := valloc_bel (Below.refl w5.heap.size w5) (.cells #[.string ⟨#[98]⟩, .int .i64 0, .bool false] 36)
  go_at_call 12
  refine (pget_any tRow _ _ _ _ _ (R5.out _) (by decide) I5).mono ?_
  rintro e w6 ⟨R, X, Y, rfl, hR, hf6, hb6⟩
  rw [show getP tRow [(⟨⟨#[98]⟩, 0, false⟩ : PStep)] = none from kn_4] at hR ⊢
  subst hR
  obtain ⟨xo1, xn1, xc1, xo2, xn2, xc2, rfl, rfl⟩ := hv_slices hf6.hv
  simp only [vv, Option.getD_none, Option.isSome_none, zeroT, VT.kd, VT.nm, VT.st]
  have H6 := hid (valloc_bel (vonto (vonto H5.out hal) hb6) (.cells #[.int .i64 0, .int .i64 0, .string ⟨#[]⟩, .slice xo1 xn1 xc1, .slice xo2 xn2 xc2] 31))
  clear hf6 hb6 hal I5 R5 H5
  go_wp2_with fail
  go_at_call 13
  refine (prow_any _).mono ?_
  rintro e w7 ⟨so, sn, sc, rfl, hr7, hb7⟩
  have H7 := hid (vonto H6.out hb7)
  have R7 := hid (fun o => hr7.onto (valloc_bel (Below.refl w7.heap.size w7) o))
  clear hr7 hb7 H6
  go_wp2_with fail
  have I7 := inp_two w7 ⟨#[98]⟩ ⟨#[99]⟩ 0 0 false false 36 (by decide) (by decide)
  have hal := valloc_bel (Below.refl w7.heap.size w7) (.cells #[.string ⟨#[98]⟩, .int .i64 0, .bool false, .string ⟨#[99]⟩, .int .i64 0, .bool false] 36)
  go_at_call 14
  refine (pset_any tRow zeroT _ _ _ _ _ _ _ (R7.out _) (by decide) (hv_zero _) (by decide) I7 (by decide)).mono ?_
  rintro e w8 ⟨R, X, Y, rfl, hR, hf8, hb8⟩
  rw [show setP tRow [(⟨⟨#[98]⟩, 0, false⟩ : PStep), ⟨⟨#[99]⟩, 0, false⟩] zeroT = none from kn_5] at hR ⊢
  subst hR
  obtain ⟨yo1, yn1, yc1, yo2, yn2, yc2, rfl, rfl⟩ := hv_slices hf8.hv
  simp only [vv, Option.getD_none, eN, zeroT, VT.kd, VT.nm, VT.st]
  have H8 := hid (valloc_bel (vonto (vonto H7.out hal) hb8) (.cells #[.int .i64 0, .int .i64 0, .string ⟨#[]⟩, .slice yo1 yn1 yc1, .slice yo2 yn2 yc2] 31))
  clear hf8 hb8 hal I7 R7 H7
  go_wp2_with fail
  go_at_call 13
  refine (prow_any _).mono ?_
  rintro e w9 ⟨to1, tn, tc, rfl, hr9, hb9⟩
  have H9 := hid (vonto H8.out hb9)
  have R9 := hid hr9
  clear hr9 hb9 H8
  go_wp2_with fail
  go_at_call 15
  refine (pdrop_any tRow _ _ [] _ _ R9.out (by decide) (inp_nil _) (by decide)).mono ?_
  rintro e w10 ⟨R, X, Y, rfl, hR, hf10, hb10⟩
  rw [kn_6] at hR ⊢
  subst hR
  obtain ⟨zo1, zn1, zc1, zo2, zn2, zc2, rfl, rfl⟩ := hv_slices hf10.hv
  simp only [vv, Option.getD_none, eN, zeroT, VT.kd, VT.nm, VT.st]
  have H10 := hid (valloc_bel (vonto H9.out hb10) (.cells #[.int .i64 0, .int .i64 0, .string ⟨#[]⟩, .slice zo1 zn1 zc1, .slice zo2 zn2 zc2] 31))
  clear hf10 hb10 R9 H9
  go_wp2_with fail
  go_at_call 13
  refine (prow_any _).mono ?_
  rintro e w11 ⟨uo, un, uc, rfl, hr11, hb11⟩
  have H11 := hid (vonto H10.out hb11)
  have R11 := hid hr11
  clear hr11 hb11 H10
  go_wp2_with fail
  go_at_call 14
  refine (pset_any tRow zeroT _ _ _ _ [] _ _ R11.out (by decide) (hv_zero _) (by decide) (inp_nil _) (by decide)).mono ?_
  rintro e w12 ⟨R, X, Y, rfl, hR, hf12, hb12⟩
  rw [kn_7] at hR ⊢
  subst hR
  obtain ⟨vo1, vn1, vc1, vo2, vn2, vc2, rfl, rfl⟩ := hv_slices hf12.hv
  simp only [vv, Option.getD_some, eN, zeroT, VT.kd, VT.nm, VT.st]
  have H12 := hid (valloc_bel (vonto H11.out hb12) (.cells #[.int .i64 0, .int .i64 0, .string ⟨#[]⟩, .slice vo1 vn1 vc1, .slice vo2 vn2 vc2] 31))
  clear hf12 hb12 R11 H11
  go_wp2_with fail
  go_ret
  exact ⟨rfl, H12.out⟩
end Go.Proofs.YtjffhjdjoankcaaGreatDoor
