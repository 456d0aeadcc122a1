/- The statements of stage 15: what they ask first; CellSays. -/
import Derived.Test.YtmncibjkgbmfjaaGreatDoorCeD
import Derived.Test.YtmncibjkgbmfjaaGreatDoorRefVal4
import Derived.Test.YtmncibjkgbmfjaaGreatDoorRefVal2
namespace Go.Proofs.YtmncibjkgbmfjaaGreatDoor
open Go.RowKit

set_option maxRecDepth 100000 in
set_option maxHeartbeats 4000000 in
theorem awake15 (w : World) (hg : GlobC5 w) : Calls Tryz.prog 6 #[] w fun e w' => e = .returned (.bool true) ∧ Below w.heap.size w w' := by
  have HL : Hid (∀ X, HV X (leafT 4 0 ⟨#[53]⟩) (.slice none 0 0) (.slice none 0 0)) := hid (fun X => hv_leaf X 4 0 _ (by decide) (by decide) (by decide))
  have C1 : Hid (∀ X, Below w.heap.size w X → Calls Tryz.prog 8 #[.agg #[.int .i64 4, .int .i64 0, .string ⟨#[53]⟩, .slice none 0 0, .slice none 0 0]] X fun e w' => e = .returned (.tuple #[.string ⟨#[39, 53]⟩, .bool true]) ∧ Below X.heap.size X w') := hid (fun X hX => by
    have := cetext_any (leafT 4 0 ⟨#[53]⟩) _ _ X (hg.on hX) (HL.out X)
    rw [show celB (leafT 4 0 ⟨#[53]⟩) = true by kernel_rfl, if_pos rfl, show mkS (celW (leafT 4 0 ⟨#[53]⟩)) = ⟨#[39, 53]⟩ by kernel_rfl] at this
    exact this)
  have C2 := hid (fun X (hX : Below w.heap.size w X) => cevalue_any ⟨#[120]⟩ X (hg.1.on hX) (by decide))
  rw [show celT (⟨#[120]⟩ : ByteArray).data.toList = (leafT 4 0 ⟨#[120]⟩, 0) by kernel_rfl] at C2
  have C3 := hid (fun X (hX : Below w.heap.size w X) => cevalue_any ⟨#[49, 46, 53, 48]⟩ X (hg.1.on hX) (by decide))
  rw [show celT (⟨#[49, 46, 53, 48]⟩ : ByteArray).data.toList = (leafT 3 0 ⟨#[49, 46, 53, 48]⟩, 0) by kernel_rfl] at C3
  simp only [vv, leafT, VT.kd, VT.nm, VT.st] at C2 C3
  clear hg HL
  go_enter Tryz.func6, Tryz.ntmps6
  go_wp2_with fail
  go_at_call 8
  refine (C1.out _ (Below.refl _ _)).mono ?_
  rintro e w1 ⟨rfl, hb1⟩
  have HB1 := hid hb1
  clear hb1 C1
  go_wp2_with fail
  go_at_call 10
  refine (C2.out _ HB1.out).mono ?_
  rintro e w2 ⟨X, Y, rfl, hx, hb2⟩
  obtain ⟨o1, n1, c1, o2, n2, c2, rfl, rfl⟩ := hv_slices hx
  have HB2 := hid (vonto HB1.out hb2)
  clear hb2 hx C2
  go_upto_region 3 with fail
  refine cewp_gen ?_
  intro W hW
  obtain ⟨g0, -, g2, -, -, hbW⟩ := cebox_of hW
  have HBW := hid (vonto HB2.out hbW)
  clear hW hbW
  go_wp2_with fail
  go_at_call 10
  refine (C3.out _ HBW.out).mono ?_
  rintro e w3 ⟨X, Y, rfl, hx, hb3⟩
  obtain ⟨o3, n3, c3, o4, n4, c4, rfl, rfl⟩ := hv_slices hx
  have g0 := keepCell hb3 g0
  have g2 := keepCell hb3 g2
  have HB3 := hid (vonto HBW.out hb3)
  clear hb3 hx C3
  go_upto_region 4 with fail
  refine cewp_gen ?_
  intro W3 hW
  obtain ⟨v0, -, v2, -, -, hbW⟩ := cebox_of hW
  have g0 := keepCell hbW g0
  have g2 := keepCell hbW g2
  have HB4 := hid (vonto HB3.out hbW)
  clear hW hbW
  go_wp2_with fail
  go_ret
  exact ⟨rfl, HB4.out⟩
theorem hv_nil {w w' : World} {k n : Int} {s : ByteArray} {x y : Value} (h : HV w (leafT k n s) x y) : HV w' (leafT k n s) (.slice none 0 0) (.slice none 0 0) := by
  cases h with
  | mk a b f g p q hk hn hs hL hM hK cL cK cM rL rM => exact hv_leaf w' k n s hk hn hs
set_option maxRecDepth 100000 in
set_option maxHeartbeats 4000000 in
theorem Tryz.cellSays_walk (T : VT) (x y : Value) (s : ByteArray) (_ : s.size ≤ maxLen) (w : World) (hg : GlobC5 w) (hT : HV w T x y) :
    Calls Tryz.prog 3 #[vv T x y, .string s] w fun e w' => e = .returned (.bool true) ∧ Below w.heap.size w w' := by
  have CA := hid (fun X (hX : Below w.heap.size w X) => awake15 X (hg.on hX))
  have CH := hid (fun X (hX : Below w.heap.size w X) => heavy_any T x y 50 40 X (hT.onto hX) (by omega) (by omega))
  have CT := hid (fun X (hX : Below w.heap.size w X) => cetext_any T x y X (hg.on hX) (hT.onto hX))
  have DT := hid (fun X (hX : Below w.heap.size w X) => dtext_any T x y X (hT.onto hX))
  have CV := hid (fun X (hX : Below w.heap.size w X) (h : s.size ≤ 1000000) => cevalue_any s X (hg.1.on hX) h)
  have DV := hid (fun X (h : s.size ≤ 1000000) => dcell_any s X h)
  have CS := hid (fun (U : VT) (p q p' q' : Value) X (h : HV X U p q) (h' : HV X U p' q') => same_any (szT U) U U p q p' q' false X (Nat.le_refl _) h h')
  obtain ⟨o1, n1, c1, o2, n2, c2, rfl, rfl⟩ := hv_slices hT
  obtain ⟨tk, tn, tt, h1, h2, h3⟩ : ∃ k n t, T.kd = k ∧ T.nm = n ∧ T.st = t := ⟨_, _, _, rfl, rfl, rfl⟩
  have CB := hid (fun X (hX : X = w.alloc (.cells #[.int .i64 tk, .int .i64 tn, .string tt, .slice o1 n1 c1, .slice o2 n2 c2] 26)) => cebox_of hX)
  obtain ⟨R, hR⟩ : ∃ R, (if celB T = true then mkS (celW T) else ⟨#[]⟩) = R := ⟨_, rfl⟩
  rw [hR] at CT DT
  generalize celB T = q at CT DT
  have HCL := hid (fun h => cel_leaf s h)
  simp only [vv] at CH CT DT CV DV CS ⊢
  rw [h1, h2, h3] at CH CT DT ⊢
  generalize (!fitB T 40 50) = hv at CH
  obtain ⟨U, hU⟩ : ∃ U, (celT s.data.toList).1 = U := ⟨_, rfl⟩
  obtain ⟨er, her⟩ : ∃ er, (celT s.data.toList).2 = er := ⟨_, rfl⟩
  rw [hU, her] at CV DV
  rw [hU] at HCL
  clear h1 h2 h3 hR hg hT hU her
  go_enter Tryz.func3, Tryz.ntmps3
  go_upto_region 1 with fail
  refine cewp_gen ?_
  intro W hW
  obtain ⟨g0, g1, g2, g3, g4, hbW⟩ := CB.out W hW
  have HB0 := hid hbW
  clear hW hbW CB
  go_wp2_with fail
  go_at_call 6
  refine (CA.out _ HB0.out).mono ?_
  rintro e w1 ⟨rfl, hb1⟩
  have g0 := keepCell hb1 g0
  have g1 := keepCell hb1 g1
  have g2 := keepCell hb1 g2
  have g3 := keepCell hb1 g3
  have g4 := keepCell hb1 g4
  have HB1 := hid (vonto HB0.out hb1)
  clear hb1 CA HB0
  go_wp2_with fail
  go_at_call 7
  refine (CH.out _ HB1.out).mono ?_
  rintro e w2 ⟨rfl, hb2⟩
  have g0 := keepCell hb2 g0
  have g1 := keepCell hb2 g1
  have g2 := keepCell hb2 g2
  have g3 := keepCell hb2 g3
  have g4 := keepCell hb2 g4
  have HB2 := hid (vonto HB1.out hb2)
  clear hb2 CH HB1
  cases hv with
  | true =>
    go_wp2_with fail
    go_ret
    exact ⟨rfl, HB2.out⟩
  | false =>
  by_cases hsz : 5000 < s.size
  · have f1 : (5000 : Int) < (s.size : Int) := by omega
    go_wp2_with fail
    go_ret
    exact ⟨rfl, HB2.out⟩
  have f1 : ¬ (5000 : Int) < (s.size : Int) := by omega
  have hs6 : s.size ≤ 1000000 := by omega
  obtain ⟨uk, un, ut, hU⟩ := HCL.out hs6
  have CV1 := hid (fun X hX => CV.out X hX hs6)
  have DV1 := hid (fun X => DV.out X hs6)
  have CS1 := hid (CS.out U)
  have HSM := hid (eq_same U)
  rw [HSM.out] at CS1
  have hu1 : U.kd = uk := by rw [hU]; rfl
  have hu2 : U.nm = un := by rw [hU]; rfl
  have hu3 : U.st = ut := by rw [hU]; rfl
  rw [hu1, hu2, hu3] at CV1 DV1 CS1
  have HUL := hid hU
  clear CV DV CS hU hu1 hu2 hu3 HSM
  go_wp2_with fail
  go_at_call 8
  refine (CT.out _ HB2.out).mono ?_
  rintro e w3 ⟨rfl, hb3⟩
  have g0 := keepCell hb3 g0
  have g1 := keepCell hb3 g1
  have g2 := keepCell hb3 g2
  have g3 := keepCell hb3 g3
  have g4 := keepCell hb3 g4
  have HB3 := hid (vonto HB2.out hb3)
  clear hb3 CT HB2
  go_wp2_with fail
  go_at_call 9
  refine (DT.out _ HB3.out).mono ?_
  rintro e w4 ⟨rfl, hb4⟩
  have HB4 := hid (vonto HB3.out hb4)
  clear hb4 DT HB3 g0 g1 g2 g3 g4
  go_wp2_with fail
  go_at_call 10
  refine (CV1.out _ HB4.out).mono ?_
  rintro e w5 ⟨X, Y, rfl, hx, hb5⟩
  obtain ⟨p1, i1, j1, p2, i2, j2, rfl, rfl⟩ := hv_slices hx
  have HX := hid hx
  have HB5 := hid (vonto HB4.out hb5)
  clear hb5 hx CV1 HB4
  go_upto_region 8 with fail
  refine cewp_gen ?_
  intro W5 hW
  obtain ⟨a0, a1, a2, a3, a4, hbW⟩ := cebox_of hW
  have HB6 := hid (vonto HB5.out hbW)
  clear hW hbW HB5
  go_wp2_with fail
  go_at_call 11
  refine (DV1.out _).mono ?_
  rintro e w6 ⟨rfl, hb6⟩
  have a0 := keepCell hb6 a0
  have a1 := keepCell hb6 a1
  have a2 := keepCell hb6 a2
  have a3 := keepCell hb6 a3
  have a4 := keepCell hb6 a4
  have HB7 := hid (vonto HB6.out hb6)
  clear hb6 DV1 HB6
  go_upto_region 9 with fail
  refine cewp_gen ?_
  intro W6 hW
  obtain ⟨b0, b1, b2, b3, b4, hbW⟩ := cebox_of hW
  have a0 := keepCell hbW a0
  have a1 := keepCell hbW a1
  have a2 := keepCell hbW a2
  have a3 := keepCell hbW a3
  have a4 := keepCell hbW a4
  have HB8 := hid (vonto HB7.out hbW)
  clear hW hbW HB7
  have CS2 : Hid (∀ X, Calls Tryz.prog 12 #[.agg #[.int .i64 uk, .int .i64 un, .string ut, .slice p1 i1 j1, .slice p2 i2 j2], .agg #[.int .i64 uk, .int .i64 un, .string ut, .slice none 0 0, .slice none 0 0], .bool false] X fun e w' => e = .returned (.bool true) ∧ Below X.heap.size X w') := hid (fun X => by
    have hx := HX.out
    have CS1 := CS1.out
    rw [HUL.out] at hx CS1
    exact CS1 _ _ _ _ X (hv_free hx) (hv_nil hx))
  clear CS1 HX
  go_wp2_with fail
  go_at_call 12
  refine (CS2.out _).mono ?_
  rintro e w7 ⟨rfl, hb7⟩
  have HB9 := hid (vonto HB8.out hb7)
  clear hb7
  go_wp2_with fail
  go_ret
  exact ⟨rfl, HB9.out⟩
end Go.Proofs.YtmncibjkgbmfjaaGreatDoor
