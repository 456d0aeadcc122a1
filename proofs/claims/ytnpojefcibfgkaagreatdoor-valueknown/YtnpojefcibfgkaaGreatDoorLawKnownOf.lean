/- ValueKnown, walked over awake: what chapter 4 says of what may not be. -/
import Derived.Test.YtnpojefcibfgkaaGreatDoorVKnown
namespace Go.Proofs.YtnpojefcibfgkaaGreatDoor
open Go.RowKit

set_option maxRecDepth 100000 in
set_option maxHeartbeats 4000000 in
theorem known_of (AW : ∀ w, Glob w → Calls Tryz.prog 9 #[] w fun e w' => e = .returned (.bool true) ∧ Below w.heap.size w w') (w : World) (hg : Glob w) :
    Calls Tryz.prog 3 #[] w fun e w' => e = .returned (.bool true) ∧ Below w.heap.size w w' := by
  have HG := hid hg
  have HAW := hid AW
  clear AW hg
  have hmk := Tryz.made5
  have hcv : ∀ (w : World) (o : Obj), (convert 31 9 (.slice (some ⟨w.heap.size + 1, 0, none⟩) 4097 4097)).run Tryz.prog ((w.alloc o).alloc (.cells (madeCells #[.int .u8 0] 4097) 5)) = .ok (.string (zeros 4097)) ((w.alloc o).alloc (.cells (madeCells #[.int .u8 0] 4097) 5)) := fun w o => by
    have := Tryz.conv5 (w.alloc o)
    rw [World.size_alloc] at this
    exact this
  have HZ := hid (And.intro (zeros_te 4097 (by omega)) (strR_bad (zeros 4097) (by rw [zeros_te 4097 (by omega)]; decide)))
  have HZS := hid (show (zeros 4097).size ≤ maxLen by rw [zeros_size]; decide)
  generalize madeCells #[.int .u8 0] 4097 = mc at hmk hcv
  generalize zeros 4097 = zs at hcv HZ HZS
  go_enter Tryz.func3, Tryz.ntmps3
  go_wp2_with fail
  go_at_call 9
  refine (HAW.out _ HG.out).mono ?_
  rintro e wa ⟨rfl, hba⟩
  have HA := hid hba
  clear hba
  go_wp2_with fail
  go_at_call 10
  refine (vnum_any _ _ (HG.out.on HA.out) (by decide)).mono ?_
  rintro e w1 ⟨rfl, hb1⟩
  rw [show numR ⟨#[120]⟩ = zeroT from j_num.1, show numE ⟨#[120]⟩ = 1 from j_num.2.1]
  simp only [vv, zeroT, VT.kd, VT.nm, VT.st]
  have H1 := hid (valloc_bel (vonto HA.out hb1) (.cells #[.int .i64 0, .int .i64 0, .string ⟨#[]⟩, .slice none 0 0, .slice none 0 0] 27))
  clear hb1
  go_wp2_with fail
  go_at_call 11
  refine (vstr_any _ _ (by decide)).mono ?_
  rintro e w2 ⟨rfl, hb2⟩
  rw [show teI ⟨#[255]⟩ = 3 from j_str.1, show strR ⟨#[255]⟩ = zeroT from j_str.2]
  simp only [vv, zeroT, VT.kd, VT.nm, VT.st]
  have H2 := hid (valloc_bel (vonto H1.out hb2) (.cells #[.int .i64 0, .int .i64 0, .string ⟨#[]⟩, .slice none 0 0, .slice none 0 0] 27))
  clear hb2
  go_wp2_with fail
  go_at_call 11
  refine (vstr_any _ _ HZS.out).mono ?_
  rintro e w3 ⟨rfl, hb3⟩
  rw [HZ.out.1, HZ.out.2]
  simp only [vv, zeroT, VT.kd, VT.nm, VT.st]
  have H3 := hid (valloc_bel (vonto (valloc_bel H2.out _) hb3) (.cells #[.int .i64 0, .int .i64 0, .string ⟨#[]⟩, .slice none 0 0, .slice none 0 0] 27))
  clear hb3 hmk hcv
  go_wp2_with fail
  go_at_call 12
  refine (vstamp_any _ _ (by decide)).mono ?_
  rintro e w4 ⟨rfl, hb4⟩
  rw [j_stamp.1, j_stamp.2]
  simp only [vv, zeroT, VT.kd, VT.nm, VT.st]
  have H4 := hid (valloc_bel (vonto H3.out hb4) (.cells #[.int .i64 0, .int .i64 0, .string ⟨#[]⟩, .slice none 0 0, .slice none 0 0] 27))
  clear hb4
  go_wp2_with fail
  go_at_call 13
  have hd := dup_map (w4.alloc (.cells #[.int .i64 0, .int .i64 0, .string ⟨#[]⟩, .slice none 0 0, .slice none 0 0] 27))
  rw [World.size_alloc] at hd
  refine hd.mono ?_
  rintro e w5 ⟨o1, n1, c1, o2, n2, c2, rfl, hb5⟩
  have H5 := hid (valloc_bel (vonto H4.out (hb5.mono (by simp))) (.cells #[.int .i64 0, .int .i64 0, .string ⟨#[]⟩, .slice o1 n1 c1, .slice o2 n2 c2] 27))
  clear hb5 hd
  go_wp2_with fail
  go_at_call 10
  refine (vnum_any _ _ (HG.out.on H5.out) (by decide)).mono ?_
  rintro e w6 ⟨rfl, hb6⟩
  rw [show numR ⟨#[49, 46, 53, 48]⟩ = leafT 3 0 c150 from j_num.2.2.1, show numE ⟨#[49, 46, 53, 48]⟩ = 0 from j_num.2.2.2.1]
  simp only [vv, leafT, VT.kd, VT.nm, VT.st, c150]
  have b11 : Bx (w6.alloc (.cells #[.int .i64 3, .int .i64 0, .string ⟨#[49, 46, 53, 48]⟩, .slice none 0 0, .slice none 0 0] 27)) w6.heap.size (leafT 3 0 c150) (.slice none 0 0) (.slice none 0 0) := bx_new (hv_leaf w6 3 0 c150 (by decide) (by decide) (by decide)) _
  have H6 := hid (valloc_bel (vonto H5.out hb6) (.cells #[.int .i64 3, .int .i64 0, .string ⟨#[49, 46, 53, 48]⟩, .slice none 0 0, .slice none 0 0] 27))
  have B11 := hid b11
  clear hb6 b11
  go_wp2_with fail
  go_at_call 10
  refine (vnum_any _ _ (HG.out.on H6.out) (by decide)).mono ?_
  rintro e w7 ⟨rfl, hb7⟩
  rw [show numR ⟨#[49, 53, 101, 45, 49]⟩ = leafT 3 0 c15e from j_num.2.2.2.2.1, show numE ⟨#[49, 53, 101, 45, 49]⟩ = 0 from j_num.2.2.2.2.2]
  simp only [vv, leafT, VT.kd, VT.nm, VT.st, c15e]
  have b13 : Bx (w7.alloc (.cells #[.int .i64 3, .int .i64 0, .string ⟨#[49, 53, 101, 45, 49]⟩, .slice none 0 0, .slice none 0 0] 27)) w7.heap.size (leafT 3 0 c15e) (.slice none 0 0) (.slice none 0 0) := bx_new (hv_leaf w7 3 0 c15e (by decide) (by decide) (by decide)) _
  have B13 := hid b13
  have C11 := hid ((B11.out.onto hb7).onto (valloc_bel (Below.refl _ _) (.cells #[.int .i64 3, .int .i64 0, .string ⟨#[49, 53, 101, 45, 49]⟩, .slice none 0 0, .slice none 0 0] 27)))
  have H7 := hid (valloc_bel (vonto H6.out hb7) (.cells #[.int .i64 3, .int .i64 0, .string ⟨#[49, 53, 101, 45, 49]⟩, .slice none 0 0, .slice none 0 0] 27))
  obtain ⟨p0, p1, p2, p3, p4⟩ := C11.out.cells
  simp only [leafT, VT.kd, VT.nm, VT.st, c150] at p0 p1 p2
  clear hb7 b13 B11
  go_wp2_with fail
  go_at_call 14
  refine (vget_any (leafT 3 0 c150) _ _ ⟨#[97]⟩ _ C11.out.2 (by decide)).mono ?_
  rintro e w8 ⟨R, X, Y, rfl, hR, hf8, hb8⟩
  rw [show getO (leafT 3 0 c150) ⟨#[97]⟩ = none from j_get] at hR ⊢
  subst hR
  obtain ⟨xo1, xn1, xc1, xo2, xn2, xc2, rfl, rfl⟩ := hv_slices hf8.hv
  simp only [vv, Option.getD_none, Option.isSome_none, zeroT, VT.kd, VT.nm, VT.st]
  have E11 : Hid (∀ o, Bx (w8.alloc o) w6.heap.size (leafT 3 0 c150) (.slice none 0 0) (.slice none 0 0)) := fun o => (C11.out.onto hb8).onto (valloc_bel (Below.refl _ _) o)
  have E13 : Hid (∀ o, Bx (w8.alloc o) w7.heap.size (leafT 3 0 c15e) (.slice none 0 0) (.slice none 0 0)) := fun o => (B13.out.onto hb8).onto (valloc_bel (Below.refl _ _) o)
  have H8 := hid (valloc_bel (vonto H7.out hb8) (.cells #[.int .i64 0, .int .i64 0, .string ⟨#[]⟩, .slice xo1 xn1 xc1, .slice xo2 xn2 xc2] 27))
  clear hb8 hf8 p0 p1 p2 p3 p4 B13 C11
  have p0 := fun o => (E11.out o).cells.1
  have p1 := fun o => (E11.out o).cells.2.1
  have p2 := fun o => (E11.out o).cells.2.2.1
  have p3 := fun o => (E11.out o).cells.2.2.2.1
  have p4 := fun o => (E11.out o).cells.2.2.2.2
  have q0 := fun o => (E13.out o).cells.1
  have q1 := fun o => (E13.out o).cells.2.1
  have q2 := fun o => (E13.out o).cells.2.2.1
  have q3 := fun o => (E13.out o).cells.2.2.2.1
  have q4 := fun o => (E13.out o).cells.2.2.2.2
  simp only [leafT, VT.kd, VT.nm, VT.st, c150] at p0 p1 p2
  simp only [leafT, VT.kd, VT.nm, VT.st, c15e] at q0 q1 q2
  go_wp2_with fail
  have D11 := hid (E11.out (.cells #[.int .i64 0, .int .i64 0, .string ⟨#[]⟩, .slice xo1 xn1 xc1, .slice xo2 xn2 xc2] 27))
  have D13 := hid (E13.out (.cells #[.int .i64 0, .int .i64 0, .string ⟨#[]⟩, .slice xo1 xn1 xc1, .slice xo2 xn2 xc2] 27))
  clear p0 p1 p2 p3 p4 q0 q1 q2 q3 q4 E11 E13
  generalize (w8.alloc (.cells #[.int .i64 0, .int .i64 0, .string ⟨#[]⟩, .slice xo1 xn1 xc1, .slice xo2 xn2 xc2] 27)) = V at D11 D13 H8 ⊢
  generalize w6.heap.size = b11 at D11 ⊢
  generalize w7.heap.size = b13 at D13 ⊢
  have cE := hid (vequal_any (leafT 3 0 c150) (leafT 3 0 c15e) _ _ _ _ V D11.out.2 D13.out.2)
  have cS := hid (fun X (hX : Below V.heap.size V X) => call_above hX (vsame_any (leafT 3 0 c150) (leafT 3 0 c15e) _ _ _ _ X (D11.out.2.onto hX) (D13.out.2.onto hX)))
  have cG := hid (fun (T : VT) (h : ∀ w, HV w T (.slice none 0 0) (.slice none 0 0)) (X : World) (hX : Below V.heap.size V X) => call_above hX (vgood_any T _ _ X ((HG.out.on H8.out).on hX) (h X)))
  have g1 := hid (cG.out (leafT 9 0 ⟨#[]⟩) (fun w => hv_leaf w _ _ _ (by decide) (by decide) (by decide)))
  have g2 := hid (cG.out (leafT 3 0 c5) (fun w => hv_leaf w _ _ _ (by decide) (by decide) (by decide)))
  have g3 := hid (cG.out (leafT 0 0 cX) (fun w => hv_leaf w _ _ _ (by decide) (by decide) (by decide)))
  rw [j_same.1] at cE
  rw [j_same.2] at cS
  rw [j_may.1] at g1
  rw [j_may.2.1] at g2
  rw [j_may.2.2] at g3
  simp only [vv, leafT, VT.kd, VT.nm, VT.st, c150, c15e, c5, cX] at cE cS g1 g2 g3
  clear cG
  go_at_call 15
  refine cE.out.mono ?_
  rintro e x1 ⟨rfl, hx1⟩
  obtain ⟨p0, p1, p2, p3, p4⟩ := (D11.out.onto hx1).cells
  obtain ⟨q0, q1, q2, q3, q4⟩ := (D13.out.onto hx1).cells
  simp only [leafT, VT.kd, VT.nm, VT.st, c150] at p0 p1 p2
  simp only [leafT, VT.kd, VT.nm, VT.st, c15e] at q0 q1 q2
  go_wp2_with fail
  go_at_call 16
  refine (cS.out x1 hx1).mono ?_
  rintro e x2 ⟨rfl, hx2⟩
  clear p0 p1 p2 p3 p4 q0 q1 q2 q3 q4
  go_wp2_with fail
  go_at_call 17
  refine (g1.out x2 hx2).mono ?_
  rintro e x3 ⟨rfl, hx3⟩
  go_wp2_with fail
  go_at_call 17
  refine (g2.out x3 hx3).mono ?_
  rintro e x4 ⟨rfl, hx4⟩
  go_wp2_with fail
  go_at_call 17
  refine (g3.out x4 hx4).mono ?_
  rintro e x5 ⟨rfl, hx5⟩
  go_wp2_with fail
  go_ret
  exact ⟨rfl, vonto H8.out hx5⟩
end Go.Proofs.YtnpojefcibfgkaaGreatDoor
