/- What every law asks first: awake, walked. -/
import Derived.Test.YtgfkhnpbkdddbaaGreatDoorVAwaken
import Derived.Deep.RegionHeld
import Derived.Test.YtgfkhnpbkdddbaaGreatDoorGate
import Derived.Test.YtgfkhnpbkdddbaaGreatDoorAbove
namespace Go.Proofs.YtgfkhnpbkdddbaaGreatDoor
open Go.RowKit

set_option maxRecDepth 100000 in
set_option maxHeartbeats 40000000 in
theorem awake_any (w : World) (hg : Glob w) : Calls Tryz.prog 13 #[] w fun e w' => e = .returned (.bool true) ∧ Below w.heap.size w w' := by
  have HG := hid hg
  clear hg
  go_enter Tryz.func13, Tryz.ntmps13
  go_wp2_with fail
  go_at_call 14
  refine (vnum_any _ _ HG.out (by decide)).mono ?_
  rintro e w1 ⟨rfl, hb1⟩
  rw [k_num.1, k_num.2]
  simp only [vv, tN, leafT, VT.kd, VT.nm, VT.st]
  have HB1 := hid hb1
  clear hb1
  go_wp2_with fail
  go_at_call 24
  refine (vint_any _ _).mono ?_
  rintro e w2 ⟨rfl, hb2⟩
  simp only [vv, leafT, VT.kd, VT.nm, VT.st]
  have HB2 := hid hb2
  clear hb2
  go_wp2_with fail
  go_at_call 57
  refine (vtrue_any _).mono ?_
  rintro e w3 ⟨rfl, hb3⟩
  simp only [vv, leafT, VT.kd, VT.nm, VT.st]
  have HB3 := hid hb3
  clear hb3
  go_wp2_with fail
  go_at_call 25
  refine (two_map w3).mono ?_
  rintro e w4 ⟨mo1, mn1, mc1, mo2, mn2, mc2, rfl, hM4, hb4⟩
  have HB4 := hid hb4
  have HM4 := hid hM4
  clear hb4 hM4
  go_wp2_with fail
  go_at_call 18
  refine (vstr_any _ _ (by decide)).mono ?_
  rintro e w5 ⟨rfl, hb5⟩
  rw [show teI ⟨#[120]⟩ = 0 from k_teA.2.2, show strR ⟨#[120]⟩ = tX from k_str]
  simp only [vv, tX, leafT, VT.kd, VT.nm, VT.st, cX]
  have HB5 := hid hb5
  clear hb5
  go_wp2_with fail
  go_at_call 20
  refine (vstamp_any _ _ (by decide)).mono ?_
  rintro e w6 ⟨rfl, hb6⟩
  rw [show stampR ⟨#[49, 48, 58, 48, 48, 58, 48, 48]⟩ = tT from k_stamp.1, show stampE ⟨#[49, 48, 58, 48, 48, 58, 48, 48]⟩ = 0 from k_stamp.2]
  simp only [vv, tT, leafT, VT.kd, VT.nm, VT.st, cT]
  have HB6 := hid hb6
  clear hb6
  go_wp2_with fail
  have c1 := (((((bx_new (hv_leafs w1).2.2.1 28).onto HB2.out).onto HB3.out).onto HB4.out).onto (valloc_bel (Below.refl _ _) (.cells #[.int .i64 6, .int .i64 0, .string ⟨#[]⟩, .slice mo1 mn1 mc1, .slice mo2 mn2 mc2] 28))).onto HB5.out
  have c3 := (bx_new HM4.out 28).onto HB5.out
  have c5 := bx_new (hv_leafs w5).2.2.2.1 28
  have d1 := ((c1.onto (valloc_bel (Below.refl _ _) _)).onto HB6.out).onto (valloc_bel (Below.refl _ _) (.cells #[.int .i64 7, .int .i64 0, .string ⟨#[49, 48, 58, 48, 48, 58, 48, 48]⟩, .slice none 0 0, .slice none 0 0] 28))
  have d3 := ((c3.onto (valloc_bel (Below.refl _ _) _)).onto HB6.out).onto (valloc_bel (Below.refl _ _) (.cells #[.int .i64 7, .int .i64 0, .string ⟨#[49, 48, 58, 48, 48, 58, 48, 48]⟩, .slice none 0 0, .slice none 0 0] 28))
  have d5 := (c5.onto HB6.out).onto (valloc_bel (Below.refl _ _) (.cells #[.int .i64 7, .int .i64 0, .string ⟨#[49, 48, 58, 48, 48, 58, 48, 48]⟩, .slice none 0 0, .slice none 0 0] 28))
  have d7 : Bx (w6.alloc (.cells #[.int .i64 7, .int .i64 0, .string ⟨#[49, 48, 58, 48, 48, 58, 48, 48]⟩, .slice none 0 0, .slice none 0 0] 28)) w6.heap.size tT (.slice none 0 0) (.slice none 0 0) := bx_new (hv_leafs w6).2.2.2.2 28
  have hbW := vonto (vonto (vonto (vonto (vonto (vonto (vonto (vonto HB1.out (valloc_bel (Below.refl _ _) _)) HB2.out) HB3.out) HB4.out) (valloc_bel (Below.refl _ _) _)) HB5.out) (valloc_bel (Below.refl _ _) _)) HB6.out
  have hbW2 := vonto hbW (valloc_bel (Below.refl _ _) (.cells #[.int .i64 7, .int .i64 0, .string ⟨#[49, 48, 58, 48, 48, 58, 48, 48]⟩, .slice none 0 0, .slice none 0 0] 28))
  clear c1 c3 c5 hbW
  generalize (w6.alloc (.cells #[.int .i64 7, .int .i64 0, .string ⟨#[49, 48, 58, 48, 48, 58, 48, 48]⟩, .slice none 0 0, .slice none 0 0] 28)) = W at d1 d3 d5 d7 hbW2 ⊢
  generalize w1.heap.size = b1 at d1 ⊢
  generalize w4.heap.size = b3 at d3 ⊢
  generalize w5.heap.size = b5 at d5 ⊢
  generalize w6.heap.size = b7 at d7 ⊢
  clear HB1 HB2 HB3 HB4 HB5 HB6 HM4
  have D1 := hid d1
  have D3 := hid d3
  have D5 := hid d5
  have D7 := hid d7
  have HW := hid hbW2
  clear d1 d3 d5 d7 hbW2
  go_cut [9] from 12 (fun v9 wx => ∃ b9 o n c, v9 = .pointer (some ⟨b9, 0, none⟩) ∧ Hid (Bx wx b9 tL (.slice o n c) (.slice none 0 0)) ∧ Hid (Below W.heap.size W wx))
  case first =>
    have HS : Hid (∀ X, Below W.heap.size W X → Below W.heap.size W X ∧ X.cell? ⟨b1, 0, none⟩ = some (.int .i64 2) ∧ X.cell? ⟨b1, 1, none⟩ = some (.int .i64 5) ∧ X.cell? ⟨b1, 2, none⟩ = some (.string ⟨#[]⟩) ∧ X.cell? ⟨b1, 3, none⟩ = some (.slice none 0 0) ∧ X.cell? ⟨b1, 4, none⟩ = some (.slice none 0 0) ∧
        X.cell? ⟨b5, 0, none⟩ = some (.int .i64 4) ∧ X.cell? ⟨b5, 1, none⟩ = some (.int .i64 0) ∧ X.cell? ⟨b5, 2, none⟩ = some (.string ⟨#[120]⟩) ∧ X.cell? ⟨b5, 3, none⟩ = some (.slice none 0 0) ∧ X.cell? ⟨b5, 4, none⟩ = some (.slice none 0 0) ∧
        X.cell? ⟨b7, 0, none⟩ = some (.int .i64 7) ∧ X.cell? ⟨b7, 1, none⟩ = some (.int .i64 0) ∧ X.cell? ⟨b7, 2, none⟩ = some (.string ⟨#[49, 48, 58, 48, 48, 58, 48, 48]⟩) ∧ X.cell? ⟨b7, 3, none⟩ = some (.slice none 0 0) ∧ X.cell? ⟨b7, 4, none⟩ = some (.slice none 0 0)) := by
      intro X hX
      have a1 := (D1.out.onto hX).cells
      have a5 := (D5.out.onto hX).cells
      have a7 := (D7.out.onto hX).cells
      exact ⟨hX, a1.1, a1.2.1, a1.2.2.1, a1.2.2.2.1, a1.2.2.2.2, a5.1, a5.2.1, a5.2.2.1, a5.2.2.2.1, a5.2.2.2.2, a7.1, a7.2.1, a7.2.2.1, a7.2.2.2.1, a7.2.2.2.2⟩
    go_region_held (fun X => Below W.heap.size W X ∧ X.cell? ⟨b1, 0, none⟩ = some (.int .i64 2) ∧ X.cell? ⟨b1, 1, none⟩ = some (.int .i64 5) ∧ X.cell? ⟨b1, 2, none⟩ = some (.string ⟨#[]⟩) ∧ X.cell? ⟨b1, 3, none⟩ = some (.slice none 0 0) ∧ X.cell? ⟨b1, 4, none⟩ = some (.slice none 0 0) ∧
        X.cell? ⟨b5, 0, none⟩ = some (.int .i64 4) ∧ X.cell? ⟨b5, 1, none⟩ = some (.int .i64 0) ∧ X.cell? ⟨b5, 2, none⟩ = some (.string ⟨#[120]⟩) ∧ X.cell? ⟨b5, 3, none⟩ = some (.slice none 0 0) ∧ X.cell? ⟨b5, 4, none⟩ = some (.slice none 0 0) ∧
        X.cell? ⟨b7, 0, none⟩ = some (.int .i64 7) ∧ X.cell? ⟨b7, 1, none⟩ = some (.int .i64 0) ∧ X.cell? ⟨b7, 2, none⟩ = some (.string ⟨#[49, 48, 58, 48, 48, 58, 48, 48]⟩) ∧ X.cell? ⟨b7, 3, none⟩ = some (.slice none 0 0) ∧ X.cell? ⟨b7, 4, none⟩ = some (.slice none 0 0))
      ((refine HS.out _ ?_; first | exact (Below.refl _ _).drew | exact valloc_bel hbl2 _ | exact hbl2 | (refine vset_bel (vset_bel (vset_bel (vset_bel (vset_bel hbl2 ?_) ?_) ?_) ?_) ?_ <;> (first | exact Nat.le_refl _ | exact hbn2.size | exact Nat.le_succ_of_le hbn2.size)) | exact valloc_bel hbn2 _ | exact hbn2 | exact valloc_bel (valloc_bel hbn2 _) _ | exact valloc_bel (‹Below W.heap.size W _ ∧ _›).1 _ | (trace_state; fail)))
      ((first
        | (go_at_call 58; first
          | (refine (nullA W).mono ?_; rintro e wn ⟨rfl, hbn2, ⟨⟨q0, q1, q2, q3, q4⟩, qf⟩, hsn⟩)
          | (refine (nullD W).mono ?_; rintro e wn ⟨rfl, hbn2⟩))
        | (go_at_call 30; first
          | (refine (listB wn).mono ?_; rintro e wl ⟨lo, ln, lc, rfl, hl, hbl, ⟨⟨q0, q1, q2, q3, q4⟩, qf⟩⟩; have hbl2 := vonto hbn2 hbl)
          | (refine (listC wn).mono ?_; rintro e wl ⟨lo, ln, lc, rfl, hl, hbl, ⟨⟨q0, q1, q2, q3, q4⟩, qf⟩⟩; have hbl2 := vonto hbn2 hbl)
          | (refine (listD wn).mono ?_; rintro e wl ⟨lo, ln, lc, rfl, hl, hbl, zk, zf⟩; have hbl2 := vonto hbn2 hbl))))
    · go_wp2_with fail
      go_meet
      exact ⟨wl.heap.size, lo, ln, lc, rfl, bx_new hl.hv _, valloc_bel hbl2 _⟩
    · go_wp2_with fail
      go_meet
      exact ⟨wn.heap.size + 1, lo, ln, lc, rfl, l9_put (b := wn.heap.size + 1) ⟨⟨q0, q1, q2, q3, q4⟩, qf⟩ (by omega) hl, vset_bel (vset_bel (vset_bel (vset_bel (vset_bel hbl2 (Nat.le_succ_of_le hbn2.size)) (Nat.le_succ_of_le hbn2.size)) (Nat.le_succ_of_le hbn2.size)) (Nat.le_succ_of_le hbn2.size)) (Nat.le_succ_of_le hbn2.size)⟩
    · go_wp2_with fail
      go_meet
      exact ⟨wn.heap.size, lo, ln, lc, rfl, l9_put (b := wn.heap.size) ⟨⟨q0, q1, q2, q3, q4⟩, qf⟩ (by omega) hl, vset_bel (vset_bel (vset_bel (vset_bel (vset_bel hbl2 hbn2.size) hbn2.size) hbn2.size) hbn2.size) hbn2.size⟩
    · go_wp2_with fail
      go_meet
      exact ⟨W.heap.size, lo, ln, lc, rfl, l9_put (b := W.heap.size) (Z5.onto ⟨⟨q0, q1, q2, q3, q4⟩, qf⟩ hbl) (by omega) hl, vset_bel (vset_bel (vset_bel (vset_bel (vset_bel hbl2 (Nat.le_refl _)) (Nat.le_refl _)) (Nat.le_refl _)) (Nat.le_refl _)) (Nat.le_refl _)⟩
  case rest =>
  obtain ⟨b9, lo, ln, lc, rfl, D9, HW9⟩ := hcut
  have HWW := hid (vonto HW.out HW9.out)
  have E1 := hid (D1.out.onto HW9.out)
  have E3 := hid (D3.out.onto HW9.out)
  have E5 := hid (D5.out.onto HW9.out)
  have E7 := hid (D7.out.onto HW9.out)
  have E9 := D9
  clear D1 D3 D5 D7 HW9 HW
  obtain ⟨pa, pcap, hpe, hp0, hp2⟩ := first_pair E3.out.2.inM (show tM.ks[0]? = some cA from rfl) (show tM.vs[0]? = some tA from rfl)
  injection hpe with hpe1 hpe2 hpe3
  subst hpe1 hpe2 hpe3
  have hln : ln = 4 := by
    obtain ⟨_, _, _, _, _, _, _, _, _, _, hx, -⟩ := E9.out.2.parts
    injection hx
  subst hln
  have HP0 := hid hp0
  have HP2 := hid hp2
  clear hp0 hp2
  obtain ⟨m0, m1, m2, m3, m4⟩ := E3.out.cells
  simp only [tM, VT.kd, VT.nm, VT.st] at m0 m1 m2
  go_wp2_with fail
  go_at_call 34
  refine (vget_any tM _ _ ⟨#[98]⟩ _ E3.out.2 (by decide)).mono ?_
  rintro e w7 ⟨R, X, Y, rfl, hR, hf7, hb7⟩
  rw [show getO tM ⟨#[98]⟩ = some tB from k_get] at hR ⊢
  subst hR
  obtain ⟨xo1, xn1, xc1, xo2, xn2, xc2, rfl, rfl⟩ := hv_slices hf7.hv
  simp only [vv, Option.getD_some, Option.isSome_some, tB, leafT, VT.kd, VT.nm, VT.st]
  clear m0 m1 m2 m3 m4
  have HTB := hid hf7.hv
  clear hf7
  have HB7 : Hid (∀ o, Below wc.heap.size wc (w7.alloc o)) := fun o => vonto hb7 (valloc_bel (Below.refl _ _) o)
  clear hb7
  go_wp2_with fail
  have g10 : Bx (w7.alloc (.cells #[.int .i64 2, .int .i64 1, .string ⟨#[]⟩, .slice xo1 xn1 xc1, .slice xo2 xn2 xc2] 28)) w7.heap.size tB (.slice xo1 xn1 xc1) (.slice xo2 xn2 xc2) := bx_new HTB.out _
  have g0 := HB7.out (.cells #[.int .i64 2, .int .i64 1, .string ⟨#[]⟩, .slice xo1 xn1 xc1, .slice xo2 xn2 xc2] 28)
  generalize (w7.alloc (.cells #[.int .i64 2, .int .i64 1, .string ⟨#[]⟩, .slice xo1 xn1 xc1, .slice xo2 xn2 xc2] 28)) = V at g10 g0 ⊢
  generalize w7.heap.size = b10 at g10 ⊢
  have G1 := hid (E1.out.onto g0)
  have G3 := hid (E3.out.onto g0)
  have G5 := hid (E5.out.onto g0)
  have G7 := hid (E7.out.onto g0)
  have G9 := hid (E9.out.onto g0)
  have G10 := hid g10
  have GP0 := hid (keepCell g0 HP0.out)
  have GP2 := hid (keepCell g0 HP2.out)
  have GW := hid (vonto HWW.out g0)
  clear E1 E3 E5 E7 E9 D9 HTB HB7 g10 g0 HP0 HP2 HWW
  have hl2 : tM.vs.length = 2 := rfl
  rw [hl2] at G3
  obtain ⟨p10, p11, -, -, -⟩ := G1.out.cells
  obtain ⟨p30, p31, p32, p33, p34⟩ := G3.out.cells
  obtain ⟨-, -, p52, -, -⟩ := G5.out.cells
  obtain ⟨p70, -, -, -, -⟩ := G7.out.cells
  obtain ⟨p90, p91, p92, p93, p94⟩ := G9.out.cells
  obtain ⟨-, pA1, -, -, -⟩ := G10.out.cells
  simp only [tN, tM, tX, tT, tL, tB, cX, leafT, VT.kd, VT.nm, VT.st] at p10 p11 p30 p31 p32 p52 p70 p90 p91 p92 pA1
  have c10 := above_cell p10; have c11 := above_cell p11
  have c30 := above_cell p30; have c31 := above_cell p31; have c32 := above_cell p32; have c33 := above_cell p33; have c34 := above_cell p34
  have c52 := above_cell p52; have c70 := above_cell p70
  have c90 := above_cell p90; have c91 := above_cell p91; have c92 := above_cell p92; have c93 := above_cell p93; have c94 := above_cell p94
  have cA1 := above_cell pA1
  have cP0 := above_cell GP0.out
  have cP2 := above_cell GP2.out
  simp only [tA, cA, leafT, VT.nm] at cP0 cP2
  have cS := hid (fun X : Abv V => vsize_any 5 tL _ _ X.u (by decide) (G9.out.2.onto X.h) (by decide))
  have cD := hid (fun X : Abv V => vdeep_any 5 tL _ _ X.u (by decide) (G9.out.2.onto X.h) (by decide))
  have cG := hid (fun X : Abv V => vgood_any tM _ _ X.u ((HG.out.on GW.out).on X.h) (G3.out.2.onto X.h))
  rw [k_sz.1] at cS
  rw [k_sz.2] at cD
  rw [k_may] at cG
  simp only [vv, tM, tL, VT.kd, VT.nm, VT.st] at cS cD cG
  clear p10 p11 p52 p70 pA1 G1 G5 G7 G10 GP0 GP2
  have hinh := abv_some V
  have K3 := hid (And.intro p30 (And.intro p31 (And.intro p32 (And.intro p33 p34))))
  clear p30 p31 p32 p33 p34 p90 p91 p92 p93 p94
  simp only [List.append]
  refine wp_region_row (C := fun w' => ∃ x : Abv V, w' = x.u) 91 17 (by kernel_rfl) (by kernel_rfl) (by kernel_rfl) ⟨⟨V.drew, (Below.refl _ _).drew⟩, rfl⟩ ?_
  simp only [List.take_succ_cons, List.take_zero]
  repeat (go_big_quiet_step ((first
    | (go_at_call 59; exact above_of (cS.out _))
    | (go_at_call 60; exact above_of (cD.out _))
    | (go_at_call 27; exact above_of (cG.out _)))))
  refine wpQuiet_nil ?_
  intro _ hw'
  obtain ⟨X, hX⟩ := hw'
  subst hX
  refine wpAny_of_held (S := fun w' => Below V.heap.size V w') _ _ _ _ ?_
  refine wpAnyH_take (i := 91) (oi := { dst := some 135, op := Op.load 28 (Operand.tmp 3), type := 28, pos := "law.go:18", after := #[{ on := 90, ground := Ground.guard }], guard := some (90, true) }) (v := .agg #[.int .i64 6, .int .i64 0, .string ⟨#[]⟩, .slice mo1 mn1 mc1, .slice (some pa) 2 mc2]) rfl (by kernel_rfl) (by kernel_rfl) (by kernel_rfl) (fun _ _ _ h => h) (Or.inl ⟨by rfl, ?_⟩) X.h ?_
  · intro w hSw
    have hSw2 : Below V.heap.size V w := hSw
    have k0 := keepCell hSw2 K3.out.1
    have k1 := keepCell hSw2 K3.out.2.1
    have k2 := keepCell hSw2 K3.out.2.2.1
    have k3 := keepCell hSw2 K3.out.2.2.2.1
    have k4 := keepCell hSw2 K3.out.2.2.2.2
    clear c10 c11 c30 c31 c32 c33 c34 c52 c70 c90 c91 c92 c93 c94 cA1 cP0 cP2 hSw hSw2
    go_simp
  simp only [Act.put, List.setIfInBounds_toArray, List.set_cons_zero, List.set_cons_succ]
  refine wpAnyH_take (i := 92) (oi := { dst := some 136, op := Op.load 28 (Operand.tmp 3), type := 28, pos := "law.go:18", after := #[{ on := 90, ground := Ground.guard }], guard := some (90, true) }) (v := .agg #[.int .i64 6, .int .i64 0, .string ⟨#[]⟩, .slice mo1 mn1 mc1, .slice (some pa) 2 mc2]) rfl (by kernel_rfl) (by kernel_rfl) (by kernel_rfl) (fun _ _ _ h => h) (Or.inl ⟨by rfl, ?_⟩) X.h ?_
  · intro w hSw
    have hSw2 : Below V.heap.size V w := hSw
    have k0 := keepCell hSw2 K3.out.1
    have k1 := keepCell hSw2 K3.out.2.1
    have k2 := keepCell hSw2 K3.out.2.2.1
    have k3 := keepCell hSw2 K3.out.2.2.2.1
    have k4 := keepCell hSw2 K3.out.2.2.2.2
    clear c10 c11 c30 c31 c32 c33 c34 c52 c70 c90 c91 c92 c93 c94 cA1 cP0 cP2 hSw hSw2
    go_simp
  simp only [Act.put, List.setIfInBounds_toArray, List.set_cons_zero, List.set_cons_succ]
  have cC := hid (vcopy_any 3 tM (by decide) (by decide) _ _ X.u (G3.out.2.onto X.h))
  simp only [vv, tM, VT.kd, VT.nm, VT.st] at cC
  refine wpAnyH_ready (rs := [93]) (by kernel_rfl) (by simp) ?_
  refine AllReadyH.cons rfl (fun K hK => ?_) AllReadyH.nil
  clear c10 c11 c30 c31 c32 c33 c34 c52 c70 c90 c91 c92 c93 c94 cA1 cP0 cP2
  go_simp
  go_wp2_with fail
  go_at_call 31
  refine cC.out.mono ?_
  rintro e wa ⟨X', Y', rfl, hfc, hwb⟩
  obtain ⟨yo1, yn1, yc1, yo2, yn2, yc2, rfl, rfl⟩ := hv_slices hfc.hv
  have HVC := hid hfc.hv
  have HWB := hid (vonto X.h hwb)
  clear hfc hwb
  go_wp2_with fail
  refine hK.out _ _ HWB.out (fun _ => ?_)
  clear hK K
  have H3 := hid (G3.out.onto HWB.out)
  have H9 := hid (G9.out.onto HWB.out)
  obtain ⟨q30, q31, q32, q33, q34⟩ := H3.out.cells
  obtain ⟨q90, q91, q92, q93, q94⟩ := H9.out.cells
  simp only [tM, tL, VT.kd, VT.nm, VT.st] at q30 q31 q32 q90 q91 q92
  have c30 := above_cell q30; have c31 := above_cell q31; have c32 := above_cell q32; have c33 := above_cell q33; have c34 := above_cell q34
  have c90 := above_cell q90; have c91 := above_cell q91; have c92 := above_cell q92; have c93 := above_cell q93; have c94 := above_cell q94
  have cM := hid (fun X2 : Abv wa => vsame_any tM tM _ _ _ _ X2.u (H3.out.2.onto X2.h) (HVC.out.onto X2.h))
  have cL := hid (fun X2 : Abv wa => vsame_any tM tL _ _ _ _ X2.u (H3.out.2.onto X2.h) (H9.out.2.onto X2.h))
  have cE := hid (fun X2 : Abv wa => vequal_any tM tM _ _ _ _ X2.u (H3.out.2.onto X2.h) (H3.out.2.onto X2.h))
  rw [k_same.1] at cM
  rw [k_same.2.1] at cE
  rw [k_same.2.2] at cL
  simp only [vv, tM, tL, VT.kd, VT.nm, VT.st] at cM cL cE
  clear q30 q31 q32 q33 q34 q90 q91 q92 q93 q94
  have hinh2 := abv_some wa
  refine any_quiet (C := fun w' => ∃ x : Abv wa, w' = x.u) 94 14 _ (by kernel_rfl) (by kernel_rfl) (by kernel_rfl) ⟨⟨wa, Below.refl _ _⟩, rfl⟩ (fun w hw => by obtain ⟨x, rfl⟩ := hw; exact vonto HWB.out x.h) ?_
  simp only [List.drop_succ_cons, List.drop_zero]
  repeat (go_big_quiet_step ((first
    | (go_at_call 35; first | exact above_of (cM.out _) | exact above_of (cL.out _))
    | (go_at_call 61; exact above_of (cE.out _)))))
  refine wpQuiet_nil ?_
  intro _ hw'
  obtain ⟨X2, hX2⟩ := hw'
  subst hX2
  clear c30 c31 c32 c33 c34 c90 c91 c92 c93 c94
  go_wp2_with fail
  go_ret
  exact ⟨rfl, vonto GW.out (vonto HWB.out X2.h)⟩
end Go.Proofs.YtgfkhnpbkdddbaaGreatDoor
