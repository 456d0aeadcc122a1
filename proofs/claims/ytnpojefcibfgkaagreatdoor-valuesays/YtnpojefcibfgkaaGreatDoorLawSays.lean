import Derived.Test.YtnpojefcibfgkaaGreatDoorVConst
import Derived.Test.YtnpojefcibfgkaaGreatDoorRefTwo
import Derived.Test.YtnpojefcibfgkaaGreatDoorAbove
import Derived.Test.YtnpojefcibfgkaaGreatDoorVAwake
import Derived.Test.YtnpojefcibfgkaaGreatDoorRefThree
/- ValueSays, walked over what its callees answer. -/
/- ValueSays, walked whole. -/
namespace Go.Proofs.YtnpojefcibfgkaaGreatDoor
open Go.RowKit

mutual
theorem same_self : ∀ T : VT, sameT false T T = true
  | .mk k n s L K V => by
    have h1 := same_selfL L
    have h2 := same_selfL V
    simp only [sameT, VT.kd, VT.nm, VT.st, VT.ls, VT.ks, VT.vs, strB, h1, h2]
    simp
theorem same_selfL : ∀ L : List VT, sameL false L L = true
  | [] => by simp [sameL]
  | t :: r => by have h1 := same_self t; have h2 := same_selfL r; simp only [sameL, h1, h2, Bool.and_self]
end
theorem fit_of {T : VT} {d n : Int} (h : fitB T d n = true) : (szT T : Int) ≤ n := by
  unfold fitB at h
  have := of_decide_eq_true h
  exact this.2

set_option maxRecDepth 100000 in
set_option maxHeartbeats 4000000 in
theorem says_of (AW : ∀ w, Glob w → Calls Tryz.prog 9 #[] w fun e w' => e = .returned (.bool true) ∧ Below w.heap.size w w')
    (RV : ∀ (T : VT) (x y : Value) (w : World), HV w T x y → Calls Tryz.prog 21 #[vv T x y] w fun e w' => e = .returned (.bool (mayB 0 1 T)) ∧ Below w.heap.size w w')
    (T U : VT) (x y x' y' : Value) (s : ByteArray) (hs : s.size ≤ maxLen) (w : World) (hg : Glob w) (hT : HV w T x y) (hU : HV w U x' y') :
    Calls Tryz.prog 4 #[vv T x y, vv U x' y', .string s] w fun e w' => e = .returned (.bool true) ∧ Below w.heap.size w w' := by
  have HAW := hid AW
  have HRV := hid RV
  have HG := hid hg
  have HT := hid hT
  have HU := hid hU
  clear AW RV hg
  obtain ⟨o1, n1, c1, o2, n2, c2, rfl, rfl⟩ := hv_slices hT
  obtain ⟨o3, n3, c3, o4, n4, c4, rfl, rfl⟩ := hv_slices hU
  clear hT hU
  unfold maxLen at hs
  simp only [vv]
  go_enter Tryz.func4, Tryz.ntmps4
  go_wp2_with fail
  have a3 := (bx_new HT.out 27).onto (valloc_bel (Below.refl _ _) (.cells #[.int .i64 U.kd, .int .i64 U.nm, .string U.st, .slice o3 n3 c3, .slice o4 n4 c4] 27))
  have a4 := bx_new (HU.out.onto (valloc_bel (Below.refl _ _) (.cells #[.int .i64 T.kd, .int .i64 T.nm, .string T.st, .slice o1 n1 c1, .slice o2 n2 c2] 27))) 27
  rw [World.size_alloc] at a4
  have aw : Below w.heap.size w _ := valloc_bel (valloc_bel (Below.refl _ _) (.cells #[.int .i64 T.kd, .int .i64 T.nm, .string T.st, .slice o1 n1 c1, .slice o2 n2 c2] 27)) (.cells #[.int .i64 U.kd, .int .i64 U.nm, .string U.st, .slice o3 n3 c3, .slice o4 n4 c4] 27)
  clear HT HU
  generalize (w.alloc (.cells #[.int .i64 T.kd, .int .i64 T.nm, .string T.st, .slice o1 n1 c1, .slice o2 n2 c2] 27)).alloc (.cells #[.int .i64 U.kd, .int .i64 U.nm, .string U.st, .slice o3 n3 c3, .slice o4 n4 c4] 27) = V0 at a3 a4 aw ⊢
  go_at_call 9
  refine (HAW.out _ (HG.out.on aw)).mono ?_
  rintro e wa ⟨rfl, hba⟩
  have B3 := hid (a3.onto hba)
  have B4 := hid (a4.onto hba)
  have HW := hid (vonto aw hba)
  clear a3 a4 aw hba HAW
  obtain ⟨q0, q1, q2, q3, q4⟩ := B3.out.cells
  have HH1 := hid (heavy_any T _ _ 600 40 wa B3.out.2 (by omega) (by omega))
  simp only [vv] at HH1
  cases hf : fitB T 40 600 with
  | false =>
    rw [hf] at HH1
    simp only [Bool.not_false] at HH1
    go_wp2_with (go_at_call 18; go_must (refine HH1.out.mono ?_; rintro e w1 ⟨rfl, hb1⟩))
    go_ret
    exact ⟨rfl, vonto HW.out hb1⟩
  | true =>
  rw [hf] at HH1
  simp only [Bool.not_true] at HH1
  go_wp2_with fail
  go_at_call 18
  refine HH1.out.mono ?_
  rintro e w1 ⟨rfl, hb1⟩
  have C3 := hid (B3.out.onto hb1)
  have C4 := hid (B4.out.onto hb1)
  have HW1 := hid (vonto HW.out hb1)
  clear q0 q1 q2 q3 q4 HH1 B3 B4 HW hb1
  obtain ⟨q0, q1, q2, q3, q4⟩ := C4.out.cells
  have HH2 := hid (heavy_any U _ _ 600 40 w1 C4.out.2 (by omega) (by omega))
  simp only [vv] at HH2
  cases hf2 : fitB U 40 600 with
  | false =>
    rw [hf2] at HH2
    simp only [Bool.not_false] at HH2
    go_wp2_with (go_at_call 18; go_must (refine HH2.out.mono ?_; rintro e w2 ⟨rfl, hb2⟩))
    go_ret
    exact ⟨rfl, vonto HW1.out hb2⟩
  | true =>
  rw [hf2] at HH2
  simp only [Bool.not_true] at HH2
  go_wp2_with fail
  go_at_call 18
  refine HH2.out.mono ?_
  rintro e w2 ⟨rfl, hb2⟩
  have D3 := hid (C3.out.onto hb2)
  have D4 := hid (C4.out.onto hb2)
  have HW2 := hid (vonto HW1.out hb2)
  clear q0 q1 q2 q3 q4 HH2 C3 C4 HW1 hb2
  by_cases hk : (s.size : Int) > 100
  · go_wp2_with fail
    go_ret
    exact ⟨rfl, HW2.out⟩
  have hz : (szT T : Int) ≤ 600 := fit_of hf
  have HZ := hid hz
  clear hf hf2 hz
  obtain ⟨q0, q1, q2, q3, q4⟩ := D3.out.cells
  have HC := hid (vcopy_any (szT T) T (Nat.le_refl _) (by have := HZ.out; omega) _ _ w2 D3.out.2)
  simp only [vv] at HC
  go_wp2_with fail
  go_at_call 19
  refine HC.out.mono ?_
  rintro e w3 ⟨X, Y, rfl, hf3, hb3⟩
  obtain ⟨o5, n5, c5, o6, n6, c6, rfl, rfl⟩ := hv_slices hf3.hv
  have HVC := hid hf3.hv
  have HB3 := hid hb3
  clear q0 q1 q2 q3 q4 HC hf3 hb3
  have HQ := hid (fun o => ((D3.out.onto HB3.out).onto (valloc_bel (Below.refl _ _) o)).cells)
  have q0 := fun o => (HQ.out o).1
  have q1 := fun o => (HQ.out o).2.1
  have q2 := fun o => (HQ.out o).2.2.1
  have q3 := fun o => (HQ.out o).2.2.2.1
  have q4 := fun o => (HQ.out o).2.2.2.2
  go_wp2_with fail
  have e3 := (D3.out.onto HB3.out).onto (valloc_bel (Below.refl _ _) (.cells #[.int .i64 T.kd, .int .i64 T.nm, .string T.st, .slice o5 n5 c5, .slice o6 n6 c6] 27))
  have e4 := (D4.out.onto HB3.out).onto (valloc_bel (Below.refl _ _) (.cells #[.int .i64 T.kd, .int .i64 T.nm, .string T.st, .slice o5 n5 c5, .slice o6 n6 c6] 27))
  have e7 := bx_new HVC.out 27
  have ew := vonto HW2.out (valloc_bel HB3.out (.cells #[.int .i64 T.kd, .int .i64 T.nm, .string T.st, .slice o5 n5 c5, .slice o6 n6 c6] 27))
  clear D3 D4 HVC HB3 HQ q0 q1 q2 q3 q4 HW2
  generalize w3.alloc (.cells #[.int .i64 T.kd, .int .i64 T.nm, .string T.st, .slice o5 n5 c5, .slice o6 n6 c6] 27) = V3 at e3 e4 e7 ew ⊢
  generalize w3.heap.size = b7 at e7 ⊢
  have E3 := hid e3
  have E4 := hid e4
  have E7 := hid e7
  have EW := hid ew
  clear e3 e4 e7 ew
  go_at_call 14
  refine (vget_any T _ _ s V3 E3.out.2 (by have := HZ.out; omega)).mono ?_
  rintro e w4 ⟨R, X, Y, rfl, hR, hf4, hb4⟩
  obtain ⟨o7, n7, c7, o8, n8, c8, rfl, rfl⟩ := hv_slices hf4.hv
  have HVG := hid hf4.hv
  have HB4 := hid hb4
  have HR := hid hR
  generalize hgs : (getO T s).isSome = gs
  have HGS := hid hgs
  simp only [vv]
  clear hf4 hb4 hR hgs
  have HQ := hid (fun o => ((E3.out.onto HB4.out).onto (valloc_bel (Below.refl _ _) o)).cells)
  have q0 := fun o => (HQ.out o).1
  have q1 := fun o => (HQ.out o).2.1
  have q2 := fun o => (HQ.out o).2.2.1
  have q3 := fun o => (HQ.out o).2.2.2.1
  have q4 := fun o => (HQ.out o).2.2.2.2
  go_wp2_with fail
  have f3 := (E3.out.onto HB4.out).onto (valloc_bel (Below.refl _ _) (.cells #[.int .i64 R.kd, .int .i64 R.nm, .string R.st, .slice o7 n7 c7, .slice o8 n8 c8] 27))
  have f4 := (E4.out.onto HB4.out).onto (valloc_bel (Below.refl _ _) (.cells #[.int .i64 R.kd, .int .i64 R.nm, .string R.st, .slice o7 n7 c7, .slice o8 n8 c8] 27))
  have f7 := (E7.out.onto HB4.out).onto (valloc_bel (Below.refl _ _) (.cells #[.int .i64 R.kd, .int .i64 R.nm, .string R.st, .slice o7 n7 c7, .slice o8 n8 c8] 27))
  have f8 := bx_new HVG.out 27
  have fw := vonto EW.out (valloc_bel HB4.out (.cells #[.int .i64 R.kd, .int .i64 R.nm, .string R.st, .slice o7 n7 c7, .slice o8 n8 c8] 27))
  clear E3 E4 E7 EW HVG HB4 HQ q0 q1 q2 q3 q4
  generalize w4.alloc (.cells #[.int .i64 R.kd, .int .i64 R.nm, .string R.st, .slice o7 n7 c7, .slice o8 n8 c8] 27) = V4 at f3 f4 f7 f8 fw ⊢
  generalize w4.heap.size = b8 at f8 ⊢
  have E3 := hid f3
  have E4 := hid f4
  have E7 := hid f7
  have E8 := hid f8
  have EW := hid fw
  clear f3 f4 f7 f8 fw
  go_at_call 20
  refine (get_any T _ _ s V4 E3.out.2).mono ?_
  rintro e w5 ⟨R', X, Y, rfl, hR, hf5, hb5⟩
  obtain rfl : R' = R := hR.trans HR.out.symm
  obtain ⟨o9, n9, c9, o0, n0, c0, rfl, rfl⟩ := hv_slices hf5
  have HVG := hid (hf5.onto hb5)
  have HB5 := hid hb5
  rw [HGS.out]
  simp only [vv]
  clear hf5 hb5 hR
  go_wp2_with fail
  have f3 := (E3.out.onto HB5.out).onto (valloc_bel (Below.refl _ _) (.cells #[.int .i64 R'.kd, .int .i64 R'.nm, .string R'.st, .slice o9 n9 c9, .slice o0 n0 c0] 27))
  have f4 := (E4.out.onto HB5.out).onto (valloc_bel (Below.refl _ _) (.cells #[.int .i64 R'.kd, .int .i64 R'.nm, .string R'.st, .slice o9 n9 c9, .slice o0 n0 c0] 27))
  have f7 := (E7.out.onto HB5.out).onto (valloc_bel (Below.refl _ _) (.cells #[.int .i64 R'.kd, .int .i64 R'.nm, .string R'.st, .slice o9 n9 c9, .slice o0 n0 c0] 27))
  have f8 := (E8.out.onto HB5.out).onto (valloc_bel (Below.refl _ _) (.cells #[.int .i64 R'.kd, .int .i64 R'.nm, .string R'.st, .slice o9 n9 c9, .slice o0 n0 c0] 27))
  have f9 := bx_new HVG.out 27
  have fw := vonto EW.out (valloc_bel HB5.out (.cells #[.int .i64 R'.kd, .int .i64 R'.nm, .string R'.st, .slice o9 n9 c9, .slice o0 n0 c0] 27))
  clear E3 E4 E7 E8 EW HVG HB5 HR HGS
  generalize w5.alloc (.cells #[.int .i64 R'.kd, .int .i64 R'.nm, .string R'.st, .slice o9 n9 c9, .slice o0 n0 c0] 27) = V at f3 f4 f7 f8 f9 fw ⊢
  generalize w5.heap.size = b9 at f9 ⊢
  have E3 := hid f3
  have E4 := hid f4
  have E7 := hid f7
  have E8 := hid f8
  have E9 := hid f9
  have EW := hid fw
  clear f3 f4 f7 f8 f9 fw
  have hinh := abv_some V
  obtain ⟨p30, p31, p32, p33, p34⟩ := E3.out.cells
  obtain ⟨p40, p41, p42, p43, p44⟩ := E4.out.cells
  obtain ⟨p70, p71, p72, p73, p74⟩ := E7.out.cells
  obtain ⟨p80, p81, p82, p83, p84⟩ := E8.out.cells
  obtain ⟨p90, p91, p92, p93, p94⟩ := E9.out.cells
  have c30 := above_cell p30; have c31 := above_cell p31; have c32 := above_cell p32; have c33 := above_cell p33; have c34 := above_cell p34
  have c40 := above_cell p40; have c41 := above_cell p41; have c42 := above_cell p42; have c43 := above_cell p43; have c44 := above_cell p44
  have c70 := above_cell p70; have c71 := above_cell p71; have c72 := above_cell p72; have c73 := above_cell p73; have c74 := above_cell p74
  have c80 := above_cell p80; have c81 := above_cell p81; have c82 := above_cell p82; have c83 := above_cell p83; have c84 := above_cell p84
  have c90 := above_cell p90; have c91 := above_cell p91; have c92 := above_cell p92; have c93 := above_cell p93; have c94 := above_cell p94
  clear p30 p31 p32 p33 p34 p40 p41 p42 p43 p44 p70 p71 p72 p73 p74 p80 p81 p82 p83 p84 p90 p91 p92 p93 p94
  have kG := hid (fun X : Abv V => vgood_any T _ _ X.u ((HG.out.on EW.out).on X.h) (E3.out.2.onto X.h))
  have kV := hid (fun X : Abv V => HRV.out T _ _ X.u (E3.out.2.onto X.h))
  have kS := hid (fun X : Abv V => vsize_any (szT T) T _ _ X.u (Nat.le_refl _) (E3.out.2.onto X.h) (by have := HZ.out; omega))
  have kS2 := hid (fun X : Abv V => size_any (szT T) T _ _ 1000 X.u (Nat.le_refl _) (E3.out.2.onto X.h) (by have := HZ.out; omega) (by omega))
  have kD := hid (fun X : Abv V => vdeep_any (szT T) T _ _ X.u (Nat.le_refl _) (E3.out.2.onto X.h) (by have := HZ.out; omega))
  have kD2 := hid (fun X : Abv V => deep_any (szT T) T _ _ X.u (Nat.le_refl _) (E3.out.2.onto X.h) (by have := HZ.out; omega))
  have kE := hid (fun X : Abv V => vsame_any T U _ _ _ _ X.u (E3.out.2.onto X.h) (E4.out.2.onto X.h))
  have kE2 := hid (fun X : Abv V => same_any (szT T) T U _ _ _ _ false X.u (Nat.le_refl _) (E3.out.2.onto X.h) (E4.out.2.onto X.h))
  have kQ := hid (fun X : Abv V => vequal_any T U _ _ _ _ X.u (E3.out.2.onto X.h) (E4.out.2.onto X.h))
  have kQ2 := hid (fun X : Abv V => same_any (szT T) T U _ _ _ _ true X.u (Nat.le_refl _) (E3.out.2.onto X.h) (E4.out.2.onto X.h))
  have kC := hid (fun X : Abv V => same_any (szT T) T T _ _ _ _ false X.u (Nat.le_refl _) (E3.out.2.onto X.h) (E7.out.2.onto X.h))
  have kR := hid (fun X : Abv V => same_any (szT R') R' R' _ _ _ _ false X.u (Nat.le_refl _) (E8.out.2.onto X.h) (E9.out.2.onto X.h))
  rw [same_self] at kC kR
  simp only [vv] at kG kV kS kS2 kD kD2 kE kE2 kQ kQ2 kC kR
  generalize mayB 0 1 T = m1 at kG kV
  generalize (szT T : Int) = m2 at kS kS2
  generalize (hgT T : Int) = m3 at kD kD2
  generalize sameT false T U = m4 at kE kE2
  generalize sameT true T U = m5 at kQ kQ2
  have i1 : (m1 == m1) = true := beq_self_eq_true _
  have i4 : (m4 == m4) = true := beq_self_eq_true _
  have i5 : (m5 == m5) = true := beq_self_eq_true _
  have i6 : (gs == gs) = true := beq_self_eq_true _
  refine wp_region_above (by kernel_rfl) (by kernel_rfl) ?_
  repeat (go_big_quiet_step ((first
    | (go_at_call 17; with_reducible exact above_of (kG.out _))
    | (go_at_call 21; with_reducible exact above_of (kV.out _))
    | (go_at_call 22; with_reducible exact above_of (kS.out _))
    | (go_at_call 23; with_reducible exact above_of (kS2.out _))
    | (go_at_call 24; with_reducible exact above_of (kD.out _))
    | (go_at_call 25; with_reducible exact above_of (kD2.out _))
    | (go_at_call 16; with_reducible exact above_of (kE.out _))
    | (go_at_call 15; with_reducible exact above_of (kQ.out _))
    | (go_at_call 26; first
      | with_reducible exact above_of (kE2.out _)
      | with_reducible exact above_of (kQ2.out _)
      | with_reducible exact above_of (kC.out _)
      | with_reducible exact above_of (kR.out _)))))
  trace_state
  refine wpQuiet_nil ?_
  intro _ hw'
  obtain ⟨X, hX⟩ := hw'
  subst hX
  go_wp2_with fail
  go_ret
  exact ⟨rfl, vonto EW.out X.h⟩
end Go.Proofs.YtnpojefcibfgkaaGreatDoor
namespace Go.Proofs.YtnpojefcibfgkaaGreatDoor
open Go.RowKit

theorem says_walk (T U : VT) (x y x' y' : Value) (s : ByteArray) (hs : s.size ≤ maxLen) (w : World) (hg : Glob w) (hT : HV w T x y) (hU : HV w U x' y') :
    Calls Tryz.prog 4 #[vv T x y, vv U x' y', .string s] w fun e w' => e = .returned (.bool true) ∧ Below w.heap.size w w' := says_of awake_any rvalue_any T U x y x' y' s hs w hg hT hU
end Go.Proofs.YtnpojefcibfgkaaGreatDoor
