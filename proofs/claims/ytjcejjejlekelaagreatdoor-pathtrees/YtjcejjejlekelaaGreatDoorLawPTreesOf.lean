/- PathTrees, walked: what stands at a path is told, set, dropped, in another tree, as the document says; the tree itself stays. -/
import Derived.Test.YtjcejjejlekelaaGreatDoorPathAwake
import Derived.Test.YtjcejjejlekelaaGreatDoorRefVal2
import Derived.Test.YtjcejjejlekelaaGreatDoorRefVal4
import Derived.Test.YtjcejjejlekelaaGreatDoorRefVal8
import Derived.Test.YtjcejjejlekelaaGreatDoorVLike
import Derived.Test.YtjcejjejlekelaaGreatDoorPathDoc
import Derived.Test.YtjcejjejlekelaaGreatDoorRef5Drop
namespace Go.Proofs.YtjcejjejlekelaaGreatDoor
open Go.RowKit

theorem ok_frm {p : List PStep} (h : pathOk p = true) : p.length ≤ 50 ∧ ∀ s ∈ p, Frm s := by
  unfold pathOk at h
  rw [Bool.and_eq_true, decide_eq_true_eq] at h
  exact ⟨h.1, fun s hs => frm_of (List.all_eq_true.1 h.2 s hs)⟩
set_option maxRecDepth 100000 in
set_option maxHeartbeats 8000000 in
theorem ptrees_walk (T : VT) (P : List PStep) (Tx : VT) (x y vp x' y' : Value) (w : World) (hg : Glob5 w) (hT : HV w T x y) (hP : InP w P vp) (hX : HV w Tx x' y') :
    Calls Tryz.prog 5 #[vv T x y, vp, vv Tx x' y'] w fun e w' => e = .returned (.bool true) ∧ Below w.heap.size w w' := by
  have HG := hid hg
  have HT := hid hT
  have HX := hid hX
  have HP := hid hP
  obtain ⟨o1, n1, c1, o2, n2, c2, rfl, rfl⟩ := hv_slices hT
  obtain ⟨o3, n3, c3, o4, n4, c4, rfl, rfl⟩ := hv_slices hX
  obtain ⟨ap, ⟨op, cp, rfl, hp1, hp2, hp3⟩, -⟩ := hP
  generalize P.length = lp at HP
  clear hg hT hX hp1 hp2 hp3
  simp only [vv]
  go_enter Tryz.func5, Tryz.ntmps5
  go_wp2_with fail
  have b0 := (bx_new HT.out 31).onto (valloc_bel (Below.refl _ _) (.cells #[.int .i64 Tx.kd, .int .i64 Tx.nm, .string Tx.st, .slice o3 n3 c3, .slice o4 n4 c4] 31))
  have b1 := bx_new (HX.out.onto (valloc_bel (Below.refl _ _) (.cells #[.int .i64 T.kd, .int .i64 T.nm, .string T.st, .slice o1 n1 c1, .slice o2 n2 c2] 31))) 31
  rw [World.size_alloc] at b1
  have hal : Below w.heap.size w _ := valloc_bel (valloc_bel (Below.refl w.heap.size w) (.cells #[.int .i64 T.kd, .int .i64 T.nm, .string T.st, .slice o1 n1 c1, .slice o2 n2 c2] 31)) (.cells #[.int .i64 Tx.kd, .int .i64 Tx.nm, .string Tx.st, .slice o3 n3 c3, .slice o4 n4 c4] 31)
  generalize ((w.alloc (.cells #[.int .i64 T.kd, .int .i64 T.nm, .string T.st, .slice o1 n1 c1, .slice o2 n2 c2] 31)).alloc (.cells #[.int .i64 Tx.kd, .int .i64 Tx.nm, .string Tx.st, .slice o3 n3 c3, .slice o4 n4 c4] 31)) = W at b0 b1 hal ⊢
  have B0 := hid b0
  have B1 := hid b1
  have H := hid hal
  clear b0 b1 hal HT HX
  go_at_call 10
  refine (pawake_any _ (HG.out.on H.out)).mono ?_
  rintro e w1 ⟨rfl, hb⟩
  replace B0 := hid (B0.out.onto hb)
  replace B1 := hid (B1.out.onto hb)
  replace H := hid (vonto H.out hb)
  clear hb
  obtain ⟨k0, k1, k2, k3, k4⟩ := B0.out.cells
  have C := hid (heavy_any T (.slice o1 n1 c1) (.slice o2 n2 c2) 200 32 _ B0.out.2 (by decide) (by decide))
  simp only [vv] at C
  go_wp2_with fail
  go_at_call 24
  refine C.out.mono ?_
  rintro e w2 ⟨rfl, hb⟩
  clear k0 k1 k2 k3 k4
  clear C
  replace B0 := hid (B0.out.onto hb)
  replace B1 := hid (B1.out.onto hb)
  replace H := hid (vonto H.out hb)
  clear hb
  cases hfit : fitB T 32 200 with
  | false =>
    simp only [Bool.not_false]
    go_wp2_with fail
    go_ret
    exact ⟨rfl, H.out⟩
  | true =>
  have hsz : szT T ≤ 200 := by
    unfold fitB at hfit
    have := (of_decide_eq_true hfit).2
    omega
  clear hfit
  simp only [Bool.not_true]
  obtain ⟨k0, k1, k2, k3, k4⟩ := B0.out.cells
  have C := hid (rvalue_any T (.slice o1 n1 c1) (.slice o2 n2 c2) _ B0.out.2)
  simp only [vv] at C
  go_wp2_with fail
  go_at_call 25
  refine C.out.mono ?_
  rintro e w3 ⟨rfl, hb⟩
  clear k0 k1 k2 k3 k4
  clear C
  replace B0 := hid (B0.out.onto hb)
  replace B1 := hid (B1.out.onto hb)
  replace H := hid (vonto H.out hb)
  clear hb
  cases hmay : mayB 0 1 T with
  | false =>
    go_wp2_with fail
    go_ret
    exact ⟨rfl, H.out⟩
  | true =>
  have HPL : Hid (plainT T = true) := hid (by unfold mayB at hmay; rw [Bool.and_eq_true] at hmay; exact hmay.2)
  clear hmay
  go_wp2_with fail
  go_at_call 16
  refine (may_any P _ _ (HP.out.onto H.out)).mono ?_
  rintro e w4 ⟨rfl, hb⟩
  replace B0 := hid (B0.out.onto hb)
  replace B1 := hid (B1.out.onto hb)
  replace H := hid (vonto H.out hb)
  clear hb
  cases hok : pathOk P with
  | false =>
    go_wp2_with fail
    go_ret
    exact ⟨rfl, H.out⟩
  | true =>
  obtain ⟨hl50, hfr⟩ := ok_frm hok
  have HFR := hid hfr
  clear hfr hok
  obtain ⟨k0, k1, k2, k3, k4⟩ := B1.out.cells
  have C := hid (heavy_any Tx (.slice o3 n3 c3) (.slice o4 n4 c4) 100 32 _ B1.out.2 (by decide) (by decide))
  simp only [vv] at C
  go_wp2_with fail
  go_at_call 24
  refine C.out.mono ?_
  rintro e w2 ⟨rfl, hb⟩
  clear k0 k1 k2 k3 k4
  clear C
  replace B0 := hid (B0.out.onto hb)
  replace B1 := hid (B1.out.onto hb)
  replace H := hid (vonto H.out hb)
  clear hb
  cases hfit : fitB Tx 32 100 with
  | false =>
    simp only [Bool.not_false]
    go_wp2_with fail
    go_ret
    exact ⟨rfl, H.out⟩
  | true =>
  have hszX : szT Tx ≤ 100 := by
    unfold fitB at hfit
    have := (of_decide_eq_true hfit).2
    omega
  clear hfit
  simp only [Bool.not_true]
  obtain ⟨k0, k1, k2, k3, k4⟩ := B0.out.cells
  have C := hid (rcopy_any (szT T) T (Nat.le_refl _) (by omega) (.slice o1 n1 c1) (.slice o2 n2 c2) _ B0.out.2)
  simp only [vv] at C
  go_wp2_with fail
  go_at_call 26
  refine C.out.mono ?_
  rintro e w5 ⟨X, Y, rfl, hx, hb⟩
  obtain ⟨o5, n5, c5, o6, n6, c6, rfl, rfl⟩ := hv_slices hx.hv
  clear k0 k1 k2 k3 k4
  clear C
  have hal := valloc_bel (Below.refl w5.heap.size w5) (.cells #[.int .i64 T.kd, .int .i64 T.nm, .string T.st, .slice o5 n5 c5, .slice o6 n6 c6] 31)
  replace B0 := hid (B0.out.onto hb)
  replace B1 := hid (B1.out.onto hb)
  replace H := hid (vonto H.out hb)
  have B2 := hid (bx_new hx.hv 31)
  replace B0 := hid (B0.out.onto hal)
  replace B1 := hid (B1.out.onto hal)
  replace H := hid (vonto H.out hal)
  clear hb hal
  clear hx
  go_upto_region 6 with fail
  generalize (w5.alloc (.cells #[.int .i64 T.kd, .int .i64 T.nm, .string T.st, .slice o5 n5 c5, .slice o6 n6 c6] 31)) = W5 at B0 B1 B2  H ⊢
  generalize w5.heap.size = b5 at B2 ⊢
  go_wp2_with fail
  go_at_call 17
  refine (steps_any P _ _ (HP.out.onto H.out) (by omega)).mono ?_
  rintro e w6 ⟨vq, rfl, hq, hb⟩
  replace B0 := hid (B0.out.onto hb)
  replace B1 := hid (B1.out.onto hb)
  replace B2 := hid (B2.out.onto hb)
  replace H := hid (vonto H.out hb)
  have IQ := hid hq
  clear hq hb
  obtain ⟨aq, ⟨oq, cq, rfl, -⟩, -⟩ := IQ.out
  generalize P.length = lq at IQ
  obtain ⟨k0, k1, k2, k3, k4⟩ := B0.out.cells
  have C := hid (pget_any T (.slice o1 n1 c1) (.slice o2 n2 c2) P _ _ B0.out.2 (by omega) (HP.out.onto H.out))
  simp only [vv] at C
  go_wp2_with fail
  go_at_call 12
  refine C.out.mono ?_
  rintro e w7 ⟨R, X, Y, rfl, hR, hf, hb⟩
  clear k0 k1 k2 k3 k4
  clear C
  obtain ⟨s7a, s7b, s7c, s7d, s7e, s7f, rfl, rfl⟩ := hv_slices hf.hv
  have HR := hid hR
  clear hR
  have hal := valloc_bel (Below.refl w7.heap.size w7) (.cells #[.int .i64 R.kd, .int .i64 R.nm, .string R.st, .slice s7a s7b s7c, .slice s7d s7e s7f] 31)
  replace B0 := hid (B0.out.onto hb)
  replace B1 := hid (B1.out.onto hb)
  replace B2 := hid (B2.out.onto hb)
  replace IQ := hid (IQ.out.onto hb)
  replace H := hid (vonto H.out hb)
  have B3 := hid (bx_new hf.hv 31)
  replace B0 := hid (B0.out.onto hal)
  replace B1 := hid (B1.out.onto hal)
  replace B2 := hid (B2.out.onto hal)
  replace IQ := hid (IQ.out.onto hal)
  replace H := hid (vonto H.out hal)
  clear hb hal
  go_upto_region 8 with fail
  generalize (w7.alloc (.cells #[.int .i64 R.kd, .int .i64 R.nm, .string R.st, .slice s7a s7b s7c, .slice s7d s7e s7f] 31)) = W7 at B0 B1 B2 B3 IQ H ⊢
  generalize w7.heap.size = b7 at B3 ⊢
  clear hf
  obtain ⟨k0, k1, k2, k3, k4⟩ := B2.out.cells
  have C := hid (get5_any T (.slice o5 n5 c5) (.slice o6 n6 c6) P _ _ B2.out.2 IQ.out HFR.out (by omega))
  simp only [vv] at C
  go_wp2_with fail
  go_at_call 27
  refine C.out.mono ?_
  rintro e w8 ⟨R2, X, Y, rfl, hR, hf, hb⟩
  clear k0 k1 k2 k3 k4
  clear C
  obtain ⟨s8a, s8b, s8c, s8d, s8e, s8f, rfl, rfl⟩ := hv_slices (hf.onto hb)
  have HR2 := hid hR
  clear hR
  have hal := valloc_bel (Below.refl w8.heap.size w8) (.cells #[.int .i64 R2.kd, .int .i64 R2.nm, .string R2.st, .slice s8a s8b s8c, .slice s8d s8e s8f] 31)
  replace B0 := hid (B0.out.onto hb)
  replace B1 := hid (B1.out.onto hb)
  replace B2 := hid (B2.out.onto hb)
  replace B3 := hid (B3.out.onto hb)
  replace IQ := hid (IQ.out.onto hb)
  replace H := hid (vonto H.out hb)
  have B4 := hid (bx_new (hf.onto hb) 31)
  replace B0 := hid (B0.out.onto hal)
  replace B1 := hid (B1.out.onto hal)
  replace B2 := hid (B2.out.onto hal)
  replace B3 := hid (B3.out.onto hal)
  replace IQ := hid (IQ.out.onto hal)
  replace H := hid (vonto H.out hal)
  clear hb hal
  go_upto_region 9 with fail
  generalize (w8.alloc (.cells #[.int .i64 R2.kd, .int .i64 R2.nm, .string R2.st, .slice s8a s8b s8c, .slice s8d s8e s8f] 31)) = W8 at B0 B1 B2 B3 B4 IQ H ⊢
  generalize w8.heap.size = b8 at B4 ⊢
  clear hf
  have hRR : R2 = R := HR2.out.trans HR.out.symm
  subst hRR
  obtain ⟨k0, k1, k2, k3, k4⟩ := B3.out.cells
  obtain ⟨j0, j1, j2, j3, j4⟩ := B4.out.cells
  have C := hid (same_any _ R2 R2 (.slice s7a s7b s7c) (.slice s7d s7e s7f) (.slice s8a s8b s8c) (.slice s8d s8e s8f) false _ (Nat.le_refl _) B3.out.2 B4.out.2)
  rw [like_self R2] at C
  simp only [vv] at C
  generalize (getP T P).isSome = gb
  have hgb : (gb != gb) = false := by cases gb <;> rfl
  go_wp2_with fail
  go_at_call 28
  refine C.out.mono ?_
  rintro e w9 ⟨rfl, hb⟩
  clear k0 k1 k2 k3 k4 j0 j1 j2 j3 j4
  clear C hgb HR HR2
  replace B0 := hid (B0.out.onto hb)
  replace B1 := hid (B1.out.onto hb)
  replace B2 := hid (B2.out.onto hb)
  replace B3 := hid (B3.out.onto hb)
  replace B4 := hid (B4.out.onto hb)
  replace IQ := hid (IQ.out.onto hb)
  replace H := hid (vonto H.out hb)
  clear hb
  clear B3 B4
  obtain ⟨k0, k1, k2, k3, k4⟩ := B0.out.cells
  obtain ⟨j0, j1, j2, j3, j4⟩ := B1.out.cells
  have C := hid (pset_any T Tx (.slice o1 n1 c1) (.slice o2 n2 c2) (.slice o3 n3 c3) (.slice o4 n4 c4) P _ _ B0.out.2 (by omega) B1.out.2 (by omega) (HP.out.onto H.out) (by omega))
  simp only [vv] at C
  go_wp2_with fail
  go_at_call 14
  refine C.out.mono ?_
  rintro e w10 ⟨S1, X, Y, rfl, hR, hf, hb⟩
  clear k0 k1 k2 k3 k4 j0 j1 j2 j3 j4
  clear C
  obtain ⟨s9a, s9b, s9c, s9d, s9e, s9f, rfl, rfl⟩ := hv_slices hf.hv
  have HR := hid hR
  clear hR
  have hal := valloc_bel (Below.refl w10.heap.size w10) (.cells #[.int .i64 S1.kd, .int .i64 S1.nm, .string S1.st, .slice s9a s9b s9c, .slice s9d s9e s9f] 31)
  replace B0 := hid (B0.out.onto hb)
  replace B1 := hid (B1.out.onto hb)
  replace B2 := hid (B2.out.onto hb)
  replace IQ := hid (IQ.out.onto hb)
  replace H := hid (vonto H.out hb)
  have B5 := hid (bx_new hf.hv 31)
  replace B0 := hid (B0.out.onto hal)
  replace B1 := hid (B1.out.onto hal)
  replace B2 := hid (B2.out.onto hal)
  replace IQ := hid (IQ.out.onto hal)
  replace H := hid (vonto H.out hal)
  clear hb hal
  go_upto_region 12 with fail
  generalize (w10.alloc (.cells #[.int .i64 S1.kd, .int .i64 S1.nm, .string S1.st, .slice s9a s9b s9c, .slice s9d s9e s9f] 31)) = W10 at B0 B1 B2 B5 IQ H ⊢
  generalize w10.heap.size = b10 at B5 ⊢
  clear hf
  obtain ⟨k0, k1, k2, k3, k4⟩ := B2.out.cells
  obtain ⟨j0, j1, j2, j3, j4⟩ := B1.out.cells
  have C := hid (set5_any P T Tx (.slice o5 n5 c5) (.slice o6 n6 c6) (.slice o3 n3 c3) (.slice o4 n4 c4) _ _ HPL.out (by omega) (by omega) B2.out.2 B1.out.2 IQ.out HFR.out (by omega))
  simp only [vv] at C
  go_wp2_with fail
  go_at_call 29
  refine C.out.mono ?_
  rintro e w11 ⟨S2, X, Y, rfl, hR, hf, hb⟩
  clear k0 k1 k2 k3 k4 j0 j1 j2 j3 j4
  clear C
  obtain ⟨s11a, s11b, s11c, s11d, s11e, s11f, rfl, rfl⟩ := hv_slices hf.hv
  simp only [vv]
  have HR2 := hid hR
  clear hR
  have hal := valloc_bel (Below.refl w11.heap.size w11) (.cells #[.int .i64 S2.kd, .int .i64 S2.nm, .string S2.st, .slice s11a s11b s11c, .slice s11d s11e s11f] 31)
  replace B0 := hid (B0.out.onto hb)
  replace B1 := hid (B1.out.onto hb)
  replace B2 := hid (B2.out.onto hb)
  replace B5 := hid (B5.out.onto hb)
  replace IQ := hid (IQ.out.onto hb)
  replace H := hid (vonto H.out hb)
  have B6 := hid (bx_new hf.hv 31)
  replace B0 := hid (B0.out.onto hal)
  replace B1 := hid (B1.out.onto hal)
  replace B2 := hid (B2.out.onto hal)
  replace B5 := hid (B5.out.onto hal)
  replace IQ := hid (IQ.out.onto hal)
  replace H := hid (vonto H.out hal)
  clear hb hal
  go_upto_region 13 with fail
  generalize (w11.alloc (.cells #[.int .i64 S2.kd, .int .i64 S2.nm, .string S2.st, .slice s11a s11b s11c, .slice s11d s11e s11f] 31)) = W11 at B0 B1 B2 B5 B6 IQ H ⊢
  generalize w11.heap.size = b11 at B6 ⊢
  clear hf
  have hRR : S2 = S1 := HR2.out.trans HR.out.symm
  subst hRR
  obtain ⟨k0, k1, k2, k3, k4⟩ := B5.out.cells
  obtain ⟨j0, j1, j2, j3, j4⟩ := B6.out.cells
  have C := hid (same_any _ S2 S2 (.slice s9a s9b s9c) (.slice s9d s9e s9f) (.slice s11a s11b s11c) (.slice s11d s11e s11f) false _ (Nat.le_refl _) B5.out.2 B6.out.2)
  rw [like_self S2] at C
  simp only [vv] at C
  clear HR HR2
  generalize setP T P Tx = so
  go_cut [95] (fun v wx => v = .bool false ∧ Hid (Below W11.heap.size W11 wx))
  case first =>
    cases so with
    | none =>
      simp only [eN, Option.isSome_none]
      go_wp2_with fail
      go_at_call 28
      refine C.out.mono ?_
      rintro e w12 ⟨rfl, hb⟩
      go_wp2_with fail
      go_meet
      exact ⟨rfl, hid hb⟩
    | some z =>
      simp only [eN, Option.isSome_some]
      go_wp2_with fail
      go_at_call 28
      refine C.out.mono ?_
      rintro e w12 ⟨rfl, hb⟩
      go_wp2_with fail
      go_meet
      exact ⟨rfl, hid hb⟩
  case rest =>
  obtain ⟨rfl, HC⟩ := hcut
  generalize eN so = en1
  generalize so.isSome = fb1
  clear k0 k1 k2 k3 k4 j0 j1 j2 j3 j4
  clear C B5 B6
  replace B0 := hid (B0.out.onto HC.out)
  replace B1 := hid (B1.out.onto HC.out)
  replace B2 := hid (B2.out.onto HC.out)
  replace IQ := hid (IQ.out.onto HC.out)
  replace H := hid (vonto H.out HC.out)
  clear HC
  obtain ⟨k0, k1, k2, k3, k4⟩ := B0.out.cells
  have C := hid (pdrop_any T (.slice o1 n1 c1) (.slice o2 n2 c2) P _ _ B0.out.2 (by omega) (HP.out.onto H.out) (by omega))
  simp only [vv] at C
  go_wp2_with fail
  go_at_call 15
  refine C.out.mono ?_
  rintro e w13 ⟨D1, X, Y, rfl, hR, hf, hb⟩
  clear k0 k1 k2 k3 k4
  clear C
  obtain ⟨s13a, s13b, s13c, s13d, s13e, s13f, rfl, rfl⟩ := hv_slices hf.hv
  have HR := hid hR
  clear hR
  have hal := valloc_bel (Below.refl w13.heap.size w13) (.cells #[.int .i64 D1.kd, .int .i64 D1.nm, .string D1.st, .slice s13a s13b s13c, .slice s13d s13e s13f] 31)
  replace B0 := hid (B0.out.onto hb)
  replace B1 := hid (B1.out.onto hb)
  replace B2 := hid (B2.out.onto hb)
  replace IQ := hid (IQ.out.onto hb)
  replace H := hid (vonto H.out hb)
  have B7 := hid (bx_new hf.hv 31)
  replace B0 := hid (B0.out.onto hal)
  replace B1 := hid (B1.out.onto hal)
  replace B2 := hid (B2.out.onto hal)
  replace IQ := hid (IQ.out.onto hal)
  replace H := hid (vonto H.out hal)
  clear hb hal
  go_upto_region 16 with fail
  generalize (w13.alloc (.cells #[.int .i64 D1.kd, .int .i64 D1.nm, .string D1.st, .slice s13a s13b s13c, .slice s13d s13e s13f] 31)) = W13 at B0 B1 B2 B7 IQ H ⊢
  generalize w13.heap.size = b13 at B7 ⊢
  clear hf
  obtain ⟨k0, k1, k2, k3, k4⟩ := B2.out.cells
  have C := hid (drop5_any P T (.slice o5 n5 c5) (.slice o6 n6 c6) _ _ HPL.out (by omega) B2.out.2 IQ.out HFR.out (by omega))
  simp only [vv] at C
  go_wp2_with fail
  go_at_call 30
  refine C.out.mono ?_
  rintro e w14 ⟨D2, X, Y, rfl, hR, hf, hb⟩
  clear k0 k1 k2 k3 k4
  clear C
  obtain ⟨s14a, s14b, s14c, s14d, s14e, s14f, rfl, rfl⟩ := hv_slices hf.hv
  simp only [vv]
  have HR2 := hid hR
  clear hR
  have hal := valloc_bel (Below.refl w14.heap.size w14) (.cells #[.int .i64 D2.kd, .int .i64 D2.nm, .string D2.st, .slice s14a s14b s14c, .slice s14d s14e s14f] 31)
  replace B0 := hid (B0.out.onto hb)
  replace B1 := hid (B1.out.onto hb)
  replace B2 := hid (B2.out.onto hb)
  replace B7 := hid (B7.out.onto hb)
  replace IQ := hid (IQ.out.onto hb)
  replace H := hid (vonto H.out hb)
  have B8 := hid (bx_new hf.hv 31)
  replace B0 := hid (B0.out.onto hal)
  replace B1 := hid (B1.out.onto hal)
  replace B2 := hid (B2.out.onto hal)
  replace B7 := hid (B7.out.onto hal)
  replace IQ := hid (IQ.out.onto hal)
  replace H := hid (vonto H.out hal)
  clear hb hal
  go_upto_region 17 with fail
  generalize (w14.alloc (.cells #[.int .i64 D2.kd, .int .i64 D2.nm, .string D2.st, .slice s14a s14b s14c, .slice s14d s14e s14f] 31)) = W14 at B0 B1 B2 B7 B8 IQ H ⊢
  generalize w14.heap.size = b14 at B8 ⊢
  clear hf
  have hRR : D2 = D1 := HR2.out.trans HR.out.symm
  subst hRR
  clear HR HR2
  obtain ⟨k0, k1, k2, k3, k4⟩ := B7.out.cells
  obtain ⟨j0, j1, j2, j3, j4⟩ := B8.out.cells
  have C := hid (same_any _ D2 D2 (.slice s13a s13b s13c) (.slice s13d s13e s13f) (.slice s14a s14b s14c) (.slice s14d s14e s14f) false _ (Nat.le_refl _) B7.out.2 B8.out.2)
  rw [like_self D2] at C
  simp only [vv] at C
  have CV := hid (fun X (hX : Below W14.heap.size W14 X) => same_any _ T T (.slice o1 n1 c1) (.slice o2 n2 c2) (.slice o5 n5 c5) (.slice o6 n6 c6) false X (Nat.le_refl _) (B0.out.2.onto hX) (B2.out.2.onto hX))
  rw [like_self T] at CV
  simp only [vv] at CV
  cases dropP T P with
  | none =>
    simp only [eN, Option.isSome_none]
    go_wp2_with fail
    go_at_call 28
    refine C.out.mono ?_
    rintro e w15 ⟨rfl, hb⟩
    obtain ⟨p0, p1, p2, p3, p4⟩ := (B0.out.onto hb).cells
    obtain ⟨q0, q1, q2, q3, q4⟩ := (B2.out.onto hb).cells
    go_wp2_with fail
    go_at_call 28
    refine (CV.out _ hb).mono ?_
    rintro e w16 ⟨rfl, hb2⟩
    go_wp2_with fail
    go_ret
    exact ⟨rfl, vonto (vonto H.out hb) hb2⟩
  | some z =>
    simp only [eN, Option.isSome_some]
    go_wp2_with fail
    go_at_call 28
    refine C.out.mono ?_
    rintro e w15 ⟨rfl, hb⟩
    obtain ⟨p0, p1, p2, p3, p4⟩ := (B0.out.onto hb).cells
    obtain ⟨q0, q1, q2, q3, q4⟩ := (B2.out.onto hb).cells
    go_wp2_with fail
    go_at_call 28
    refine (CV.out _ hb).mono ?_
    rintro e w16 ⟨rfl, hb2⟩
    go_wp2_with fail
    go_ret
    exact ⟨rfl, vonto (vonto H.out hb) hb2⟩
end Go.Proofs.YtjcejjejlekelaaGreatDoor
