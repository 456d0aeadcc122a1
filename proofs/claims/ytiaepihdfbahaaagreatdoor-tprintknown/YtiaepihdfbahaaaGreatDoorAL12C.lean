/- TprintKnown. -/
import Derived.Test.YtiaepihdfbahaaaGreatDoorAVOpen
namespace Go.Proofs.YtiaepihdfbahaaaGreatDoor
open Go.RowKit

/-- a list of two -/
def l2T (t u : VT) : VT := .mk 5 0 ⟨#[]⟩ [t, u] [] []
theorem hv_l2 {W : World} (w : World) (t u : VT) (o1 o2 o3 o4 : Option Addr) (n1 c1 n2 c2 n3 c3 n4 c4 : Nat) (hW : W = w.alloc (.cells #[.int .i64 t.kd, .int .i64 t.nm, .string t.st, .slice o1 n1 c1, .slice o2 n2 c2, .int .i64 u.kd, .int .i64 u.nm, .string u.st, .slice o3 n3 c3, .slice o4 n4 c4] 27)) (h : HV w t (.slice o1 n1 c1) (.slice o2 n2 c2)) (h' : HV w u (.slice o3 n3 c3) (.slice o4 n4 c4)) : HV W (l2T t u) (.slice (some ⟨w.heap.size, 0, none⟩) 2 2) (.slice none 0 0) := by
  have hn := new_cells w [.int .i64 t.kd, .int .i64 t.nm, .string t.st, .slice o1 n1 c1, .slice o2 n2 c2, .int .i64 u.kd, .int .i64 u.nm, .string u.st, .slice o3 n3 c3, .slice o4 n4 c4] 27
  have hbel := valloc_bel (Below.refl w.heap.size w) (.cells #[.int .i64 t.kd, .int .i64 t.nm, .string t.st, .slice o1 n1 c1, .slice o2 n2 c2, .int .i64 u.kd, .int .i64 u.nm, .string u.st, .slice o3 n3 c3, .slice o4 n4 c4] 27)
  have hv := h.onto hbel
  have hv' := h'.onto hbel
  have hn' : ∀ (i : Nat) (v : Value), [.int .i64 t.kd, .int .i64 t.nm, .string t.st, .slice o1 n1 c1, .slice o2 n2 c2, .int .i64 u.kd, .int .i64 u.nm, .string u.st, .slice o3 n3 c3, .slice o4 n4 c4][i]? = some v → W.cell? ⟨w.heap.size, i, none⟩ = some v := fun i v hv => by
    have := hn i v hv
    rw [add_at] at this
    rw [hW]; exact this
  rw [← hW] at hv hv'
  refine .mk ⟨w.heap.size, 0, none⟩ ⟨0, 0, none⟩ (fun i => if i = 0 then .slice o1 n1 c1 else .slice o3 n3 c3) (fun i => if i = 0 then .slice o2 n2 c2 else .slice o4 n4 c4) (fun _ => .slice none 0 0) (fun _ => .slice none 0 0) (by decide) (by decide) (by decide) ⟨some ⟨w.heap.size, 0, none⟩, 2, rfl, Nat.le_refl _, by decide, fun _ => rfl⟩ ⟨none, 0, rfl, Nat.le_refl _, Nat.zero_le _, fun h => absurd h (by simp)⟩ rfl (fun i x h => ?_) (fun i t h => by simp at h) (fun i t h => by simp at h) (fun i x h => ?_) (fun i t h => by simp at h)
  · match i with
    | 0 =>
      simp only [List.getElem?_cons_zero, Option.some.injEq] at h
      subst h
      exact ⟨hn' 0 _ rfl, hn' 1 _ rfl, hn' 2 _ rfl, hn' 3 _ rfl, hn' 4 _ rfl⟩
    | 1 =>
      simp only [List.getElem?_cons_zero, List.getElem?_cons_succ, Option.some.injEq] at h
      subst h
      exact ⟨hn' 5 _ rfl, hn' 6 _ rfl, hn' 7 _ rfl, hn' 8 _ rfl, hn' 9 _ rfl⟩
    | i + 2 => simp at h
  · match i with
    | 0 =>
      simp only [List.getElem?_cons_zero, Option.some.injEq] at h
      subst h
      exact hv
    | 1 =>
      simp only [List.getElem?_cons_zero, List.getElem?_cons_succ, Option.some.injEq] at h
      subst h
      exact hv'
    | i + 2 => simp at h
def kx1 : VT := m1T ⟨#[120]⟩ (leafT 2 1 ⟨#[]⟩)
def kbig : ByteArray := ⟨#[57, 50, 50, 51, 51, 55, 50, 48, 51, 54, 56, 53, 52, 55, 55, 53, 56, 48, 56]⟩
theorem tk1 : mkS (tprB (m1T ⟨#[108]⟩ (l2T kx1 (leafT 6 0 ⟨#[]⟩)))) = ⟨#[91, 91, 108, 93, 93, 10, 120, 32, 61, 32, 49, 10, 10, 91, 91, 108, 93, 93, 10]⟩ := by kernel_rfl
theorem tk2 : mkS (tprB (m1T ⟨#[109]⟩ (l2T kx1 (leafT 2 2 ⟨#[]⟩)))) = ⟨#[109, 32, 61, 32, 91, 123, 120, 32, 61, 32, 49, 125, 44, 32, 50, 93, 10]⟩ := by kernel_rfl
theorem tk3 : tomB (leafT 2 1 ⟨#[]⟩) = false := by kernel_rfl
theorem tk4 : tomB (m1T ⟨#[97]⟩ (leafT 0 0 ⟨#[]⟩)) = false := by kernel_rfl
theorem tk5 : mkS (tprB (m1T ⟨#[97]⟩ (leafT 0 0 ⟨#[]⟩))) = ⟨#[]⟩ := by kernel_rfl
theorem tk6 : tomB (m1T ⟨#[97]⟩ (leafT 3 0 kbig)) = false := by kernel_rfl
theorem tk7 : mkS (tprB (leafT 6 0 ⟨#[]⟩)) = ⟨#[]⟩ := by kernel_rfl
set_option maxRecDepth 100000 in
set_option maxHeartbeats 8000000 in
theorem Tryz.tprintKnown_walk (w : World) (hg : GlobT12 w) : Calls Tryz.prog 3 #[] w fun e w' => e = .returned (.bool true) ∧ Below w.heap.size w w' := by
  have CA := hid (awake12 w hg)
  have CN := hid (fun n X => lnum_any n X)
  have CP := hid (fun key k m s o1 o2 n1 c1 n2 c2 X => lpair_any key k m s o1 o2 n1 c1 n2 c2 X)
  have CM := hid (fun o n c X => lmap_any o n c X)
  have PR := hid (fun (T : VT) (x y : Value) X (hX : Below w.heap.size w X) (h : HV X T x y) => tprint_any T x y X (hg.on hX).1 (hg.on hX).2 h)
  have MY := hid (fun (T : VT) (x y : Value) X (hX : Below w.heap.size w X) (h : HV X T x y) => tpmay_any T x y X (hg.on hX).1 h)
  have HL : Hid (∀ X k n s, (Lit.int .i64 k).wf = true → (Lit.int .i64 n).wf = true → s.size ≤ maxLen → HV X (leafT k n s) (.slice none 0 0) (.slice none 0 0)) := hid (fun X k n s h1 h2 h3 => hv_leaf X k n s h1 h2 h3)
  clear hg
  go_enter Tryz.func3, Tryz.ntmps3
  go_wp2_with fail
  go_at_call 5
  refine CA.out.mono ?_
  rintro e w0 ⟨rfl, hb0⟩
  have HB0 := hid hb0
  clear hb0 CA
  go_wp2_with fail
  go_at_call 8
  refine (CN.out _ _).mono ?_
  rintro e u1 ⟨rfl, hu1⟩
  have HB1 := hid (vonto HB0.out hu1)
  clear hu1
  go_wp2_with fail
  go_at_call 7
  refine (CP.out _ _ _ _ _ _ _ _ _ _ _).mono ?_
  rintro e u2 ⟨rfl, hu2⟩
  have HB2 := hid (vonto HB1.out hu2)
  clear hu2
  go_wp2_with fail
  go_at_call 6
  refine (CM.out _ _ _ _).mono ?_
  rintro e u3 ⟨rfl, hu3⟩
  have HX := hid ((hv_m1 u2 ⟨#[120]⟩ (leafT 2 1 ⟨#[]⟩) none none 0 0 0 0 rfl (by decide) (HL.out u2 2 1 _ (by decide) (by decide) (by decide))).onto hu3)
  have HB3 := hid (vonto (valloc_bel HB2.out _) hu3)
  clear hu3
  go_wp2_with fail
  go_at_call 6
  refine (CM.out _ _ _ _).mono ?_
  rintro e u4 ⟨rfl, hu4⟩
  have HX2 := hid (HX.out.onto hu4)
  have HB4 := hid (vonto HB3.out hu4)
  clear hu4
  go_upto_region 4 with fail
  refine tpwp_gen ?_
  intro W1 hW
  obtain ⟨W0, hW0⟩ : ∃ W0, u4.alloc (.cells #[.int .i64 6, .int .i64 0, .string ⟨#[]⟩, .slice none 0 0, .slice (some ⟨u2.heap.size, 0, none⟩) 1 1, .int .i64 6, .int .i64 0, .string ⟨#[]⟩, .slice none 0 0, .slice none 0 0] 27) = W0 := ⟨_, rfl⟩
  have hv0 := hv_l2 (W := W0) u4 kx1 (leafT 6 0 ⟨#[]⟩) none (some ⟨u2.heap.size, 0, none⟩) none none 0 0 1 1 0 0 0 0 hW0.symm HX2.out (HL.out u4 6 0 _ (by decide) (by decide) (by decide))
  have hz0 : W0.heap.size = u4.heap.size + 1 := by rw [← hW0]; simp
  have hb0 : Below w.heap.size w W0 := by rw [← hW0]; exact valloc_bel HB4.out _
  rw [hW0] at hW
  rw [← hz0]
  obtain ⟨g0, g1, g2, g3, g4, hbW⟩ := rpbox_of hW
  have HLV := hid (hv0.onto hbW)
  have HBW := hid (vonto hb0 hbW)
  clear hW hW0 hbW hv0 hb0 hz0 HX HX2
  have HC := hid (Below.refl W1.heap.size W1)
  go_wp2_with fail
  go_at_call 8
  refine (CN.out _ _).mono ?_
  rintro e u5 ⟨rfl, hu5⟩
  have HB5 := hid (vonto HBW.out hu5)
  have HC5 := hid (vonto HC.out hu5)
  clear hu5
  go_wp2_with fail
  go_at_call 7
  refine (CP.out _ _ _ _ _ _ _ _ _ _ _).mono ?_
  rintro e u6 ⟨rfl, hu6⟩
  have HB6 := hid (vonto HB5.out hu6)
  have HC6 := hid (vonto HC5.out hu6)
  clear hu6
  go_wp2_with fail
  go_at_call 6
  refine (CM.out _ _ _ _).mono ?_
  rintro e u7 ⟨rfl, hu7⟩
  have HX := hid ((hv_m1 u6 ⟨#[120]⟩ (leafT 2 1 ⟨#[]⟩) none none 0 0 0 0 rfl (by decide) (HL.out u6 2 1 _ (by decide) (by decide) (by decide))).onto hu7)
  have HB7 := hid (vonto (valloc_bel HB6.out _) hu7)
  have HC7 := hid (vonto (valloc_bel HC6.out _) hu7)
  clear hu7
  go_wp2_with fail
  go_at_call 8
  refine (CN.out _ _).mono ?_
  rintro e u8 ⟨rfl, hu8⟩
  have HX2 := hid (HX.out.onto hu8)
  have HB8 := hid (vonto HB7.out hu8)
  have HC8 := hid (vonto HC7.out hu8)
  clear hu8
  go_upto_region 5 with fail
  refine tpwp_gen ?_
  intro W2 hW
  obtain ⟨W0, hW0⟩ : ∃ W0, u8.alloc (.cells #[.int .i64 6, .int .i64 0, .string ⟨#[]⟩, .slice none 0 0, .slice (some ⟨u6.heap.size, 0, none⟩) 1 1, .int .i64 2, .int .i64 2, .string ⟨#[]⟩, .slice none 0 0, .slice none 0 0] 27) = W0 := ⟨_, rfl⟩
  have hv0 := hv_l2 (W := W0) u8 kx1 (leafT 2 2 ⟨#[]⟩) none (some ⟨u6.heap.size, 0, none⟩) none none 0 0 1 1 0 0 0 0 hW0.symm HX2.out (HL.out u8 2 2 _ (by decide) (by decide) (by decide))
  have hz0 : W0.heap.size = u8.heap.size + 1 := by rw [← hW0]; simp
  have hb0 : Below w.heap.size w W0 := by rw [← hW0]; exact valloc_bel HB8.out _
  have hc0 : Below W1.heap.size W1 W0 := by rw [← hW0]; exact valloc_bel HC8.out _
  rw [hW0] at hW
  rw [← hz0]
  obtain ⟨k0, k1, k2, k3, k4, hbW⟩ := rpbox_of hW
  have HMV := hid (hv0.onto hbW)
  have HBW2 := hid (vonto hb0 hbW)
  have hcW := vonto hc0 hbW
  have g0 := keepCell hcW g0
  have g1 := keepCell hcW g1
  have g2 := keepCell hcW g2
  have g3 := keepCell hcW g3
  have g4 := keepCell hcW g4
  have HLW := hid (HLV.out.onto hcW)
  clear hW hW0 hbW hv0 hb0 hz0 hc0 hcW HX HX2 HLV
  have HD := hid (Below.refl W2.heap.size W2)
  go_wp2_with fail
  go_at_call 7
  refine (CP.out _ _ _ _ _ _ _ _ _ _ _).mono ?_
  rintro e u9 ⟨rfl, hu9⟩
  have HB9 := hid (vonto HBW2.out hu9)
  have HD9 := hid (vonto HD.out hu9)
  clear hu9
  have HVt := hid (HLW.out.onto HD9.out)
  go_wp2_with fail
  go_at_call 6
  refine (CM.out _ _ _ _).mono ?_
  rintro e u10 ⟨rfl, hu10⟩
  have HVm := hid ((hv_m1 u9 ⟨#[108]⟩ (l2T kx1 (leafT 6 0 ⟨#[]⟩)) (some ⟨u4.heap.size, 0, none⟩) none 2 2 0 0 rfl (by decide) HVt.out).onto hu10)
  have HB10 := hid (vonto (valloc_bel HB9.out _) hu10)
  have HD10 := hid (vonto (valloc_bel HD9.out _) hu10)
  clear hu10
  clear HVt
  have CU := hid (PR.out (m1T ⟨#[108]⟩ (l2T kx1 (leafT 6 0 ⟨#[]⟩))) _ _ u10 HB10.out HVm.out)
  rw [tk1] at CU
  go_wp2_with fail
  go_at_call 9
  refine CU.out.mono ?_
  rintro e u11 ⟨rfl, hu11⟩
  have HB11 := hid (vonto HB10.out hu11)
  have HD11 := hid (vonto HD10.out hu11)
  clear hu11 CU
  clear HVm
  have k0 := keepCell HD11.out k0
  have k1 := keepCell HD11.out k1
  have k2 := keepCell HD11.out k2
  have k3 := keepCell HD11.out k3
  have k4 := keepCell HD11.out k4
  go_wp2_with fail
  go_at_call 7
  refine (CP.out _ _ _ _ _ _ _ _ _ _ _).mono ?_
  rintro e u12 ⟨rfl, hu12⟩
  have HB12 := hid (vonto HB11.out hu12)
  have HD12 := hid (vonto HD11.out hu12)
  clear hu12
  have HVt := hid (HMV.out.onto HD12.out)
  go_wp2_with fail
  go_at_call 6
  refine (CM.out _ _ _ _).mono ?_
  rintro e u13 ⟨rfl, hu13⟩
  have HVm := hid ((hv_m1 u12 ⟨#[109]⟩ (l2T kx1 (leafT 2 2 ⟨#[]⟩)) (some ⟨u8.heap.size, 0, none⟩) none 2 2 0 0 rfl (by decide) HVt.out).onto hu13)
  have HB13 := hid (vonto (valloc_bel HB12.out _) hu13)
  have HD13 := hid (vonto (valloc_bel HD12.out _) hu13)
  clear hu13
  clear HVt
  have CU := hid (PR.out (m1T ⟨#[109]⟩ (l2T kx1 (leafT 2 2 ⟨#[]⟩))) _ _ u13 HB13.out HVm.out)
  rw [tk2] at CU
  go_wp2_with fail
  go_at_call 9
  refine CU.out.mono ?_
  rintro e u14 ⟨rfl, hu14⟩
  have HB14 := hid (vonto HB13.out hu14)
  have HD14 := hid (vonto HD13.out hu14)
  clear hu14 CU
  clear HVm k0 k1 k2 k3 k4 g0 g1 g2 g3 g4
  go_wp2_with fail
  go_at_call 8
  refine (CN.out _ _).mono ?_
  rintro e u15 ⟨rfl, hu15⟩
  have HB15 := hid (vonto HB14.out hu15)
  have HD15 := hid (vonto HD14.out hu15)
  clear hu15
  have CU := hid (MY.out (leafT 2 1 ⟨#[]⟩) _ _ u15 HB15.out (HL.out _ 2 1 _ (by decide) (by decide) (by decide)))
  rw [tk3] at CU
  go_wp2_with fail
  go_at_call 10
  refine CU.out.mono ?_
  rintro e u16 ⟨rfl, hu16⟩
  have HB16 := hid (vonto HB15.out hu16)
  have HD16 := hid (vonto HD15.out hu16)
  clear hu16 CU
  go_wp2_with fail
  go_at_call 7
  refine (CP.out _ _ _ _ _ _ _ _ _ _ _).mono ?_
  rintro e u17 ⟨rfl, hu17⟩
  have HB17 := hid (vonto HB16.out hu17)
  have HD17 := hid (vonto HD16.out hu17)
  clear hu17
  have HVt := hid (HL.out u17 0 0 ⟨#[]⟩ (by decide) (by decide) (by decide))
  go_wp2_with fail
  go_at_call 6
  refine (CM.out _ _ _ _).mono ?_
  rintro e u18 ⟨rfl, hu18⟩
  have HVm := hid ((hv_m1 u17 ⟨#[97]⟩ (leafT 0 0 ⟨#[]⟩) none none 0 0 0 0 rfl (by decide) HVt.out).onto hu18)
  have HB18 := hid (vonto (valloc_bel HB17.out _) hu18)
  have HD18 := hid (vonto (valloc_bel HD17.out _) hu18)
  clear hu18
  clear HVt
  have CU := hid (MY.out (m1T ⟨#[97]⟩ (leafT 0 0 ⟨#[]⟩)) _ _ u18 HB18.out HVm.out)
  rw [tk4] at CU
  go_wp2_with fail
  go_at_call 10
  refine CU.out.mono ?_
  rintro e u19 ⟨rfl, hu19⟩
  have HB19 := hid (vonto HB18.out hu19)
  have HD19 := hid (vonto HD18.out hu19)
  clear hu19 CU
  clear HVm
  go_wp2_with fail
  go_at_call 7
  refine (CP.out _ _ _ _ _ _ _ _ _ _ _).mono ?_
  rintro e u20 ⟨rfl, hu20⟩
  have HB20 := hid (vonto HB19.out hu20)
  have HD20 := hid (vonto HD19.out hu20)
  clear hu20
  have HVt := hid (HL.out u20 0 0 ⟨#[]⟩ (by decide) (by decide) (by decide))
  go_wp2_with fail
  go_at_call 6
  refine (CM.out _ _ _ _).mono ?_
  rintro e u21 ⟨rfl, hu21⟩
  have HVm := hid ((hv_m1 u20 ⟨#[97]⟩ (leafT 0 0 ⟨#[]⟩) none none 0 0 0 0 rfl (by decide) HVt.out).onto hu21)
  have HB21 := hid (vonto (valloc_bel HB20.out _) hu21)
  have HD21 := hid (vonto (valloc_bel HD20.out _) hu21)
  clear hu21
  clear HVt
  have CU := hid (PR.out (m1T ⟨#[97]⟩ (leafT 0 0 ⟨#[]⟩)) _ _ u21 HB21.out HVm.out)
  rw [tk5] at CU
  go_wp2_with fail
  go_at_call 9
  refine CU.out.mono ?_
  rintro e u22 ⟨rfl, hu22⟩
  have HB22 := hid (vonto HB21.out hu22)
  have HD22 := hid (vonto HD21.out hu22)
  clear hu22 CU
  clear HVm
  go_wp2_with fail
  go_at_call 7
  refine (CP.out _ _ _ _ _ _ _ _ _ _ _).mono ?_
  rintro e u23 ⟨rfl, hu23⟩
  have HB23 := hid (vonto HB22.out hu23)
  have HD23 := hid (vonto HD22.out hu23)
  clear hu23
  have HVt := hid (HL.out u23 3 0 kbig (by decide) (by decide) (by decide))
  go_wp2_with fail
  go_at_call 6
  refine (CM.out _ _ _ _).mono ?_
  rintro e u24 ⟨rfl, hu24⟩
  have HVm := hid ((hv_m1 u23 ⟨#[97]⟩ (leafT 3 0 kbig) none none 0 0 0 0 rfl (by decide) HVt.out).onto hu24)
  have HB24 := hid (vonto (valloc_bel HB23.out _) hu24)
  have HD24 := hid (vonto (valloc_bel HD23.out _) hu24)
  clear hu24
  clear HVt
  have CU := hid (MY.out (m1T ⟨#[97]⟩ (leafT 3 0 kbig)) _ _ u24 HB24.out HVm.out)
  rw [tk6] at CU
  go_wp2_with fail
  go_at_call 10
  refine CU.out.mono ?_
  rintro e u25 ⟨rfl, hu25⟩
  have HB25 := hid (vonto HB24.out hu25)
  have HD25 := hid (vonto HD24.out hu25)
  clear hu25 CU
  clear HVm
  go_wp2_with fail
  go_at_call 6
  refine (CM.out _ _ _ _).mono ?_
  rintro e u26 ⟨rfl, hu26⟩
  have HB26 := hid (vonto HB25.out hu26)
  have HD26 := hid (vonto HD25.out hu26)
  clear hu26
  have CU := hid (PR.out (leafT 6 0 ⟨#[]⟩) _ _ u26 HB26.out (HL.out _ 6 0 _ (by decide) (by decide) (by decide)))
  rw [tk7] at CU
  go_wp2_with fail
  go_at_call 9
  refine CU.out.mono ?_
  rintro e u27 ⟨rfl, hu27⟩
  have HB27 := hid (vonto HB26.out hu27)
  have HD27 := hid (vonto HD26.out hu27)
  clear hu27 CU
  go_wp2_with fail
  go_ret
  exact ⟨rfl, HB27.out⟩
theorem glob12k {W : World} (h : laidMetH Tryz.prog Rows.tprintKnownRow.laid W) (hsh : W.ShapedOpen Tryz.prog) : GlobT12 W := glob12_gen h hsh (by kernel_rfl) (by kernel_rfl) (by kernel_rfl) (by kernel_rfl)
end Go.Proofs.YtiaepihdfbahaaaGreatDoor
