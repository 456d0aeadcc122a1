import Derived.Test.YteimbjamnfkapaaGreatDoorLLoL
/- loss: Name; Common of a null. -/
namespace Go.Proofs.YteimbjamnfkapaaGreatDoor
open Go.RowKit
def nmF (k : Int) : ByteArray := if k = 1 then ⟨#[115,116,97,109,112]⟩ else if k = 2 then ⟨#[119,114,97,112,112,101,100]⟩ else if k = 3 then ⟨#[100,114,111,112,112,101,100]⟩ else if k = 4 then ⟨#[110,117,108,108]⟩ else if k = 5 then ⟨#[112,111,105,110,116]⟩ else if k = 6 then ⟨#[108,111,110,103]⟩ else if k = 7 then ⟨#[108,105,115,116,101,100]⟩ else if k = 8 then ⟨#[101,109,112,116,121]⟩ else ⟨#[]⟩
set_option maxRecDepth 100000 in
set_option maxHeartbeats 2000000 in
theorem lname_any (k : Int) (w : World) : Calls Tryz.prog 29 #[.int .i64 k] w fun e w' => e = .returned (.string (nmF k)) ∧ w' = w := by
 unfold nmF
 by_cases h1 : k = 1
 ·subst h1
  rw [if_pos rfl]
  go_enter Tryz.func29,Tryz.ntmps29
  go_wp2_with fail
  go_ret
  exact ⟨rfl,rfl⟩
 rw [if_neg h1]
 obtain ⟨a1,b1⟩ := ikey k 1 h1
 by_cases h2 : k = 2
 ·subst h2
  rw [if_pos rfl]
  go_enter Tryz.func29,Tryz.ntmps29
  go_wp2_with fail
  go_ret
  exact ⟨rfl,rfl⟩
 rw [if_neg h2]
 obtain ⟨a2,b2⟩ := ikey k 2 h2
 by_cases h3 : k = 3
 ·subst h3
  rw [if_pos rfl]
  go_enter Tryz.func29,Tryz.ntmps29
  go_wp2_with fail
  go_ret
  exact ⟨rfl,rfl⟩
 rw [if_neg h3]
 obtain ⟨a3,b3⟩ := ikey k 3 h3
 by_cases h4 : k = 4
 ·subst h4
  rw [if_pos rfl]
  go_enter Tryz.func29,Tryz.ntmps29
  go_wp2_with fail
  go_ret
  exact ⟨rfl,rfl⟩
 rw [if_neg h4]
 obtain ⟨a4,b4⟩ := ikey k 4 h4
 by_cases h5 : k = 5
 ·subst h5
  rw [if_pos rfl]
  go_enter Tryz.func29,Tryz.ntmps29
  go_wp2_with fail
  go_ret
  exact ⟨rfl,rfl⟩
 rw [if_neg h5]
 obtain ⟨a5,b5⟩ := ikey k 5 h5
 by_cases h6 : k = 6
 ·subst h6
  rw [if_pos rfl]
  go_enter Tryz.func29,Tryz.ntmps29
  go_wp2_with fail
  go_ret
  exact ⟨rfl,rfl⟩
 rw [if_neg h6]
 obtain ⟨a6,b6⟩ := ikey k 6 h6
 by_cases h7 : k = 7
 ·subst h7
  rw [if_pos rfl]
  go_enter Tryz.func29,Tryz.ntmps29
  go_wp2_with fail
  go_ret
  exact ⟨rfl,rfl⟩
 rw [if_neg h7]
 obtain ⟨a7,b7⟩ := ikey k 7 h7
 by_cases h8 : k = 8
 ·subst h8
  rw [if_pos rfl]
  go_enter Tryz.func29,Tryz.ntmps29
  go_wp2_with fail
  go_ret
  exact ⟨rfl,rfl⟩
 rw [if_neg h8]
 obtain ⟨a8,b8⟩ := ikey k 8 h8
 go_enter Tryz.func29,Tryz.ntmps29
 go_wp2_with fail
 go_ret
 exact ⟨rfl,rfl⟩
set_option maxRecDepth 100000 in
theorem lcommon_zero (w : World) : Calls Tryz.prog 31 #[.agg #[.int .i64 0,.int .i64 0,.string ⟨#[]⟩,.slice none 0 0,.slice none 0 0]] w fun e w' => e = .returned (.bool false) ∧ Below w.heap.size w w' := by
 go_enter Tryz.func31,Tryz.ntmps31
 go_wp2_with fail
 go_ret
 exact ⟨rfl,valloc_bel (Below.refl _ _) _⟩
theorem lmay_zero {f : Int} {R : Bool} (h : mayF f zeroT = R) (w : World) (hg : GlobL w) : Calls Tryz.prog 28 #[.int .i64 f,.agg #[.int .i64 0,.int .i64 0,.string ⟨#[]⟩,.slice none 0 0,.slice none 0 0]] w fun e w' => e = .returned (.bool R) ∧ Below w.heap.size w w' := by
 rw [← h]
 exact lmay_any f zeroT _ _ w (hv_zero w) hg
theorem may1_zero : mayF 1 zeroT = true := by kernel_rfl
theorem may0_zero : mayF 0 zeroT = false := by kernel_rfl
def tLn : VT := .mk 5 0 ⟨#[]⟩ [zeroT] [] []
def tLo : VT := wrapT (.mk 5 0 ⟨#[]⟩ [leafT 4 0 nulB] [] [])
theorem ft_ln : ftE 2 tLn = 0 ∧ ftT 2 tLn = tLo ∧ ftN 2 tLn = [([],2),([lpl 0],4)] := ⟨by kernel_rfl,by kernel_rfl,by kernel_rfl⟩
theorem nt_ln : mkS (textP []) = ⟨#[]⟩ ∧ mkS (textP [lpl 0]) = ⟨#[47,48]⟩ := ⟨by kernel_rfl,by kernel_rfl⟩
theorem fit_ln (w : World) (hg : GlobL w) : Calls Tryz.prog 27 #[.int .i64 2,.agg #[.int .i64 5,.int .i64 0,.string ⟨#[]⟩,.slice (some ⟨w.heap.size,0,none⟩) 1 1,.slice none 0 0]] (w.alloc (.cells #[.int .i64 0,.int .i64 0,.string ⟨#[]⟩,.slice none 0 0,.slice none 0 0] 29)) fun e w' => ∃ x y v,e = .returned (.tuple #[vv tLo x y,v,.int .i64 0]) ∧ HV w' tLo x y ∧ InNt w' [([],2),([lpl 0],4)] v ∧ Below w.heap.size w w' := by
 have hb : Below w.heap.size w (w.alloc (.cells #[.int .i64 0,.int .i64 0,.string ⟨#[]⟩,.slice none 0 0,.slice none 0 0] 29)) := valloc_bel (Below.refl _ _) _
 have hcc := new_cells w (vc (zeroT,.slice none 0 0,.slice none 0 0)) 29
 have hT : HV (w.alloc (.cells #[.int .i64 0,.int .i64 0,.string ⟨#[]⟩,.slice none 0 0,.slice none 0 0] 29)) tLn (.slice (some ⟨w.heap.size,0,none⟩) 1 1) (.slice none 0 0) :=
  (hs_of (S := fun _ => True) (T := tLn) ⟨show (Lit.int .i64 5).wf = true by decide,show (Lit.int .i64 0).wf = true by decide,show (⟨#[]⟩ : ByteArray).size ≤ maxLen by decide⟩ (ls_one (fun i u hu => by have := hcc i u hu; rwa [add_at] at this) trivial (hs_leaf _ _ 0 0 ⟨#[]⟩ (by decide) (by decide) (by decide))) (ms_nil _ _)).hv
 refine (lfit_any 2 tLn _ _ _ (hg.on hb) hT).mono ?_
 rintro e w' ⟨x,y,v,rfl,h1,h2,h3⟩
 obtain ⟨q1,q2,q3⟩ := ft_ln
 rw [q2] at h1
 rw [q3] at h2
 exact ⟨x,y,v,by rw [q1,q2],h1,h2,vonto hb h3⟩
set_option maxRecDepth 100000 in
set_option maxHeartbeats 2000000 in
theorem awake18 (w : World) (hg : GlobL w) : Calls Tryz.prog 26 #[] w fun e w' => e = .returned (.bool true) ∧ Below w.heap.size w w' := by
 have HG := hid hg
 clear hg
 go_enter Tryz.func26,Tryz.ntmps26
 go_wp2_with fail
 go_at_call 27
 refine (fit_ln w HG.out).mono ?_
 rintro e w1 ⟨x,y,v,rfl,hv,hn,hb1⟩
 obtain ⟨-,bl,-,-,p,q,oL,oM,cL,cM,rfl,rfl,-,-,-,hM3,-,-,-,-,-,kK,kM,-,rM,-,-⟩ := hv.parts
 obtain rfl := hM3 (show 0 < 1 from Nat.one_pos)
 have k0 := (kK 0 valB rfl).1
 have hn2 := kM 0 (.mk 5 0 ⟨#[]⟩ [leafT 4 0 nulB] [] []) rfl
 obtain ⟨a3,b3,f3,g3,p3,q3,oL3,oM3,cL3,cM3,e3,e4,-,-,hL3,-,-,-,-,-,kL3,-,-,rL3,-,-,-⟩ := (rM 0 (.mk 5 0 ⟨#[]⟩ [leafT 4 0 nulB] [] []) rfl).parts
 rw [e3,e4] at hn2
 obtain rfl := hL3 (show 0 < 1 from Nat.one_pos)
 have hn3 := kL3 0 (leafT 4 0 nulB) rfl
 obtain ⟨-,-,-,l3,-⟩ := hn2
 obtain ⟨-,-,s4,-,-⟩ := hn3
 obtain ⟨na,⟨no,nc,rfl,nh1,nh2,nh3⟩,hnn⟩ := hn
 obtain rfl := nh3 (by decide)
 obtain ⟨n0,n1⟩ := hnn 0 _ rfl
 obtain ⟨n2,n3⟩ := hnn 1 _ rfl
 rw [nt_ln.1] at n0
 rw [nt_ln.2] at n2
 have HB1 := hid hb1
 clear e3 e4 kK kM rM kL3 rL3 hv hM3 hL3 hb1 hnn nh3 nh1 nh2
 rw [Nat.zero_mul,show bl.add 0 = bl by simp [Addr.add]] at k0 l3
 rw [Nat.zero_mul,show a3.add 0 = a3 by simp [Addr.add]] at s4
 rw [Nat.zero_mul,show na.add 0 = na by simp [Addr.add]] at n0 n1
 rw [Nat.one_mul] at n2 n3
 have hbx : Below w1.heap.size w1 (w1.alloc (.cells #[.int .i64 6,.int .i64 0,.string ⟨#[]⟩,.slice oL 0 cL,.slice (some bl) 1 cM] 29)) := valloc_bel (Below.refl _ _) _
 replace l3 : (w1.alloc (.cells #[.int .i64 6,.int .i64 0,.string ⟨#[]⟩,.slice oL 0 cL,.slice (some bl) 1 cM] 29)).cell? ⟨bl.block,bl.off + 1 + 3,none⟩ = some (.slice (some a3) 1 cL3) := keepCell hbx l3
 replace s4 : (w1.alloc (.cells #[.int .i64 6,.int .i64 0,.string ⟨#[]⟩,.slice oL 0 cL,.slice (some bl) 1 cM] 29)).cell? ⟨a3.block,a3.off + 2,none⟩ = some (.string ⟨#[110,117,108,108]⟩) := keepCell hbx s4
 replace k0 : (w1.alloc (.cells #[.int .i64 6,.int .i64 0,.string ⟨#[]⟩,.slice oL 0 cL,.slice (some bl) 1 cM] 29)).cell? bl = some (.string ⟨#[118,97,108,117,101]⟩) := keepCell hbx k0
 replace n0 : (w1.alloc (.cells #[.int .i64 6,.int .i64 0,.string ⟨#[]⟩,.slice oL 0 cL,.slice (some bl) 1 cM] 29)).cell? na = some (.string ⟨#[]⟩) := keepCell hbx n0
 replace n1 : (w1.alloc (.cells #[.int .i64 6,.int .i64 0,.string ⟨#[]⟩,.slice oL 0 cL,.slice (some bl) 1 cM] 29)).cell? ⟨na.block,na.off + 1,none⟩ = some (.int .i64 2) := keepCell hbx n1
 replace n2 : (w1.alloc (.cells #[.int .i64 6,.int .i64 0,.string ⟨#[]⟩,.slice oL 0 cL,.slice (some bl) 1 cM] 29)).cell? ⟨na.block,na.off + 2,none⟩ = some (.string ⟨#[47,48]⟩) := keepCell hbx n2
 replace n3 : (w1.alloc (.cells #[.int .i64 6,.int .i64 0,.string ⟨#[]⟩,.slice oL 0 cL,.slice (some bl) 1 cM] 29)).cell? ⟨na.block,na.off + 2 + 1,none⟩ = some (.int .i64 4) := keepCell hbx n3
 have t0 : (w1.alloc (.cells #[.int .i64 6,.int .i64 0,.string ⟨#[]⟩,.slice oL 0 cL,.slice (some bl) 1 cM] 29)).cell? ⟨w1.heap.size,0,none⟩ = some (.int .i64 6) := by simp
 have t4 : (w1.alloc (.cells #[.int .i64 6,.int .i64 0,.string ⟨#[]⟩,.slice oL 0 cL,.slice (some bl) 1 cM] 29)).cell? ⟨w1.heap.size,4,none⟩ = some (.slice (some bl) 1 cM) := by simp
 have HB2 := hid (vonto HB1.out hbx)
 clear hbx HB1
 simp only [vv,tLo,wrapT,VT.kd,VT.nm,VT.st,VT.vs,VT.ls,List.length_cons,List.length_nil,Nat.zero_add]
 go_wp2_with fail
 go_at_call 28
 refine (lmay_zero may1_zero _ (HG.out.on HB2.out)).mono ?_
 rintro e w2 ⟨rfl,hb2⟩
 have HB3 := hid (vonto HB2.out hb2)
 clear hb2 k0 l3 s4 n0 n1 n2 n3 t0 t4 HB2
 go_wp2_with fail
 go_at_call 29
 refine (lname_any 4 w2).mono ?_
 rintro e w3 ⟨rfl,rfl⟩
 rw [show nmF 4 = ⟨#[110,117,108,108]⟩ from rfl]
 go_wp2_with fail
 go_at_call 31
 refine (lcommon_zero _).mono ?_
 rintro e w4 ⟨rfl,hb4⟩
 have HB4 := hid (vonto HB3.out hb4)
 go_wp2_with fail
 go_ret
 exact ⟨rfl,HB4.out⟩
end Go.Proofs.YteimbjamnfkapaaGreatDoor
/- LossKnown, walked. -/
namespace Go.Proofs.YteimbjamnfkapaaGreatDoor
open Go.RowKit
theorem fit_leaf {f k : Int} {U : VT} {E : List LN} {r : Int} (hk : (Lit.int .i64 k).wf = true) (h1 : ftE f (leafT k 0 ⟨#[]⟩) = r) (h2 : ftT f (leafT k 0 ⟨#[]⟩) = U) (h3 : ftN f (leafT k 0 ⟨#[]⟩) = E) (w : World) (hg : GlobL w) :
  Calls Tryz.prog 27 #[.int .i64 f,.agg #[.int .i64 k,.int .i64 0,.string ⟨#[]⟩,.slice none 0 0,.slice none 0 0]] w fun e w' => ∃ x y v,e = .returned (.tuple #[vv U x y,v,.int .i64 r]) ∧ HV w' U x y ∧ InNt w' E v ∧ Below w.heap.size w w' := by
 subst h1 h2 h3
 exact lfit_any f (leafT k 0 ⟨#[]⟩) (.slice none 0 0) (.slice none 0 0) w hg (hs_leaf w (fun _ => True) k 0 ⟨#[]⟩ hk (by decide) (by decide)).hv
def tK3 : VT := .mk 5 0 ⟨#[]⟩ [wrapT zeroT] [] []
set_option maxRecDepth 100000 in
set_option maxHeartbeats 2000000 in
theorem Tryz.lossKnown_walk (w : World) (hg : GlobL w) : Calls Tryz.prog 8 #[] w fun e w' => e = .returned (.bool true) ∧ Below w.heap.size w w' := by
 have HG := hid hg
 have HA := hid (awake18 w hg)
 clear hg
 go_enter Tryz.func8,Tryz.ntmps8
 go_wp2_with fail
 go_at_call 26
 refine HA.out.mono ?_
 rintro e w0 ⟨rfl,hb0⟩
 have HB0 := hid hb0
 clear hb0 HA
 go_wp2_with fail
 go_at_call 27
 refine (fit_leaf (f := 4) (k := 0) (U := zeroT) (E := []) (r := 1) (by decide) (by kernel_rfl) (by kernel_rfl) (by kernel_rfl) w0 (HG.out.on HB0.out)).mono ?_
 rintro e w1 ⟨x,y,v,rfl,hv,hn,hb1⟩
 obtain ⟨ox,nx1,cx,oy,ny1,cy,rfl,rfl⟩ := hv_slices hv
 obtain ⟨-,⟨no,nc,rfl,-,-,-⟩,-⟩ := hn
 have HB1 := hid (vonto HB0.out hb1)
 clear hb1 hv HB0
 simp only [vv,zeroT,VT.kd,VT.nm,VT.st]
 go_upto_region 4 with fail
 refine cewp_gen ?_
 intro W1 hW
 have hbW : Below w1.heap.size w1 W1 := by rw [hW]; exact valloc_bel (Below.refl _ _) _
 have HBW := hid (vonto HB1.out hbW)
 clear hW hbW HB1
 go_wp2_with fail
 go_at_call 27
 refine (fit_leaf (f := 1) (k := 9) (U := zeroT) (E := []) (r := 1) (by decide) (by kernel_rfl) (by kernel_rfl) (by kernel_rfl) W1 (HG.out.on HBW.out)).mono ?_
 rintro e w2 ⟨x,y,v,rfl,hv,hn,hb2⟩
 obtain ⟨ox2,nx2,cx2,oy2,ny2,cy2,rfl,rfl⟩ := hv_slices hv
 obtain ⟨-,⟨no2,nc2,rfl,-,-,-⟩,-⟩ := hn
 have HB2 := hid (vonto HBW.out hb2)
 clear hb2 hv HBW
 simp only [vv,zeroT,VT.kd,VT.nm,VT.st]
 go_upto_region 5 with fail
 refine cewp_gen ?_
 intro W2 hW
 have hbW : Below w2.heap.size w2 W2 := by rw [hW]; exact valloc_bel (Below.refl _ _) _
 have HBW := hid (vonto HB2.out hbW)
 clear hW hbW HB2
 go_wp2_with fail
 go_at_call 27
 refine (fit_leaf (f := 3) (k := 5) (U := tK3) (E := [([],7),([],8)]) (r := 0) (by decide) (by kernel_rfl) (by kernel_rfl) (by kernel_rfl) W2 (HG.out.on HBW.out)).mono ?_
 rintro e w3 ⟨x,y,v,rfl,hv,hn,hb3⟩
 obtain ⟨-,-,-,-,-,-,oL,oM,cL,cM,rfl,rfl,-⟩ := hv.parts
 obtain ⟨na,⟨no3,nc3,rfl,-,-,nh3⟩,hnn⟩ := hn
 obtain rfl := nh3 (by decide)
 have n1 := (hnn 0 _ rfl).2
 have n3 := (hnn 1 _ rfl).2
 have HB3 := hid (vonto HBW.out hb3)
 clear hb3 hv HBW hnn nh3
 rw [Nat.zero_mul,show na.add 0 = na by simp [Addr.add]] at n1
 rw [Nat.one_mul] at n3
 simp only [vv,tK3,VT.kd,VT.nm,VT.st,VT.ls,VT.vs,List.length_cons,List.length_nil,Nat.zero_add]
 go_upto_region 6 with fail
 refine cewp_gen ?_
 intro W3 hW
 have hbW : Below w3.heap.size w3 W3 := by rw [hW]; exact valloc_bel (Below.refl _ _) _
 have t3 : W3.cell? ⟨w3.heap.size,3,none⟩ = some (.slice oL 1 cL) := by rw [hW]; simp
 have n1 := keepCell hbW n1
 have n3 := keepCell hbW n3
 have HBW := hid (vonto HB3.out hbW)
 clear hW hbW HB3
 go_wp2_with fail
 go_at_call 27
 refine (fit_leaf (f := 2) (k := 0) (U := emT) (E := [([],2),([],3)]) (r := 0) (by decide) (by kernel_rfl) (by kernel_rfl) (by kernel_rfl) W3 (HG.out.on HBW.out)).mono ?_
 rintro e w4 ⟨x,y,v,rfl,hv,hn,hb4⟩
 obtain ⟨-,-,-,-,-,-,oL4,oM4,cL4,cM4,rfl,rfl,-⟩ := hv.parts
 obtain ⟨nb,⟨no4,nc4,rfl,-,-,nh4⟩,hnn⟩ := hn
 obtain rfl := nh4 (by decide)
 have m3 := (hnn 1 _ rfl).2
 have t3 := keepCell hb4 t3
 have n1 := keepCell hb4 n1
 have n3 := keepCell hb4 n3
 have HB4 := hid (vonto HBW.out hb4)
 clear hb4 hv HBW hnn nh4
 rw [Nat.one_mul] at m3
 simp only [vv,emT,VT.kd,VT.nm,VT.st,VT.ls,VT.vs,List.length_cons,List.length_nil,Nat.zero_add]
 have hbx : Below w4.heap.size w4 (w4.alloc (.cells #[.int .i64 6,.int .i64 0,.string ⟨#[]⟩,.slice oL4 0 cL4,.slice oM4 0 cM4] 29)) := valloc_bel (Below.refl _ _) _
 have t3 : (w4.alloc (.cells #[.int .i64 6,.int .i64 0,.string ⟨#[]⟩,.slice oL4 0 cL4,.slice oM4 0 cM4] 29)).cell? ⟨w3.heap.size,3,none⟩ = some (.slice oL 1 cL) := keepCell hbx t3
 have n1 : (w4.alloc (.cells #[.int .i64 6,.int .i64 0,.string ⟨#[]⟩,.slice oL4 0 cL4,.slice oM4 0 cM4] 29)).cell? ⟨na.block,na.off + 1,none⟩ = some (.int .i64 7) := keepCell hbx n1
 have n3 : (w4.alloc (.cells #[.int .i64 6,.int .i64 0,.string ⟨#[]⟩,.slice oL4 0 cL4,.slice oM4 0 cM4] 29)).cell? ⟨na.block,na.off + 2 + 1,none⟩ = some (.int .i64 8) := keepCell hbx n3
 have m3 : (w4.alloc (.cells #[.int .i64 6,.int .i64 0,.string ⟨#[]⟩,.slice oL4 0 cL4,.slice oM4 0 cM4] 29)).cell? ⟨nb.block,nb.off + 2 + 1,none⟩ = some (.int .i64 3) := keepCell hbx m3
 have t4 : (w4.alloc (.cells #[.int .i64 6,.int .i64 0,.string ⟨#[]⟩,.slice oL4 0 cL4,.slice oM4 0 cM4] 29)).cell? ⟨w4.heap.size,4,none⟩ = some (.slice oM4 0 cM4) := by simp
 have HB5 := hid (vonto HB4.out hbx)
 clear hbx HB4
 go_wp2_with fail
 go_at_call 28
 refine (lmay_zero may0_zero _ (HG.out.on HB5.out)).mono ?_
 rintro e w5 ⟨rfl,hb5⟩
 have HB6 := hid (vonto HB5.out hb5)
 clear hb5 t3 n1 n3 m3 t4 HB5
 go_wp2_with fail
 go_at_call 29
 refine (lname_any 9 w5).mono ?_
 rintro e w6 ⟨rfl,rfl⟩
 rw [show nmF 9 = ⟨#[]⟩ from rfl]
 go_wp2_with fail
 go_ret
 exact ⟨rfl,HB6.out⟩
end Go.Proofs.YteimbjamnfkapaaGreatDoor
