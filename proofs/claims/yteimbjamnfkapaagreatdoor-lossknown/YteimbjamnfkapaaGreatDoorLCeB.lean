/- The library's table of powers, and a number's digits written by it. -/
import Derived.Test.YteimbjamnfkapaaGreatDoorLDecOne
import Derived.Test.YteimbjamnfkapaaGreatDoorLMathDecAll
import Derived.Lib.AppendIntMem
import Derived.Test.YteimbjamnfkapaaGreatDoorLVSameT
import Derived.Test.YteimbjamnfkapaaGreatDoorLCeA
import Derived.Test.YteimbjamnfkapaaGreatDoorLMathFd
/- Plain mathematics: trees that are alike, strictly, are one. -/
/- Package cell, walked: writeString, write, Text. -/
namespace Go.Proofs.YteimbjamnfkapaaGreatDoor
open Go.RowKit
def GlobW (w : World) : Prop := Lib.TabIs Tryz.prog w "internal/strconv.uint64pow10" .u64 Lib.pow10Tab
theorem GlobW.on {w w' : World} (h : GlobW w) (hb : Below w.heap.size w w') : GlobW w' := var_on hb h
theorem wformat_any (n : Int) (w : World) (hg : GlobW w) (h : -9223372036854775808 ≤ n ∧ n < 9223372036854775808) :
  Calls Tryz.prog 261 #[.int .i64 n,.int .i64 10] w fun e w' => e = .returned (.string (mkS (txt n))) ∧ Below w.heap.size w w' := by
 refine (Tryz.strconv_FormatInt_10 n h.1 (by omega) w hg).mono ?_
 rintro e w' ⟨rfl,k,os,rfl⟩
 exact ⟨by rw [itoa_txt]; rfl,Lib.below_grow _ _ (Nat.le_refl _) _ _⟩
set_option maxRecDepth 100000 in
set_option maxHeartbeats 400000 in
theorem wtext_any (n : Int) (w : World) (hg : GlobW w) (h : -9223372036854775808 ≤ n ∧ n < 9223372036854775808) :
  Calls Tryz.prog 219 #[.int .i64 n] w fun e w' => e = .returned (.string (mkS (txt n))) ∧ Below w.heap.size w w' := by
 have ft := wformat_any n w hg h
 go_enter Tryz.func219,Tryz.ntmps219
 go_wp2_with (go_at_call 261; go_must (refine ft.mono ?_; rintro e w' ⟨rfl,hb⟩))
 go_ret
 exact ⟨rfl,hb⟩
mutual
theorem same_eq : ∀ T U : VT,sameT false T U = true → T = U
 | .mk k n s L K V,.mk k' n' s' L' K' V',h => by
  rw [sameT,Bool.and_eq_true,Bool.and_eq_true,Bool.and_eq_true,Bool.and_eq_true] at h
  obtain ⟨⟨⟨⟨h0,h5⟩,h6⟩,h7⟩,h8⟩ := h
  obtain ⟨h1,h2,h3,h4⟩ := of_decide_eq_true h0
  have h7 : K = K' := of_decide_eq_true h7
  have h1 : k = k' := h1
  have h2 : n = n' := h2
  have h5 : strB false k s s' = true := h5
  unfold strB at h5
  simp at h5
  rw [h1,h2,h5,h7,sameL_eq L L' h3 h6,sameL_eq V V' h4 h8]
theorem sameL_eq : ∀ L M : List VT,L.length = M.length → sameL false L M = true → L = M
 | [],[],_,_ => rfl
 | [],_ :: _,h,_ => by simp at h
 | _ :: _,[],h,_ => by simp at h
 | t :: r,u :: q,h,g => by
  rw [sameL,Bool.and_eq_true] at g
  rw [same_eq t u g.1,sameL_eq r q (by simpa using h) g.2]
end
mutual
theorem eq_same : ∀ T : VT,sameT false T T = true
 | .mk k n s L K V => by
  have h1 := eqL_same L
  have h2 := eqL_same V
  simp [sameT,strB,VT.kd,VT.nm,VT.st,VT.ls,VT.ks,VT.vs,h1,h2]
theorem eqL_same : ∀ L : List VT,sameL false L L = true
 | [] => by rw [sameL]
 | t :: r => by rw [sameL,eq_same t,eqL_same r]; rfl
end
theorem same_no {T U : VT} (h : ¬ T = U) : sameT false T U = false := by
 cases e : sameT false T U with
 | true => exact absurd (same_eq T U e) h
 | false => rfl
theorem teI_size {s : ByteArray} (h : teI s = 0) : s.size ≤ 4096 := by
 unfold teI at h
 split at h
 ·split at h
  ·omega
  ·omega
 ·omega
theorem ce_app (a b : List UInt8) : mkS a ++ mkS b = mkS (a ++ b) := by
 rw [mkS_of (mkS a ++ mkS b) (a ++ b) (by simp [mkS_list])]
def GlobC5 (w : World) : Prop := Glob w ∧ GlobW w
theorem GlobC5.on {w w' : World} (h : GlobC5 w) (hb : Below w.heap.size w w') : GlobC5 w' := ⟨h.1.on hb,h.2.on hb⟩
set_option maxRecDepth 100000 in
set_option maxHeartbeats 4000000 in
theorem cewstr_any (s : ByteArray) (pX pY : Option Addr) (nX cX nY cY : Nat) (w : World) (hg : Glob w) (hs : teI s = 0) (hT : HV w (leafT 4 0 s) (.slice pX nX cX) (.slice pY nY cY)) :
  Calls Tryz.prog 220 #[.agg #[.int .i64 4,.int .i64 0,.string s,.slice pX nX cX,.slice pY nY cY]] w fun e w' => e = .returned (.string (mkS (cstL s.data.toList))) ∧ Below w.heap.size w w' := by
 have hz := teI_size hs
 have hms : mkS s.data.toList = s := (mkS_of s _ rfl).symm
 have CV := hid (fun X (hX : Below w.heap.size w X) => cevalue_any s X (hg.on hX) (by omega))
 have CS : Hid (∀ (T : VT) (x y : Value) X (h : HV X T x y),Calls Tryz.prog 262 #[vv T x y,.agg #[.int .i64 4,.int .i64 0,.string s,.slice pX nX cX,.slice pY nY cY]] X fun e w' => e = .returned (.bool (sameT false T (leafT 4 0 s))) ∧ Below X.heap.size X w') := hid (fun (T : VT) (x y : Value) X (h : HV X T x y) => vsame_any T (leafT 4 0 s) x y (.slice pX nX cX) (.slice pY nY cY) X h (hv_free hT))
 have HPL := hid (fun h : cplB s.data.toList = true => cel_plain h)
 have HNO := hid (fun h : cplB s.data.toList = false => cel_not h)
 rw [hms] at HPL HNO
 have HST := hid (str_r hs)
 have HR : Hid (mkS (cstL s.data.toList) = if cplB s.data.toList = true then s else (⟨#[39]⟩ : ByteArray) ++ s) := hid (by
  unfold cstL
  split
  ·exact hms
  ·rw [show (⟨#[39]⟩ : ByteArray) = mkS [39] from rfl]
   conv => rhs; rw [← hms]
   rw [ce_app]; rfl)
 obtain ⟨R,hR⟩ : ∃ R,mkS (cstL s.data.toList) = R := ⟨_,rfl⟩
 rw [hR] at HR ⊢
 generalize cplB s.data.toList = pl at HPL HNO HR
 generalize celT s.data.toList = cr at CV HPL HNO
 obtain ⟨T,er⟩ := cr
 have HTE := hid hs
 have CB := hid (fun X (hX : X = w.alloc (.cells #[.int .i64 4,.int .i64 0,.string s,.slice pX nX cX,.slice pY nY cY] 29)) => cebox_of hX)
 obtain ⟨tk,tn,ts,h1,h2,h3⟩ : ∃ k n t,T.kd = k ∧ T.nm = n ∧ T.st = t := ⟨_,_,_,rfl,rfl,rfl⟩
 simp only [vv] at CV CS
 rw [h1,h2,h3] at CV
 have HTK := hid (show T.kd = tk ∧ T.nm = tn ∧ T.st = ts from ⟨h1,h2,h3⟩)
 clear hR hg hms hs h1 h2 h3 hT
 go_enter Tryz.func220,Tryz.ntmps220
 go_upto_region 1 with fail
 refine cewp_gen ?_
 intro W0 hW0
 obtain ⟨v0,v1,v2,v3,v4,hb0⟩ := CB.out W0 hW0
 have HB0 := hid hb0
 clear hW0 CB hb0
 go_wp2_with fail
 go_at_call 81
 refine (CV.out _ HB0.out).mono ?_
 rintro e w1 ⟨x,y,rfl,hx,hb1⟩
 obtain ⟨o1,n1,c1,o2,n2,c2,rfl,rfl⟩ := hv_slices hx
 have HX := hid hx
 have HB1 := hid (vonto HB0.out hb1)
 have v0 := keepCell hb1 v0
 have v1 := keepCell hb1 v1
 have v2 := keepCell hb1 v2
 have v3 := keepCell hb1 v3
 have v4 := keepCell hb1 v4
 clear hb1 hx CV
 go_upto_region 2 with fail
 refine cewp_gen ?_
 intro W hW
 obtain ⟨g0,g1,g2,g3,g4,hbW⟩ := cebox_of hW
 have v0 := keepCell hbW v0
 have v1 := keepCell hbW v1
 have v2 := keepCell hbW v2
 have v3 := keepCell hbW v3
 have v4 := keepCell hbW v4
 have HBW := hid (vonto HB1.out hbW)
 have HXW := hid (HX.out.onto hbW)
 clear hW hbW HX
 by_cases her : er = 0
 ·have er1 : (er != 0) = false := by simpa using her
  have CS1 := hid (CS.out T _ _ W HXW.out)
  rw [HTK.out.1,HTK.out.2.1,HTK.out.2.2] at CS1
  by_cases hT : T = leafT 4 0 s
  ·have hpl : pl = true := by
    cases pl with
    | true => rfl
    | false => exact absurd ⟨her,hT⟩ (HNO.out rfl)
   subst hpl
   have HRR : Hid (R = ts) := hid (by rw [HR.out,← HTK.out.2.2,hT]; rfl)
   have hsm : sameT false T (leafT 4 0 s) = true := by rw [hT]; exact eq_same _
   rw [hsm] at CS1
   clear hsm HPL HNO CS HR her hT
   go_wp2_with fail
   go_at_call 262
   refine CS1.out.mono ?_
   rintro e w2 ⟨rfl,hb2⟩
   have g2 := keepCell hb2 g2
   have HB2 := hid (vonto HBW.out hb2)
   clear hb2 CS1
   go_wp2_with fail
   go_ret
   exact ⟨by rw [HRR.out]; rfl,HB2.out⟩
  ·have hpl : pl = false := by
    cases pl with
    | false => rfl
    | true =>
     have h := HPL.out rfl
     rw [HST.out] at h
     exact absurd (congrArg Prod.fst h) hT
   subst hpl
   have HRR : Hid (R = (⟨#[39]⟩ : ByteArray) ++ s) := hid (by rw [HR.out]; rfl)
   rw [same_no hT] at CS1
   clear hT HPL HNO CS HR her
   go_wp2_with fail
   go_at_call 262
   refine CS1.out.mono ?_
   rintro e w2 ⟨rfl,hb2⟩
   have v2 := keepCell hb2 v2
   have HB2 := hid (vonto HBW.out hb2)
   clear hb2 CS1
   go_wp2_with fail
   go_ret
   exact ⟨by rw [HRR.out]; rfl,HB2.out⟩
 ·have er1 : (er != 0) = true := by simpa using her
  have hpl : pl = false := by
   cases pl with
   | false => rfl
   | true =>
    have h := HPL.out rfl
    rw [HTE.out] at h
    exact absurd (congrArg Prod.snd h) her
  subst hpl
  have HRR : Hid (R = (⟨#[39]⟩ : ByteArray) ++ s) := hid (by rw [HR.out]; rfl)
  clear HPL HNO CS HR her
  go_wp2_with fail
  go_ret
  exact ⟨by rw [HRR.out]; rfl,HBW.out⟩
set_option maxRecDepth 100000 in
set_option maxHeartbeats 4000000 in
theorem cewrite_any (k n : Int) (s : ByteArray) (w : World) (hg : GlobC5 w) (hn : -9223372036854775808 ≤ n ∧ n < 9223372036854775808) (hm : nodeB (leafT k n s) = true) (x y : Value) (hT : HV w (leafT k n s) x y) :
  Calls Tryz.prog 161 #[vv (leafT k n s) x y] w fun e w' => e = .returned (.string (mkS (celS k n s))) ∧ Below w.heap.size w w' := by
 have CT := hid (fun X (hX : Below w.heap.size w X) => wtext_any n X (hg.2.on hX) hn)
 have CC : Hid (k = 3 → numB s.data.toList = true → ∀ X,Calls Tryz.prog 138 #[.string s] X fun e w' => e = .returned (.string s) ∧ Below X.heap.size X w') := hid (fun _ h X => ceclone_any s X (by
  unfold numB at h
  simp only [Bool.and_eq_true,decide_eq_true_eq] at h
  have := h.2
  have := size_list s
  omega))
 obtain ⟨o1,n1,c1,o2,n2,c2,rfl,rfl⟩ := hv_slices hT
 have CB := hid (fun X (hX : X = w.alloc (.cells #[.int .i64 k,.int .i64 n,.string s,.slice o1 n1 c1,.slice o2 n2 c2] 29)) => cebox_of hX)
 have CW : Hid (k = 4 → n = 0 → teI s = 0 → ∀ X,Below w.heap.size w X → Calls Tryz.prog 220 #[.agg #[.int .i64 4,.int .i64 0,.string s,.slice o1 n1 c1,.slice o2 n2 c2]] X fun e w' => e = .returned (.string (mkS (cstL s.data.toList))) ∧ Below X.heap.size X w') := hid (fun h4 h0 ht X hX => by
  subst h4 h0
  exact cewstr_any s o1 o2 n1 c1 n2 c2 X (hg.1.on hX) ht (hv_free hT))
 change Calls _ _ #[.agg #[.int .i64 k,.int .i64 n,.string s,.slice o1 n1 c1,.slice o2 n2 c2]] _ _
 unfold nodeB nodeC at hm
 simp only [leafT,VT.kd,VT.nm,VT.st,VT.ls,VT.ks,VT.vs] at hm
 have HG := hid hg
 clear hg hT
 by_cases k1 : k = 1
 ·subst k1
  simp at hm
  obtain ⟨h3,h4⟩ := hm
  rcases h3 with rfl | rfl
  ·go_enter Tryz.func161,Tryz.ntmps161
   go_upto_region 1 with fail
   refine cewp_gen ?_
   intro W hW
   obtain ⟨g0,g1,g2,g3,g4,hbW⟩ := CB.out W hW
   have HBW := hid hbW
   clear hW hbW CB
   go_wp2_with fail
   go_ret
   exact ⟨ret_str (by rfl),HBW.out⟩
  ·go_enter Tryz.func161,Tryz.ntmps161
   go_upto_region 1 with fail
   refine cewp_gen ?_
   intro W hW
   obtain ⟨g0,g1,g2,g3,g4,hbW⟩ := CB.out W hW
   have HBW := hid hbW
   clear hW hbW CB
   go_wp2_with fail
   go_ret
   exact ⟨ret_str (by rfl),HBW.out⟩
 by_cases k2 : k = 2
 ·subst k2
  go_enter Tryz.func161,Tryz.ntmps161
  go_upto_region 1 with fail
  refine cewp_gen ?_
  intro W hW
  obtain ⟨g0,g1,g2,g3,g4,hbW⟩ := CB.out W hW
  have HBW := hid hbW
  clear hW hbW CB
  go_wp2_with fail
  go_at_call 219
  refine (CT.out _ HBW.out).mono ?_
  rintro e w1 ⟨rfl,hb1⟩
  have HB1 := hid (vonto HBW.out hb1)
  clear hb1 CT
  go_wp2_with fail
  go_ret
  exact ⟨ret_str (by rfl),HB1.out⟩
 by_cases k3 : k = 3
 ·subst k3
  simp at hm
  obtain ⟨h3,h4,h5⟩ := hm
  subst h3
  have CC1 := hid (CC.out rfl h4)
  clear h4 h5
  have HE : Hid (mkS (celS 3 0 s) = s) := hid (by rw [show celS 3 0 s = s.data.toList from rfl]; exact (mkS_of s _ rfl).symm)
  go_enter Tryz.func161,Tryz.ntmps161
  go_upto_region 1 with fail
  refine cewp_gen ?_
  intro W hW
  obtain ⟨g0,g1,g2,g3,g4,hbW⟩ := CB.out W hW
  have HBW := hid hbW
  clear hW hbW CB
  go_wp2_with fail
  go_at_call 138
  refine (CC1.out _).mono ?_
  rintro e w1 ⟨rfl,hb1⟩
  have HB1 := hid (vonto HBW.out hb1)
  clear hb1 CC1
  go_wp2_with fail
  go_ret
  exact ⟨ret_str (by rw [HE.out]),HB1.out⟩
 by_cases k4 : k = 4
 ·subst k4
  simp at hm
  obtain ⟨h3,h4⟩ := hm
  subst h3
  have CW1 := hid (CW.out rfl rfl h4)
  go_enter Tryz.func161,Tryz.ntmps161
  go_upto_region 1 with fail
  refine cewp_gen ?_
  intro W hW
  obtain ⟨g0,g1,g2,g3,g4,hbW⟩ := CB.out W hW
  have HBW := hid hbW
  clear hW hbW CB
  go_wp2_with fail
  go_at_call 220
  refine (CW1.out _ HBW.out).mono ?_
  rintro e w1 ⟨rfl,hb1⟩
  have HB1 := hid (vonto HBW.out hb1)
  clear hb1 CW1
  go_wp2_with fail
  go_ret
  exact ⟨ret_str (by rfl),HB1.out⟩
 by_cases k7 : k = 7
 ·subst k7
  simp at hm
  obtain ⟨h3,h4⟩ := hm
  subst h3
  have hz : s.size ≤ 64 := by
   unfold stampB at h4
   simp only [Bool.and_eq_true,decide_eq_true_eq] at h4
   exact h4.1.2
  clear h4
  have HE : Hid (mkS (celS 7 0 s) = (⟨#[64]⟩ : ByteArray) ++ s) := hid (by
   rw [show celS 7 0 s = [64] ++ s.data.toList from rfl,← ce_app,← mkS_of s _ rfl]; rfl)
  go_enter Tryz.func161,Tryz.ntmps161
  go_upto_region 1 with fail
  refine cewp_gen ?_
  intro W hW
  obtain ⟨g0,g1,g2,g3,g4,hbW⟩ := CB.out W hW
  have HBW := hid hbW
  clear hW hbW CB
  go_wp2_with fail
  go_ret
  exact ⟨ret_str (by rw [HE.out]),HBW.out⟩
 by_cases k5 : k = 5
 ·subst k5
  go_enter Tryz.func161,Tryz.ntmps161
  go_upto_region 1 with fail
  refine cewp_gen ?_
  intro W hW
  obtain ⟨g0,g1,g2,g3,g4,hbW⟩ := CB.out W hW
  have HBW := hid hbW
  clear hW hbW CB
  go_wp2_with fail
  go_ret
  exact ⟨ret_str (by rfl),HBW.out⟩
 by_cases k6 : k = 6
 ·subst k6
  go_enter Tryz.func161,Tryz.ntmps161
  go_upto_region 1 with fail
  refine cewp_gen ?_
  intro W hW
  obtain ⟨g0,g1,g2,g3,g4,hbW⟩ := CB.out W hW
  have HBW := hid hbW
  clear hW hbW CB
  go_wp2_with fail
  go_ret
  exact ⟨ret_str (by rfl),HBW.out⟩
 by_cases k0 : k = 0
 ·subst k0
  go_enter Tryz.func161,Tryz.ntmps161
  go_upto_region 1 with fail
  refine cewp_gen ?_
  intro W hW
  obtain ⟨g0,g1,g2,g3,g4,hbW⟩ := CB.out W hW
  have HBW := hid hbW
  clear hW hbW CB
  go_wp2_with fail
  go_ret
  exact ⟨ret_str (by rfl),HBW.out⟩
 simp [k0,k1,k2,k3,k4,k5,k6,k7] at hm
set_option maxRecDepth 100000 in
set_option maxHeartbeats 4000000 in
theorem cetext_any (T : VT) (x y : Value) (w : World) (hg : GlobC5 w) (hT : HV w T x y) :
  Calls Tryz.prog 108 #[vv T x y] w fun e w' => e = .returned (.tuple #[.string (if celB T = true then mkS (celW T) else ⟨#[]⟩),.bool (celB T)]) ∧ Below w.heap.size w w' := by
 cases hT with
 | mk a b f g p q hk hn hs hL hM hK cL cK cM rL rM =>
 rename_i k n s L K V
 have hn2 : -9223372036854775808 ≤ n ∧ n < 9223372036854775808 := by
  have := hn
  simp [Lit.wf,IntKind.min,IntKind.max,IntKind.signed,IntKind.bits] at this
  omega
 have hT' : HV w (.mk k n s L K V) x y := .mk a b f g p q hk hn hs hL hM hK cL cK cM rL rM
 obtain ⟨oL,capL,rfl,hL1,hL2,hL3⟩ := hL
 obtain ⟨oM,capM,rfl,hM1,hM2,hM3⟩ := hM
 have CG := hid (fun X (hX : Below w.heap.size w X) => vgood_any (.mk k n s L K V) _ _ X (hg.1.on hX) (hT'.onto hX))
 have CB := hid (fun X (hX : X = w.alloc (.cells #[.int .i64 k,.int .i64 n,.string s,.slice oL L.length capL,.slice oM V.length capM] 29)) => cebox_of hX)
 have HG := hid hg
 have HT := hid hT'
 simp only [vv,VT.kd,VT.nm,VT.st] at CG ⊢
 have HR : Hid (celB (.mk k n s L K V) = (decide (L.length = 0) && decide (V.length = 0) && mayB 0 1 (.mk k n s L K V))) := hid (by
  unfold celB
  simp only [VT.ls,VT.vs]
  cases L <;> cases V <;> simp)
 unfold maxLen at hL2 hM2
 have HCW : Hid (celW (.mk k n s L K V) = celS k n s) := hid rfl
 have CW : Hid (celB (.mk k n s L K V) = true → ∀ X,Below w.heap.size w X → Calls Tryz.prog 161 #[.agg #[.int .i64 k,.int .i64 n,.string s,.slice oL L.length capL,.slice oM V.length capM]] X fun e w' => e = .returned (.string (mkS (celS k n s))) ∧ Below X.heap.size X w') := hid (fun hb X hX => by
  have hkv := hK
  obtain ⟨h1,h2⟩ := leaf_of hb (by exact hK)
  have hT2 := HT.out.onto hX
  have h1 : VT.mk k n s L K V = leafT k n s := h1
  have h2 : nodeB (leafT k n s) = true := h1 ▸ h2
  rw [h1] at hT2
  exact cewrite_any k n s X (HG.out.on hX) hn2 h2 _ _ hT2)
 rw [HCW.out]
 generalize celB (.mk k n s L K V) = R at HR CW ⊢
 generalize mayB 0 1 (.mk k n s L K V) = q at CG HR
 generalize L.length = nL at *
 generalize V.length = nM at *
 generalize mkS (celS k n s) = txt at *
 clear HT HCW hn2 hL3 hM3
 by_cases h1 : nL = 0
 ·subst h1
  by_cases h2 : nM = 0
  ·subst h2
   rw [decide_eq_true rfl,Bool.true_and,Bool.true_and] at HR
   have HR1 := HR.out
   subst HR1
   clear HR
   cases R with
   | false =>
    go_enter Tryz.func108,Tryz.ntmps108
    go_upto_region 1 with fail
    refine cewp_gen ?_
    intro W hW
    obtain ⟨g0,g1,g2,g3,g4,hbW⟩ := CB.out W hW
    have HBW := hid hbW
    clear hW hbW CB
    go_wp2_with fail
    go_at_call 43
    refine (CG.out _ HBW.out).mono ?_
    rintro e w1 ⟨rfl,hb1⟩
    have HB1 := hid (vonto HBW.out hb1)
    clear hb1 CG
    go_wp2_with fail
    go_ret2
    exact ⟨rfl,HB1.out⟩
   | true =>
    go_enter Tryz.func108,Tryz.ntmps108
    go_upto_region 1 with fail
    refine cewp_gen ?_
    intro W hW
    obtain ⟨g0,g1,g2,g3,g4,hbW⟩ := CB.out W hW
    have HBW := hid hbW
    clear hW hbW CB
    go_wp2_with fail
    go_at_call 43
    refine (CG.out _ HBW.out).mono ?_
    rintro e w1 ⟨rfl,hb1⟩
    have g0 := keepCell hb1 g0
    have g1 := keepCell hb1 g1
    have g2 := keepCell hb1 g2
    have g3 := keepCell hb1 g3
    have g4 := keepCell hb1 g4
    have HB1 := hid (vonto HBW.out hb1)
    have CW1 := hid (CW.out (by first | rfl | trivial) w1 HB1.out)
    clear hb1 CG CW
    go_wp2_with fail
    go_at_call 161
    refine CW1.out.mono ?_
    rintro e w2 ⟨rfl,hb2⟩
    have HB2 := hid (vonto HB1.out hb2)
    clear hb2 CW1
    go_wp2_with fail
    go_ret2
    exact ⟨rfl,HB2.out⟩
  ·have f2 : decide ((0 : Int) < (nM : Int)) = true := decide_eq_true (by omega)
   have f2' : (0 : Int) < (nM : Int) := by omega
   have f3 : 0 < nM := by omega
   have HR1 : R = false := by rw [HR.out,decide_eq_false h2]; rfl
   subst HR1
   clear HR
   go_enter Tryz.func108,Tryz.ntmps108
   go_upto_region 1 with fail
   refine cewp_gen ?_
   intro W hW
   obtain ⟨g0,g1,g2,g3,g4,hbW⟩ := CB.out W hW
   have HBW := hid hbW
   clear hW hbW CB
   go_wp2_with fail
   go_ret2
   exact ⟨rfl,HBW.out⟩
 ·have f1 : decide ((0 : Int) < (nL : Int)) = true := decide_eq_true (by omega)
  have f1' : (0 : Int) < (nL : Int) := by omega
  have f3 : 0 < nL := by omega
  have HR1 : R = false := by rw [HR.out,decide_eq_false h1]; rfl
  subst HR1
  clear HR
  go_enter Tryz.func108,Tryz.ntmps108
  go_upto_region 1 with fail
  refine cewp_gen ?_
  intro W hW
  obtain ⟨g0,g1,g2,g3,g4,hbW⟩ := CB.out W hW
  have HBW := hid hbW
  clear hW hbW CB
  go_wp2_with fail
  go_ret2
  exact ⟨rfl,HBW.out⟩
end Go.Proofs.YteimbjamnfkapaaGreatDoor
