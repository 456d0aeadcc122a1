/- Package cell, walked: readWord, readStamp, Value. -/
import Derived.Test.YteimbjamnfkapaaGreatDoorLOwnB
import Derived.Test.YteimbjamnfkapaaGreatDoorLVPlus
namespace Go.Proofs.YteimbjamnfkapaaGreatDoor
open Go.RowKit
set_option maxRecDepth 100000 in
theorem ceclone_any (s : ByteArray) (w : World) (hs : s.size ≤ 1000000) :
  Calls Tryz.prog 138 #[.string s] w fun e w' => e = .returned (.string s) ∧ Below w.heap.size w w' := by
 have C := hid (fun X => Tryz.stringslite_Clone s X (by omega))
 go_enter Tryz.func138,Tryz.ntmps138
 go_wp2_with (go_at_call 194; go_must (refine (C.out _).mono ?_; rintro e w1 ⟨rfl,hb⟩))
 go_ret
 exact ⟨rfl,hb⟩
set_option maxRecDepth 100000 in
set_option maxHeartbeats 400000 in
theorem cefalse_any (w : World) :
  Calls Tryz.prog 189 #[.bool false] w fun e w' => e = .returned (vv (leafT 1 0 ⟨#[]⟩) (.slice none 0 0) (.slice none 0 0)) ∧ Below w.heap.size w w' := by
 go_enter Tryz.func189,Tryz.ntmps189
 go_wp2_with fail
 refine bodyPost_ret (v := vv (leafT 1 0 ⟨#[]⟩) (.slice none 0 0) (.slice none 0 0)) (by simp [results,Tryz.results189,go_sem,vv,leafT,VT.kd,VT.nm,VT.st]) rfl ⟨rfl,?_⟩
 repeat (first | exact Below.refl _ _ | apply valloc_bel | (refine vset_bel ?_ (by simp)))
theorem hv_free {w w' : World} {k n : Int} {s : ByteArray} {x y : Value} (h : HV w (leafT k n s) x y) : HV w' (leafT k n s) x y := by
 cases h with
 | mk a b f g p q hk hn hs hL hM hK cL cK cM rL rM =>
  exact .mk a b f g p q hk hn hs hL hM hK (fun i t h => by simp at h) (fun i t h => by simp at h) (fun i t h => by simp at h) (fun i t h => by simp at h) (fun i t h => by simp at h)
theorem nils_zero (w : World) : InL w [] (.slice none 0 0) := ⟨⟨0,0,none⟩,fun _ => .int .i64 0,fun _ => .int .i64 0,⟨none,0,rfl,Nat.le_refl _,Nat.zero_le _,fun h => absurd h (by simp)⟩,fun i t h => by simp at h,fun i t h => by simp at h⟩
set_option maxRecDepth 100000 in
set_option maxHeartbeats 4000000 in
theorem ceword_any (s : ByteArray) (w : World) :
  Calls Tryz.prog 135 #[.string s] w fun e w' => ∃ X Y,e = .returned (.tuple #[vv ((cwdT s.data.toList).getD zeroT) X Y,.bool (cwdT s.data.toList).isSome]) ∧ HV w' ((cwdT s.data.toList).getD zeroT) X Y ∧ Below w.heap.size w w' := by
 have q1 := str_eq s _ rfl [110,117,108,108]
 have q2 := str_eq s _ rfl [116,114,117,101]
 have q3 := str_eq s _ rfl [102,97,108,115,101]
 have q4 := str_eq s _ rfl [91,93]
 have q5 := str_eq s _ rfl [123,125]
 have vn := hid (fun X => vnull_any X)
 have vt := hid (fun X => vtrue_any X)
 have vf := hid (fun X => cefalse_any X)
 have vl := hid (fun X => vlist_any [] (.slice none 0 0) X (nils_zero X) (by decide))
 simp only [vv] at vn vt vf vl ⊢
 obtain ⟨R,hR⟩ : ∃ R,cwdT s.data.toList = R := ⟨_,rfl⟩
 rw [hR]
 unfold cwdT at hR
 by_cases h1 : s.data.toList = [110,117,108,108]
 ·rw [decide_eq_true h1] at q1
  rw [if_pos h1] at hR
  subst hR
  clear h1 q2 q3 q4 q5
  go_enter Tryz.func135,Tryz.ntmps135
  go_wp2_with fail
  go_at_call 188
  refine (vn.out _).mono ?_
  rintro e w1 ⟨rfl,hb1⟩
  have R0 := hid (box_row hb1)
  have HB1 := hid (vonto (valloc_bel (Below.refl w.heap.size w) _) hb1)
  clear hb1
  obtain ⟨u0,e0⟩ := R0.out.cell (o := 0) (by decide)
  obtain ⟨u1,e1⟩ := R0.out.cell (o := 1) (by decide)
  obtain ⟨u2,e2⟩ := R0.out.cell (o := 2) (by decide)
  obtain ⟨u3,e3⟩ := R0.out.cell (o := 3) (by decide)
  obtain ⟨u4,e4⟩ := R0.out.cell (o := 4) (by decide)
  have z0 := R0.out.frozen
  go_wp2_with fail
  refine bodyPost_ret (v := .tuple #[vv zeroT (.slice none 0 0) (.slice none 0 0),.bool true]) (by simp [results,Tryz.results135,go_sem,vv,zeroT,VT.kd,VT.nm,VT.st,e0,e1,e2,e3,e4]) rfl ⟨_,_,rfl,hv_leaf _ 0 0 _ (by decide) (by decide) (by decide),?_⟩
  repeat (first | exact HB1.out | (refine vset_bel ?_ (by simp)))
 rw [decide_eq_false h1] at q1
 rw [if_neg h1] at hR
 clear h1
 by_cases h2 : s.data.toList = [116,114,117,101]
 ·rw [decide_eq_true h2] at q2
  rw [if_pos h2] at hR
  subst hR
  clear h2 q3 q4 q5
  go_enter Tryz.func135,Tryz.ntmps135
  go_wp2_with fail
  go_at_call 189
  refine (vt.out _).mono ?_
  rintro e w1 ⟨rfl,hb1⟩
  have R0 := hid (box_row hb1)
  have HB1 := hid (vonto (valloc_bel (Below.refl w.heap.size w) _) hb1)
  clear hb1
  obtain ⟨u0,e0⟩ := R0.out.cell (o := 0) (by decide)
  obtain ⟨u1,e1⟩ := R0.out.cell (o := 1) (by decide)
  obtain ⟨u2,e2⟩ := R0.out.cell (o := 2) (by decide)
  obtain ⟨u3,e3⟩ := R0.out.cell (o := 3) (by decide)
  obtain ⟨u4,e4⟩ := R0.out.cell (o := 4) (by decide)
  have z0 := R0.out.frozen
  go_wp2_with fail
  refine bodyPost_ret (v := .tuple #[vv (leafT 1 1 ⟨#[]⟩) (.slice none 0 0) (.slice none 0 0),.bool true]) (by simp [results,Tryz.results135,go_sem,vv,leafT,VT.kd,VT.nm,VT.st,e0,e1,e2,e3,e4]) rfl ⟨_,_,rfl,hv_leaf _ 1 1 _ (by decide) (by decide) (by decide),?_⟩
  repeat (first | exact HB1.out | (refine vset_bel ?_ (by simp)))
 rw [decide_eq_false h2] at q2
 rw [if_neg h2] at hR
 clear h2
 by_cases h3 : s.data.toList = [102,97,108,115,101]
 ·rw [decide_eq_true h3] at q3
  rw [if_pos h3] at hR
  subst hR
  clear h3 q4 q5
  go_enter Tryz.func135,Tryz.ntmps135
  go_wp2_with fail
  go_at_call 189
  refine (vf.out _).mono ?_
  rintro e w1 ⟨rfl,hb1⟩
  have R0 := hid (box_row hb1)
  have HB1 := hid (vonto (valloc_bel (Below.refl w.heap.size w) _) hb1)
  clear hb1
  obtain ⟨u0,e0⟩ := R0.out.cell (o := 0) (by decide)
  obtain ⟨u1,e1⟩ := R0.out.cell (o := 1) (by decide)
  obtain ⟨u2,e2⟩ := R0.out.cell (o := 2) (by decide)
  obtain ⟨u3,e3⟩ := R0.out.cell (o := 3) (by decide)
  obtain ⟨u4,e4⟩ := R0.out.cell (o := 4) (by decide)
  have z0 := R0.out.frozen
  go_wp2_with fail
  refine bodyPost_ret (v := .tuple #[vv (leafT 1 0 ⟨#[]⟩) (.slice none 0 0) (.slice none 0 0),.bool true]) (by simp [results,Tryz.results135,go_sem,vv,leafT,VT.kd,VT.nm,VT.st,e0,e1,e2,e3,e4]) rfl ⟨_,_,rfl,hv_leaf _ 1 0 _ (by decide) (by decide) (by decide),?_⟩
  repeat (first | exact HB1.out | (refine vset_bel ?_ (by simp)))
 rw [decide_eq_false h3] at q3
 rw [if_neg h3] at hR
 clear h3
 by_cases h4 : s.data.toList = [91,93]
 ·rw [decide_eq_true h4] at q4
  rw [if_pos h4] at hR
  subst hR
  clear h4 q5
  go_enter Tryz.func135,Tryz.ntmps135
  go_wp2_with fail
  go_at_call 190
  refine (vl.out _).mono ?_
  rintro e w1 ⟨X,rfl,hX,hb1⟩
  obtain ⟨pX,nX,cX,pY,nY,cY,rfl,-⟩ := hv_slices hX.hv
  have HX := hid hX.hv
  clear hX
  have R0 := hid (box_row hb1)
  have HB1 := hid (vonto (valloc_bel (Below.refl w.heap.size w) _) hb1)
  clear hb1
  obtain ⟨u0,e0⟩ := R0.out.cell (o := 0) (by decide)
  obtain ⟨u1,e1⟩ := R0.out.cell (o := 1) (by decide)
  obtain ⟨u2,e2⟩ := R0.out.cell (o := 2) (by decide)
  obtain ⟨u3,e3⟩ := R0.out.cell (o := 3) (by decide)
  obtain ⟨u4,e4⟩ := R0.out.cell (o := 4) (by decide)
  have z0 := R0.out.frozen
  go_wp2_with fail
  refine bodyPost_ret (v := .tuple #[vv (leafT 5 0 ⟨#[]⟩) (.slice pX nX cX) (.slice none 0 0),.bool true]) (by simp [results,Tryz.results135,go_sem,vv,leafT,VT.kd,VT.nm,VT.st,e0,e1,e2,e3,e4]) rfl ⟨_,_,rfl,hv_free HX.out,?_⟩
  repeat (first | exact HB1.out | (refine vset_bel ?_ (by simp)))
 rw [decide_eq_false h4] at q4
 rw [if_neg h4] at hR
 clear h4
 by_cases h5 : s.data.toList = [123,125]
 ·rw [decide_eq_true h5] at q5
  rw [if_pos h5] at hR
  subst hR
  clear h5 
  go_enter Tryz.func135,Tryz.ntmps135
  go_wp2_with fail
  refine bodyPost_ret (v := .tuple #[vv (leafT 6 0 ⟨#[]⟩) (.slice none 0 0) (.slice none 0 0),.bool true]) (by simp [results,Tryz.results135,go_sem,vv,leafT,VT.kd,VT.nm,VT.st]) rfl ⟨_,_,rfl,?_,?_⟩
  ·exact hv_leaf _ 6 0 _ (by decide) (by decide) (by decide)
  ·repeat (first | exact Below.refl _ _ | apply valloc_bel | (refine vset_bel ?_ (by simp)))
 rw [decide_eq_false h5] at q5
 rw [if_neg h5] at hR
 clear h5
 subst hR
 go_enter Tryz.func135,Tryz.ntmps135
 go_wp2_with fail
 refine bodyPost_ret (v := .tuple #[vv zeroT (.slice none 0 0) (.slice none 0 0),.bool false]) (by simp [results,Tryz.results135,go_sem,vv,zeroT,VT.kd,VT.nm,VT.st]) rfl ⟨_,_,rfl,?_,?_⟩
 ·exact hv_leaf _ 0 0 _ (by decide) (by decide) (by decide)
 ·repeat (first | exact Below.refl _ _ | apply valloc_bel | (refine vset_bel ?_ (by simp)))
theorem cewp_gen {P : Program} {c : Code} {Q : Exit → Act → World → Prop} {a : Act} {w : World} (h : ∀ W,W = w → Code.wp P c Q a W) : Code.wp P c Q a w := h w rfl
theorem cebox (w : World) (a b c d e : Value) : (w.alloc (.cells #[a,b,c,d,e] 29)).cell? ⟨w.heap.size,0,none⟩ = some a ∧ (w.alloc (.cells #[a,b,c,d,e] 29)).cell? ⟨w.heap.size,1,none⟩ = some b ∧ (w.alloc (.cells #[a,b,c,d,e] 29)).cell? ⟨w.heap.size,2,none⟩ = some c ∧ (w.alloc (.cells #[a,b,c,d,e] 29)).cell? ⟨w.heap.size,3,none⟩ = some d ∧ (w.alloc (.cells #[a,b,c,d,e] 29)).cell? ⟨w.heap.size,4,none⟩ = some e := by
 have h := new_cells w [a,b,c,d,e] 29
 have a0 := h 0 _ rfl
 have a1 := h 1 _ rfl
 have a2 := h 2 _ rfl
 have a3 := h 3 _ rfl
 have a4 := h 4 _ rfl
 rw [add_at] at a0 a1 a2 a3 a4
 exact ⟨a0,a1,a2,a3,a4⟩
theorem cebox_of {w W : World} {a b c d e : Value} (h : W = w.alloc (.cells #[a,b,c,d,e] 29)) : W.cell? ⟨w.heap.size,0,none⟩ = some a ∧ W.cell? ⟨w.heap.size,1,none⟩ = some b ∧ W.cell? ⟨w.heap.size,2,none⟩ = some c ∧ W.cell? ⟨w.heap.size,3,none⟩ = some d ∧ W.cell? ⟨w.heap.size,4,none⟩ = some e ∧ Below w.heap.size w W := by
 subst h
 obtain ⟨a0,a1,a2,a3,a4⟩ := cebox w a b c d e
 exact ⟨a0,a1,a2,a3,a4,valloc_bel (Below.refl _ _) _⟩
theorem ce_hp (l : List UInt8) (c : UInt8) : Lib.hasPrefix l [c] = decide (l.head? = some c) := by
 cases l with
 | nil => rfl
 | cons a l =>
  unfold Lib.hasPrefix
  rw [Bool.eq_iff_iff]
  simp
  exact eq_comm
theorem ce_tp (l : List UInt8) (c : UInt8) : Lib.trimPrefix l [c] = if l.head? = some c then l.tail else l := by
 unfold Lib.trimPrefix
 rw [ce_hp]
 by_cases h : l.head? = some c
 ·rw [decide_eq_true h,if_pos rfl,if_pos h]; cases l <;> rfl
 ·rw [decide_eq_false h,if_neg (by decide),if_neg h]
theorem cecut_any (s : ByteArray) (w : World) :
  Calls Tryz.prog 139 #[.string s,.string ⟨#[64]⟩] w fun e w' => e = .returned (.tuple #[.string (mkS (if s.data.toList.head? = some 64 then s.data.toList.tail else s.data.toList)),.bool (decide (s.data.toList.head? = some 64))]) ∧ w' = w := by
 have := cutp_any s 64 w
 rw [ce_tp,ce_hp] at this; exact this
theorem cetrim_any (s : ByteArray) (w : World) :
  Calls Tryz.prog 131 #[.string s,.string ⟨#[39]⟩] w fun e w' => e = .returned (.string (mkS (if s.data.toList.head? = some 39 then s.data.toList.tail else s.data.toList))) ∧ w' = w := by
 have := trimp_any s 39 w
 rw [ce_tp] at this; exact this
set_option maxRecDepth 100000 in
set_option maxHeartbeats 1000000 in
theorem cestamp_any (s : ByteArray) (w : World) (hs : s.size ≤ 1000000) :
  Calls Tryz.prog 140 #[.string s] w fun e w' => e = .returned (.tuple #[vv (if stampB s = true then leafT 7 0 s else zeroT) (.slice none 0 0) (.slice none 0 0),.int .i64 (if stampB s = true then 0 else 4)]) ∧ Below w.heap.size w w' := by
 have CC := hid (fun X => ceclone_any s X hs)
 have CS := hid (fun X => vstamp_any s X (by unfold maxLen; omega))
 have HR := hid (show stampR s = (if stampB s then leafT 7 0 s else zeroT) ∧ stampE s = (if stampB s then 0 else 1) from ⟨rfl,rfl⟩)
 have HB0 := hid (Below.refl w.heap.size w)
 generalize stampR s = R at CS HR
 generalize stampE s = E at CS HR
 generalize stampB s = z at HR ⊢
 cases z
 all_goals
  simp only [if_true,if_false,Bool.false_eq_true] at HR ⊢
  have h1 := HR.out.1
  have h2 := HR.out.2
  subst h1 h2
  simp only [vv,leafT,zeroT,VT.kd,VT.nm,VT.st] at CS ⊢
  clear HR
  go_enter Tryz.func140,Tryz.ntmps140
  go_wp2_with fail
  go_at_call 138
  refine (CC.out _).mono ?_
  rintro e w1 ⟨rfl,hb1⟩
  have R1 := hid (box_row hb1)
  have HB1 := hid (vonto (valloc_bel (Below.refl w.heap.size w) _) hb1)
  clear hb1 CC
  go_wp2_with fail
  go_at_call 196
  refine (CS.out _).mono ?_
  rintro e w2 ⟨rfl,hb2⟩
  have R0 := hid (R1.out.onto (hb2.block _ R1.out.lt))
  have HB2 := hid (vonto HB1.out hb2)
  clear hb2 CS R1
  go_upto_region 2 with fail
  refine cewp_gen ?_
  intro W hW
  obtain ⟨g0,g1,g2,g3,g4,hbW⟩ := cebox_of hW
  have RW := hid (R0.out.onto (hbW.block _ R0.out.lt))
  have HBW := hid (vonto HB2.out hbW)
  clear hW hbW R0
  obtain ⟨u0,e0⟩ := RW.out.cell (o := 0) (by decide)
  obtain ⟨u1,e1⟩ := RW.out.cell (o := 1) (by decide)
  obtain ⟨u2,e2⟩ := RW.out.cell (o := 2) (by decide)
  obtain ⟨u3,e3⟩ := RW.out.cell (o := 3) (by decide)
  obtain ⟨u4,e4⟩ := RW.out.cell (o := 4) (by decide)
  have z0 := RW.out.frozen
  go_wp2_with fail
 ·refine bodyPost_ret (v := .tuple #[vv zeroT (.slice none 0 0) (.slice none 0 0),.int .i64 4]) (by simp [results,Tryz.results140,go_sem,vv,zeroT,VT.kd,VT.nm,VT.st,e0,e1,e2,e3,e4]) rfl ⟨rfl,?_⟩
  repeat (first | exact HBW.out | (refine vset_bel ?_ (by simp)))
 ·refine bodyPost_ret (v := .tuple #[vv (leafT 7 0 s) (.slice none 0 0) (.slice none 0 0),.int .i64 0]) (by simp [results,Tryz.results140,go_sem,vv,leafT,VT.kd,VT.nm,VT.st,e0,e1,e2,e3,e4]) rfl ⟨rfl,?_⟩
  repeat (first | exact HBW.out | (refine vset_bel ?_ (by simp)))
theorem cwd_leaf {l : List UInt8} {T : VT} (h : cwdT l = some T) : ∃ k n t,T = leafT k n t := by
 rcases cwd_is h with ⟨-,e⟩ | ⟨-,e⟩ | ⟨-,e⟩ | ⟨-,e⟩ | ⟨-,e⟩
 ·exact ⟨0,0,_,e⟩
 ·exact ⟨_,_,_,e⟩
 ·exact ⟨_,_,_,e⟩
 ·exact ⟨_,_,_,e⟩
 ·exact ⟨_,_,_,e⟩
theorem cnm_leaf {n : Nat} (l : List UInt8) (h : n ≤ 1000000) (hl : l.length ≤ n) : ∃ k m t,cnmT l = leafT k m t ∧ (Lit.int .i64 k).wf = true ∧ (Lit.int .i64 m).wf = true ∧ t.size ≤ maxLen := by
 unfold cnmT
 split
 ·exact ⟨_,_,_,rfl,by decide,intV_wf l,by decide⟩
 ·exact ⟨_,_,_,rfl,by decide,by decide,by rw [mkS_size]; unfold maxLen; omega⟩
theorem str_leaf (s : ByteArray) (h : s.size ≤ maxLen) : ∃ k m t,strR s = leafT k m t ∧ (Lit.int .i64 k).wf = true ∧ (Lit.int .i64 m).wf = true ∧ t.size ≤ maxLen := by
 unfold strR
 split
 ·exact ⟨_,_,_,rfl,by decide,by decide,h⟩
 ·exact ⟨0,0,⟨#[]⟩,rfl,by decide,by decide,by decide⟩
set_option maxRecDepth 100000 in
set_option maxHeartbeats 4000000 in
theorem cevalue_any (s : ByteArray) (w : World) (hg : Glob w) (hs : s.size ≤ 1000000) :
  Calls Tryz.prog 81 #[.string s] w fun e w' => ∃ X Y,e = .returned (.tuple #[vv (celT s.data.toList).1 X Y,.int .i64 (celT s.data.toList).2]) ∧ HV w' (celT s.data.toList).1 X Y ∧ Below w.heap.size w w' := by
 have CW := hid (fun X => ceword_any s X)
 have CG := hid (fun X => dgood_max s X (by unfold maxLen; omega))
 have CC := hid (fun X => ceclone_any s X hs)
 have CN := hid (fun X (hX : Below w.heap.size w X) => vnum_any s X (hg.on hX) (by unfold maxLen; omega))
 have HSS := hid hs
 clear hg hs
 by_cases h0 : s.data.toList = []
 ·have e0 : s.toList.isEmpty = true := emp_yes _ h0
  have hR : celT s.data.toList = (zeroT,9) := by rw [h0]; rfl
  rw [hR]
  simp only [vv,zeroT,VT.kd,VT.nm,VT.st]
  go_enter Tryz.func81,Tryz.ntmps81
  go_wp2_with fail
  refine bodyPost_ret (v := .tuple #[vv zeroT (.slice none 0 0) (.slice none 0 0),.int .i64 9]) (by simp [results,Tryz.results81,go_sem,vv,zeroT,VT.kd,VT.nm,VT.st]) rfl ⟨_,_,rfl,hv_leaf _ 0 0 _ (by decide) (by decide) (by decide),?_⟩
  repeat (first | exact Below.refl _ _ | apply valloc_bel | (refine vset_bel ?_ (by simp)))
 have e0 : s.toList.isEmpty = false := emp_no _ h0
 cases hw : cwdT s.data.toList with
 | some T =>
  rw [cel_word hw]
  rw [hw] at CW
  obtain ⟨k,n,t,hk⟩ : ∃ k n t,T = leafT k n t := cwd_leaf hw
  subst hk
  simp only [vv,leafT,VT.kd,VT.nm,VT.st,Option.getD_some,Option.isSome_some] at CW ⊢
  clear hw CG CC CN h0 HSS
  go_enter Tryz.func81,Tryz.ntmps81
  go_wp2_with fail
  go_at_call 135
  refine (CW.out _).mono ?_
  rintro e w1 ⟨X,Y,rfl,hx,hb1⟩
  obtain ⟨pX,nX,cX,pY,nY,cY,rfl,rfl⟩ := hv_slices hx
  have HX := hid hx
  have R0 := hid (box_row hb1)
  have HB1 := hid (vonto (valloc_bel (Below.refl w.heap.size w) _) hb1)
  clear hb1 hx CW
  go_upto_region 4 with fail
  refine cewp_gen ?_
  intro W hW
  obtain ⟨g0,g1,g2,g3,g4,hbW⟩ := cebox_of hW
  have RW := hid (R0.out.onto (hbW.block _ R0.out.lt))
  have HBW := hid (vonto HB1.out hbW)
  clear hW hbW R0
  obtain ⟨u0,e0⟩ := RW.out.cell (o := 0) (by decide)
  obtain ⟨u1,e1⟩ := RW.out.cell (o := 1) (by decide)
  obtain ⟨u2,e2⟩ := RW.out.cell (o := 2) (by decide)
  obtain ⟨u3,e3⟩ := RW.out.cell (o := 3) (by decide)
  obtain ⟨u4,e4⟩ := RW.out.cell (o := 4) (by decide)
  have z0 := RW.out.frozen
  go_wp2_with fail
  refine bodyPost_ret (v := .tuple #[.agg #[.int .i64 k,.int .i64 n,.string t,.slice pX nX cX,.slice pY nY cY],.int .i64 0]) (by simp [results,Tryz.results81,go_sem,e0,e1,e2,e3,e4]) rfl ⟨_,_,rfl,hv_free HX.out,?_⟩
  repeat (first | exact HBW.out | (refine vset_bel ?_ (by simp)))
 | none =>
  rw [cel_none h0 hw]
  rw [hw] at CW
  simp only [vv,zeroT,VT.kd,VT.nm,VT.st,Option.getD_none,Option.isSome_none] at CW
  have CP := hid (fun X => cecut_any s X)
  have CT := hid (fun X => cetrim_any s X)
  clear hw h0
  cases hn : numB s.data.toList with
  | true =>
   have hm : numR s = cnmT s.data.toList ∧ numE s = 0 := by
    unfold numR numE cnmT
    rw [hn,← mkS_of s _ rfl]; exact ⟨rfl,rfl⟩
   rw [hn] at CG
   rw [if_pos rfl]
   obtain ⟨k,n,t,hk,hwf1,hwf2,hts⟩ := cnm_leaf s.data.toList HSS.out (by have := size_list s; omega)
   rw [hm.1,hm.2,hk] at CN
   rw [hk]
   simp only [vv,leafT,VT.kd,VT.nm,VT.st] at CN ⊢
   clear hm hn hk CP CT
   go_enter Tryz.func81,Tryz.ntmps81
   go_wp2_with fail
   go_at_call 135
   refine (CW.out _).mono ?_
   rintro e w1 ⟨X,Y,rfl,hx,hb1⟩
   obtain ⟨pX,nX,cX,pY,nY,cY,rfl,rfl⟩ := hv_slices hx
   have HX := hid hx
   have R0 := hid (box_row hb1)
   have HB1 := hid (vonto (valloc_bel (Below.refl w.heap.size w) _) hb1)
   clear hb1 hx CW
   go_upto_region 4 with fail
   refine cewp_gen ?_
   intro W hW
   obtain ⟨g0,g1,g2,g3,g4,hbW⟩ := cebox_of hW
   have RW := hid (R0.out.onto (hbW.block _ R0.out.lt))
   have HBW := hid (vonto HB1.out hbW)
   clear hW hbW R0
   obtain ⟨u0,e0⟩ := RW.out.cell (o := 0) (by decide)
   obtain ⟨u1,e1⟩ := RW.out.cell (o := 1) (by decide)
   obtain ⟨u2,e2⟩ := RW.out.cell (o := 2) (by decide)
   obtain ⟨u3,e3⟩ := RW.out.cell (o := 3) (by decide)
   obtain ⟨u4,e4⟩ := RW.out.cell (o := 4) (by decide)
   have z0 := RW.out.frozen
   go_wp2_with fail
   go_at_call 136
   refine (CG.out _).mono ?_
   rintro e w2 ⟨rfl,hb2⟩
   have R2 := hid (RW.out.onto (hb2.block _ RW.out.lt))
   have HB2 := hid (vonto HBW.out hb2)
   clear hb2 CG RW HBW u0 e0 u1 e1 u2 e2 u3 e3 u4 e4 z0 g0 g1 g2 g3 g4
   go_wp2_with fail
   go_at_call 138
   refine (CC.out _).mono ?_
   rintro e w3 ⟨rfl,hb3⟩
   have R3 := hid (R2.out.onto (hb3.block _ R2.out.lt))
   have HB3 := hid (vonto HB2.out hb3)
   clear hb3 CC R2
   go_wp2_with fail
   go_at_call 137
   refine (CN.out _ HB3.out).mono ?_
   rintro e w4 ⟨rfl,hb4⟩
   have R4 := hid (R3.out.onto (hb4.block _ R3.out.lt))
   have HB4 := hid (vonto HB3.out hb4)
   clear hb4 CN R3
   obtain ⟨u0,e0⟩ := R4.out.cell (o := 0) (by decide)
   obtain ⟨u1,e1⟩ := R4.out.cell (o := 1) (by decide)
   obtain ⟨u2,e2⟩ := R4.out.cell (o := 2) (by decide)
   obtain ⟨u3,e3⟩ := R4.out.cell (o := 3) (by decide)
   obtain ⟨u4,e4⟩ := R4.out.cell (o := 4) (by decide)
   have z0 := R4.out.frozen
   go_wp2_with fail
   refine bodyPost_ret (v := .tuple #[.agg #[.int .i64 k,.int .i64 n,.string t,.slice none 0 0,.slice none 0 0],.int .i64 0]) (by simp [results,Tryz.results81,go_sem,e0,e1,e2,e3,e4]) rfl ⟨_,_,rfl,hv_leaf _ k n t hwf1 hwf2 hts,?_⟩
   repeat (first | exact HB4.out | (refine vset_bel ?_ (by simp)))
  | false =>
   rw [hn] at CG
   rw [if_neg (by decide)]
   clear hn CN
   by_cases h4 : s.data.toList.head? = some 64
   ·rw [if_pos h4]
    rw [if_pos h4,decide_eq_true h4] at CP
    have hts : (mkS s.data.toList.tail).size ≤ 1000000 := by rw [mkS_size,List.length_tail]; have := HSS.out; have := size_list s; omega
    have CS := hid (fun X => cestamp_any (mkS s.data.toList.tail) X hts)
    obtain ⟨st,hst⟩ : ∃ st,mkS s.data.toList.tail = st := ⟨_,rfl⟩
    rw [hst] at CS CP hts ⊢
    clear hst h4 CT CC
    cases hsb : stampB st with
    | true =>
     rw [hsb,if_pos rfl] at CS
     rw [if_pos rfl]
     simp only [vv,leafT,VT.kd,VT.nm,VT.st] at CS ⊢
     go_enter Tryz.func81,Tryz.ntmps81
     go_wp2_with fail
     go_at_call 135
     refine (CW.out _).mono ?_
     rintro e w1 ⟨X,Y,rfl,hx,hb1⟩
     obtain ⟨pX,nX,cX,pY,nY,cY,rfl,rfl⟩ := hv_slices hx
     have HX := hid hx
     have R0 := hid (box_row hb1)
     have HB1 := hid (vonto (valloc_bel (Below.refl w.heap.size w) _) hb1)
     clear hb1 hx CW
     go_upto_region 4 with fail
     refine cewp_gen ?_
     intro W hW
     obtain ⟨g0,g1,g2,g3,g4,hbW⟩ := cebox_of hW
     have RW := hid (R0.out.onto (hbW.block _ R0.out.lt))
     have HBW := hid (vonto HB1.out hbW)
     clear hW hbW R0
     obtain ⟨u0,e0⟩ := RW.out.cell (o := 0) (by decide)
     obtain ⟨u1,e1⟩ := RW.out.cell (o := 1) (by decide)
     obtain ⟨u2,e2⟩ := RW.out.cell (o := 2) (by decide)
     obtain ⟨u3,e3⟩ := RW.out.cell (o := 3) (by decide)
     obtain ⟨u4,e4⟩ := RW.out.cell (o := 4) (by decide)
     have z0 := RW.out.frozen
     go_wp2_with fail
     go_at_call 136
     refine (CG.out _).mono ?_
     rintro e w2 ⟨rfl,hb2⟩
     have R2 := hid (RW.out.onto (hb2.block _ RW.out.lt))
     have HB2 := hid (vonto HBW.out hb2)
     clear hb2 CG RW HBW u0 e0 u1 e1 u2 e2 u3 e3 u4 e4 z0 g0 g1 g2 g3 g4
     go_wp2_with fail
     go_at_call 139
     refine (CP.out _).mono ?_
     rintro e w3 ⟨rfl,hw3⟩
     obtain rfl := hw3.symm
     clear CP
     go_wp2_with fail
     go_at_call 140
     refine (CS.out _).mono ?_
     rintro e w4 ⟨rfl,hb4⟩
     have R4 := hid (R2.out.onto (hb4.block _ R2.out.lt))
     have HB4 := hid (vonto HB2.out hb4)
     clear hb4 CS R2
     obtain ⟨u0,e0⟩ := R4.out.cell (o := 0) (by decide)
     obtain ⟨u1,e1⟩ := R4.out.cell (o := 1) (by decide)
     obtain ⟨u2,e2⟩ := R4.out.cell (o := 2) (by decide)
     obtain ⟨u3,e3⟩ := R4.out.cell (o := 3) (by decide)
     obtain ⟨u4,e4⟩ := R4.out.cell (o := 4) (by decide)
     have z0 := R4.out.frozen
     go_wp2_with fail
     refine bodyPost_ret (v := .tuple #[.agg #[.int .i64 7,.int .i64 0,.string st,.slice none 0 0,.slice none 0 0],.int .i64 0]) (by simp [results,Tryz.results81,go_sem,e0,e1,e2,e3,e4]) rfl ⟨_,_,rfl,hv_leaf _ 7 0 st (by decide) (by decide) (by unfold maxLen; omega),?_⟩
     repeat (first | exact HB4.out | (refine vset_bel ?_ (by simp)))
    | false =>
     rw [hsb,if_neg (by decide),if_neg (by decide)] at CS
     rw [if_neg (by decide)]
     simp only [vv,zeroT,VT.kd,VT.nm,VT.st] at CS ⊢
     go_enter Tryz.func81,Tryz.ntmps81
     go_wp2_with fail
     go_at_call 135
     refine (CW.out _).mono ?_
     rintro e w1 ⟨X,Y,rfl,hx,hb1⟩
     obtain ⟨pX,nX,cX,pY,nY,cY,rfl,rfl⟩ := hv_slices hx
     have HX := hid hx
     have R0 := hid (box_row hb1)
     have HB1 := hid (vonto (valloc_bel (Below.refl w.heap.size w) _) hb1)
     clear hb1 hx CW
     go_upto_region 4 with fail
     refine cewp_gen ?_
     intro W hW
     obtain ⟨g0,g1,g2,g3,g4,hbW⟩ := cebox_of hW
     have RW := hid (R0.out.onto (hbW.block _ R0.out.lt))
     have HBW := hid (vonto HB1.out hbW)
     clear hW hbW R0
     obtain ⟨u0,e0⟩ := RW.out.cell (o := 0) (by decide)
     obtain ⟨u1,e1⟩ := RW.out.cell (o := 1) (by decide)
     obtain ⟨u2,e2⟩ := RW.out.cell (o := 2) (by decide)
     obtain ⟨u3,e3⟩ := RW.out.cell (o := 3) (by decide)
     obtain ⟨u4,e4⟩ := RW.out.cell (o := 4) (by decide)
     have z0 := RW.out.frozen
     go_wp2_with fail
     go_at_call 136
     refine (CG.out _).mono ?_
     rintro e w2 ⟨rfl,hb2⟩
     have R2 := hid (RW.out.onto (hb2.block _ RW.out.lt))
     have HB2 := hid (vonto HBW.out hb2)
     clear hb2 CG RW HBW u0 e0 u1 e1 u2 e2 u3 e3 u4 e4 z0 g0 g1 g2 g3 g4
     go_wp2_with fail
     go_at_call 139
     refine (CP.out _).mono ?_
     rintro e w3 ⟨rfl,hw3⟩
     obtain rfl := hw3.symm
     clear CP
     go_wp2_with fail
     go_at_call 140
     refine (CS.out _).mono ?_
     rintro e w4 ⟨rfl,hb4⟩
     have R4 := hid (R2.out.onto (hb4.block _ R2.out.lt))
     have HB4 := hid (vonto HB2.out hb4)
     clear hb4 CS R2
     obtain ⟨u0,e0⟩ := R4.out.cell (o := 0) (by decide)
     obtain ⟨u1,e1⟩ := R4.out.cell (o := 1) (by decide)
     obtain ⟨u2,e2⟩ := R4.out.cell (o := 2) (by decide)
     obtain ⟨u3,e3⟩ := R4.out.cell (o := 3) (by decide)
     obtain ⟨u4,e4⟩ := R4.out.cell (o := 4) (by decide)
     have z0 := R4.out.frozen
     go_wp2_with fail
     refine bodyPost_ret (v := .tuple #[.agg #[.int .i64 0,.int .i64 0,.string ⟨#[]⟩,.slice none 0 0,.slice none 0 0],.int .i64 4]) (by simp [results,Tryz.results81,go_sem,e0,e1,e2,e3,e4]) rfl ⟨_,_,rfl,hv_leaf _ 0 0 _ (by decide) (by decide) (by decide),?_⟩
     repeat (first | exact HB4.out | (refine vset_bel ?_ (by simp)))
   ·rw [if_neg h4]
    rw [if_neg h4,decide_eq_false h4] at CP
    have HE : Hid ((if s.data.toList.head? = some 39 then (strR (mkS s.data.toList.tail),teI (mkS s.data.toList.tail)) else (strR (mkS s.data.toList),teI (mkS s.data.toList))) = (strR (mkS (if s.data.toList.head? = some 39 then s.data.toList.tail else s.data.toList)),teI (mkS (if s.data.toList.head? = some 39 then s.data.toList.tail else s.data.toList)))) := hid (by split <;> rfl)
    rw [HE.out]
    have hts : (mkS (if s.data.toList.head? = some 39 then s.data.toList.tail else s.data.toList)).size ≤ 1000000 := by
     have := HSS.out
     have := size_list s
     rw [mkS_size]
     split
     ·rw [List.length_tail]; omega
     ·omega
    obtain ⟨st,hst⟩ : ∃ st,mkS (if s.data.toList.head? = some 39 then s.data.toList.tail else s.data.toList) = st := ⟨_,rfl⟩
    rw [hst] at CT hts ⊢
    have CV := hid (fun X => vstr_any st X (by unfold maxLen; omega))
    have CC := hid (fun X => ceclone_any st X hts)
    have hsr : strR st = if teI st = 0 then leafT 4 0 st else zeroT := rfl
    obtain ⟨k,n,t,hk,hwf1,hwf2,hts2⟩ := str_leaf st (by unfold maxLen; omega)
    rw [hk] at CV ⊢
    generalize teI st = er at CV ⊢
    simp only [vv,leafT,VT.kd,VT.nm,VT.st] at CV ⊢
    clear hst h4 HE hsr hk
    go_enter Tryz.func81,Tryz.ntmps81
    go_wp2_with fail
    go_at_call 135
    refine (CW.out _).mono ?_
    rintro e w1 ⟨X,Y,rfl,hx,hb1⟩
    obtain ⟨pX,nX,cX,pY,nY,cY,rfl,rfl⟩ := hv_slices hx
    have HX := hid hx
    have R0 := hid (box_row hb1)
    have HB1 := hid (vonto (valloc_bel (Below.refl w.heap.size w) _) hb1)
    clear hb1 hx CW
    go_upto_region 4 with fail
    refine cewp_gen ?_
    intro W hW
    obtain ⟨g0,g1,g2,g3,g4,hbW⟩ := cebox_of hW
    have RW := hid (R0.out.onto (hbW.block _ R0.out.lt))
    have HBW := hid (vonto HB1.out hbW)
    clear hW hbW R0
    obtain ⟨u0,e0⟩ := RW.out.cell (o := 0) (by decide)
    obtain ⟨u1,e1⟩ := RW.out.cell (o := 1) (by decide)
    obtain ⟨u2,e2⟩ := RW.out.cell (o := 2) (by decide)
    obtain ⟨u3,e3⟩ := RW.out.cell (o := 3) (by decide)
    obtain ⟨u4,e4⟩ := RW.out.cell (o := 4) (by decide)
    have z0 := RW.out.frozen
    go_wp2_with fail
    go_at_call 136
    refine (CG.out _).mono ?_
    rintro e w2 ⟨rfl,hb2⟩
    have R2 := hid (RW.out.onto (hb2.block _ RW.out.lt))
    have HB2 := hid (vonto HBW.out hb2)
    clear hb2 CG RW HBW u0 e0 u1 e1 u2 e2 u3 e3 u4 e4 z0 g0 g1 g2 g3 g4
    go_wp2_with fail
    go_at_call 139
    refine (CP.out _).mono ?_
    rintro e w3 ⟨rfl,hw3⟩
    obtain rfl := hw3.symm
    clear CP
    go_wp2_with fail
    go_at_call 131
    refine (CT.out _).mono ?_
    rintro e w5 ⟨rfl,hw5⟩
    obtain rfl := hw5.symm
    clear CT
    go_wp2_with fail
    go_at_call 138
    refine (CC.out _).mono ?_
    rintro e w6 ⟨rfl,hb6⟩
    have R6 := hid (R2.out.onto (hb6.block _ R2.out.lt))
    have HB6 := hid (vonto HB2.out hb6)
    clear hb6 CC R2
    go_wp2_with fail
    go_at_call 141
    refine (CV.out _).mono ?_
    rintro e w4 ⟨rfl,hb4⟩
    have R4 := hid (R6.out.onto (hb4.block _ R6.out.lt))
    have HB4 := hid (vonto HB6.out hb4)
    clear hb4 CV R6
    obtain ⟨u0,e0⟩ := R4.out.cell (o := 0) (by decide)
    obtain ⟨u1,e1⟩ := R4.out.cell (o := 1) (by decide)
    obtain ⟨u2,e2⟩ := R4.out.cell (o := 2) (by decide)
    obtain ⟨u3,e3⟩ := R4.out.cell (o := 3) (by decide)
    obtain ⟨u4,e4⟩ := R4.out.cell (o := 4) (by decide)
    have z0 := R4.out.frozen
    go_wp2_with fail
    refine bodyPost_ret (v := .tuple #[.agg #[.int .i64 k,.int .i64 n,.string t,.slice none 0 0,.slice none 0 0],.int .i64 er]) (by simp [results,Tryz.results81,go_sem,e0,e1,e2,e3,e4]) rfl ⟨_,_,rfl,hv_leaf _ k n t hwf1 hwf2 hts2,?_⟩
    repeat (first | exact HB4.out | (refine vset_bel ?_ (by simp)))
end Go.Proofs.YteimbjamnfkapaaGreatDoor
