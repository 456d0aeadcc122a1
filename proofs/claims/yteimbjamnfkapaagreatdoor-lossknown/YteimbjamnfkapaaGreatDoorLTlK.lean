/- tlex.Number: walked. -/
import Derived.Test.YteimbjamnfkapaaGreatDoorLTlJ
namespace Go.Proofs.YteimbjamnfkapaaGreatDoor
open Go.RowKit
def tnR (l : List UInt8) : VT :=
 if infB (unS l) = true then leafT 7 0 (mkS l) else if bsB l ≠ 0 then intR (psV (bsB l) (clnS (l.drop 2)))
 else if kdN (unS l) = 2 then intR (piV (clnS l)) else if kdN (unS l) = 3 then nuR l else zeroT
def tnE (l : List UInt8) : Int :=
 if infB (unS l) = true then 0 else if bsB l ≠ 0 then intE (psV (bsB l) (clnS (l.drop 2)))
 else if kdN (unS l) = 2 then intE (piV (clnS l)) else if kdN (unS l) = 3 then nuE l else 4
theorem inf_stamp (l : List UInt8) (h : infB (unS l) = true) : stampB (mkS l) = true := by
 have h1 : unS l = [105,110,102] ∨ unS l = [110,97,110] := of_decide_eq_true h
 have h2 : l = [105,110,102] ∨ l = [110,97,110] ∨ (∃ b,(b.toNat = 43 ∨ b.toNat = 45) ∧ (l = b :: [105,110,102] ∨ l = b :: [110,97,110])) := by
  unfold unS at h1
  by_cases k : sgA l = true
  ·rw [if_pos k] at h1
   cases l with
   | nil => exact absurd k (by decide)
   | cons b r =>
    have k2 : b.toNat = 43 ∨ b.toNat = 45 := of_decide_eq_true k
    simp only [List.drop_succ_cons,List.drop_zero] at h1
    right; right
    exact ⟨b,k2,h1.imp (fun e => by rw [e]) (fun e => by rw [e])⟩
  ·rw [if_neg k] at h1
   exact h1.elim Or.inl (fun e => Or.inr (Or.inl e))
 unfold stampB
 rw [mkS_size,mkS_list]
 rcases h2 with rfl | rfl | ⟨b,hb,rfl | rfl⟩
 ·rfl
 ·rfl
 ·simp; omega
 ·simp; omega
theorem bs_cases (l : List UInt8) (h : bsB l ≠ 0) : (bsB l = 16 ∧ dgs 16 (l.drop 2) = true) ∨ (bsB l = 8 ∧ dgs 8 (l.drop 2) = true) ∨ (bsB l = 2 ∧ dgs 2 (l.drop 2) = true) := by
 unfold bsB at h ⊢
 by_cases h1 : bt l 0 = 48 ∧ bt l 1 = 120 ∧ dgs 16 (l.drop 2) = true
 ·rw [if_pos h1]; exact Or.inl ⟨rfl,h1.2.2⟩
 ·rw [if_neg h1] at h ⊢
  by_cases h2 : bt l 0 = 48 ∧ bt l 1 = 111 ∧ dgs 8 (l.drop 2) = true
  ·rw [if_pos h2]; exact Or.inr (Or.inl ⟨rfl,h2.2.2⟩)
  ·rw [if_neg h2] at h ⊢
   by_cases h3 : bt l 0 = 48 ∧ bt l 1 = 98 ∧ dgs 2 (l.drop 2) = true
   ·rw [if_pos h3]; exact Or.inr (Or.inr ⟨rfl,h3.2.2⟩)
   ·rw [if_neg h3] at h; exact absurd rfl h
theorem trint_bs (s : ByteArray) (w : World) (hs : s.size ≤ 1000000) (hg : GlobT w) (h : bsB s.data.toList ≠ 0) (hb : bdS s.data.toList = s.data.toList.drop 2) :
  Calls Tryz.prog 276 #[.string (mkS (bdS s.data.toList)),.int .i64 (bsB s.data.toList : Nat)] w fun e w' => e = .returned (.tuple #[vv (intR (psV (bsB s.data.toList) (clnS (s.data.toList.drop 2)))) nilS nilS,.int .i64 (intE (psV (bsB s.data.toList) (clnS (s.data.toList.drop 2))))]) ∧ Below w.heap.size w w' := by
 have hl : (mkS (s.data.toList.drop 2)).size ≤ 1000000 := by rw [mkS_size,List.length_drop,size_list]; omega
 rw [hb]
 rcases bs_cases _ h with ⟨e,hd⟩ | ⟨e,hd⟩ | ⟨e,hd⟩
 ·rw [e]
  have := trint16 (mkS (s.data.toList.drop 2)) w hl hg (by rw [mkS_list]; exact hd)
  rw [mkS_list] at this; exact this
 ·rw [e]
  have := trint8 (mkS (s.data.toList.drop 2)) w hl hg (by rw [mkS_list]; exact hd)
  rw [mkS_list] at this; exact this
 ·rw [e]
  have := trint2 (mkS (s.data.toList.drop 2)) w hl hg (by rw [mkS_list]; exact hd)
  rw [mkS_list] at this; exact this
theorem vv_parts (T : VT) : ∃ k n s,vv T nilS nilS = .agg #[.int .i64 k,.int .i64 n,.string s,nilS,nilS] := ⟨_,_,_,rfl⟩
structure GlobN (w : World) : Prop where
 t : GlobT w
 b : GlobB w
theorem GlobN.on {w w' : World} (h : GlobN w) (hb : Below w.heap.size w w') : GlobN w' := ⟨h.t.on hb,h.b.on hb⟩
theorem uns_le (l : List UInt8) : (unS l).length ≤ l.length := by
 unfold unS; split
 ·rw [List.length_drop]; omega
 ·omega
set_option maxRecDepth 100000 in
set_option maxHeartbeats 8000000 in
theorem tnumber_any (s : ByteArray) (w : World) (hs : s.size ≤ 1000000) (hg : GlobN w) :
  Calls Tryz.prog 231 #[.string s] w fun e w' => e = .returned (.tuple #[vv (tnR s.data.toList) nilS nilS,.int .i64 (tnE s.data.toList)]) ∧ Below w.heap.size w w' := by
 have CU := hid (fun X => tunsign_any s X)
 have CB := hid (fun X (h : Below w.heap.size w X) => tbased_any s X hs (hg.b.on h))
 have CK := hid (fun X => tkind_any (mkS (unS s.data.toList)) X (by rw [mkS_size]; have := uns_le s.data.toList; rw [size_list] at this; omega))
 rw [mkS_list] at CK
 have HR : Hid (tnR s.data.toList = (if infB (unS s.data.toList) = true then leafT 7 0 (mkS s.data.toList) else if bsB s.data.toList ≠ 0 then intR (psV (bsB s.data.toList) (clnS (s.data.toList.drop 2))) else if kdN (unS s.data.toList) = 2 then intR (piV (clnS s.data.toList)) else if kdN (unS s.data.toList) = 3 then nuR s.data.toList else zeroT)) := rfl
 have HE : Hid (tnE s.data.toList = (if infB (unS s.data.toList) = true then 0 else if bsB s.data.toList ≠ 0 then intE (psV (bsB s.data.toList) (clnS (s.data.toList.drop 2))) else if kdN (unS s.data.toList) = 2 then intE (piV (clnS s.data.toList)) else if kdN (unS s.data.toList) = 3 then nuE s.data.toList else 4)) := rfl
 have q1 := str_eq (mkS (unS s.data.toList)) (unS s.data.toList) (mkS_list _) [105,110,102]
 have q2 := str_eq (mkS (unS s.data.toList)) (unS s.data.toList) (mkS_list _) [110,97,110]
 have HI : Hid (infB (unS s.data.toList) = (decide (unS s.data.toList = [105,110,102]) || decide (unS s.data.toList = [110,97,110]))) := by
  show _ = _
  unfold infB; rw [Bool.decide_or]
 cases hi : infB (unS s.data.toList) with
 | true =>
  have hst := inf_stamp s.data.toList hi
  rw [← self_str s] at hst
  have CS := hid (fun X => vstamp_any s X (max_le hs))
  have CC := hid (fun X => tclone_any s X hs)
  rw [if_pos hi] at HR HE
  rw [← self_str s] at HR
  have e7 : stampR s = leafT 7 0 s := by unfold stampR; rw [if_pos hst]
  have e8 : stampE s = 0 := by unfold stampE; rw [if_pos hst]
  rw [e7,e8] at CS
  simp only [vv,leafT,VT.kd,VT.nm,VT.st] at CS
  rw [hi] at HI
  generalize tnR s.data.toList = R at *
  generalize tnE s.data.toList = E at *
  generalize decide (unS s.data.toList = [105,110,102]) = d1 at *
  generalize decide (unS s.data.toList = [110,97,110]) = d2 at *
  generalize mkS (unS s.data.toList) = u at *
  clear hg CB CK hi hst e7 e8
  have hd : d1 = true ∨ (d1 = false ∧ d2 = true) := by have := HI.out; revert this; cases d1 <;> cases d2 <;> simp
  rcases hd with rfl | ⟨rfl,rfl⟩
  all_goals
   go_enter Tryz.func231,Tryz.ntmps231
   go_wp2_with (go_at_call 274; go_must (refine (CU.out _).mono ?_; rintro e w1 ⟨rfl,hw⟩; obtain rfl := hw.symm))
   go_at_call 138
   refine (CC.out _).mono ?_
   rintro e w2 ⟨rfl,hb2⟩
   have R2 := hid (box_row hb2)
   have HB2 := hid (vonto (valloc_bel (Below.refl w.heap.size w) _) hb2)
   clear hb2
   go_wp2_with fail
   go_at_call 196
   refine (CS.out _).mono ?_
   rintro e w3 ⟨rfl,hb3⟩
   have R0 := hid (R2.out.onto (hb3.block _ R2.out.lt))
   have HB3 := hid (vonto HB2.out hb3)
   clear hb3 R2 HB2
   obtain ⟨u0,e0⟩ := R0.out.cell (o := 0) (by decide)
   obtain ⟨u1,e1⟩ := R0.out.cell (o := 1) (by decide)
   obtain ⟨u2,e2⟩ := R0.out.cell (o := 2) (by decide)
   obtain ⟨u3,e3⟩ := R0.out.cell (o := 3) (by decide)
   obtain ⟨u4,e4⟩ := R0.out.cell (o := 4) (by decide)
   have z0 := R0.out.frozen
   go_wp2_with fail
   refine bodyPost_ret (v := .tuple #[.agg #[.int .i64 7,.int .i64 0,.string s,nilS,nilS],.int .i64 0]) (by simp [results,Tryz.results231,go_sem,e0,e1,e2,e3,e4]) rfl ⟨by rw [HR.out,HE.out]; rfl,?_⟩
   repeat (first | exact HB3.out | (refine vset_bel ?_ (by simp)))
 | false =>
  rw [if_neg (by rw [hi]; decide)] at HR HE
  rw [hi] at HI
  have hd12 : decide (unS s.data.toList = [105,110,102]) = false ∧ decide (unS s.data.toList = [110,97,110]) = false := by
   have := HI.out; revert this; cases decide (unS s.data.toList = [105,110,102]) <;> cases decide (unS s.data.toList = [110,97,110]) <;> simp
  rw [hd12.1] at q1
  rw [hd12.2] at q2
  clear HI hi hd12
  by_cases hb0 : bsB s.data.toList ≠ 0
  ·rw [if_pos hb0] at HR HE
   have hbd : bdS s.data.toList = s.data.toList.drop 2 := by unfold bdS; rw [if_neg hb0]
   have CR := hid (fun X (h : Below w.heap.size w X) => trint_bs s X hs (hg.t.on h) hb0 hbd)
   rw [← HR.out,← HE.out] at CR
   generalize tnR s.data.toList = R at *
   generalize tnE s.data.toList = E at *
   obtain ⟨tk,tn,ts,hv⟩ := vv_parts R
   rw [hv] at CR ⊢
   have gb : ((bsB s.data.toList : Int) != 0) = true := by rw [bne_iff_ne]; omega
   generalize bsB s.data.toList = bb at *
   generalize mkS (bdS s.data.toList) = bm at *
   generalize mkS (unS s.data.toList) = u at *
   clear hg CK hb0 hbd hv HR HE
   go_enter Tryz.func231,Tryz.ntmps231
   go_wp2_with (go_at_call 274; go_must (refine (CU.out _).mono ?_; rintro e w1 ⟨rfl,hw⟩; obtain rfl := hw.symm))
   go_at_call 275
   refine (CB.out _ (valloc_bel (Below.refl _ _) _)).mono ?_
   rintro e w2 ⟨rfl,hb2⟩
   have R2 := hid (box_row hb2)
   have HB2 := hid (vonto (valloc_bel (Below.refl w.heap.size w) _) hb2)
   clear hb2
   go_wp2_with fail
   go_at_call 276
   refine (CR.out _ HB2.out).mono ?_
   rintro e w3 ⟨rfl,hb3⟩
   have R0 := hid (R2.out.onto (hb3.block _ R2.out.lt))
   have HB3 := hid (vonto HB2.out hb3)
   clear hb3 R2 HB2
   obtain ⟨u0,e0⟩ := R0.out.cell (o := 0) (by decide)
   obtain ⟨u1,e1⟩ := R0.out.cell (o := 1) (by decide)
   obtain ⟨u2,e2⟩ := R0.out.cell (o := 2) (by decide)
   obtain ⟨u3,e3⟩ := R0.out.cell (o := 3) (by decide)
   obtain ⟨u4,e4⟩ := R0.out.cell (o := 4) (by decide)
   have z0 := R0.out.frozen
   go_wp2_with fail
   refine bodyPost_ret (v := .tuple #[.agg #[.int .i64 tk,.int .i64 tn,.string ts,nilS,nilS],.int .i64 E]) (by simp [results,Tryz.results231,go_sem,e0,e1,e2,e3,e4]) rfl ⟨rfl,?_⟩
   repeat (first | exact HB3.out | (refine vset_bel ?_ (by simp)))
  ·rw [if_neg hb0] at HR HE
   have hb1 : bsB s.data.toList = 0 := by omega
   have hbd : bdS s.data.toList = [] := by unfold bdS; rw [if_pos hb1]
   rw [hb1,hbd] at CB
   have C10 := hid (fun X (h : Below w.heap.size w X) => trint10 s X hs (hg.t.on h))
   have CN := hid (fun X (h : Below w.heap.size w X) => trnum_any s X hs (hg.t.on h))
   generalize mkS (unS s.data.toList) = u at *
   have e0s : mkS [] = ⟨#[]⟩ := rfl
   rw [e0s] at CB
   clear hb0 hb1 hbd e0s
   by_cases hk2 : kdN (unS s.data.toList) = 2
   ·rw [if_pos hk2] at HR HE
    rw [hk2] at CK
    rw [← HR.out,← HE.out] at C10
    generalize tnR s.data.toList = R at *
    generalize tnE s.data.toList = E at *
    obtain ⟨tk,tn,ts,hv⟩ := vv_parts R
    rw [hv] at C10 ⊢
    clear hg hk2 hv HR HE CN
    go_enter Tryz.func231,Tryz.ntmps231
    go_wp2_with (go_at_call 274; go_must (refine (CU.out _).mono ?_; rintro e w1 ⟨rfl,hw⟩; obtain rfl := hw.symm))
    go_at_call 275
    refine (CB.out _ (valloc_bel (Below.refl _ _) _)).mono ?_
    rintro e w2 ⟨rfl,hb2⟩
    have R2 := hid (box_row hb2)
    have HB2 := hid (vonto (valloc_bel (Below.refl w.heap.size w) _) hb2)
    clear hb2
    go_wp2_with fail
    go_at_call 277
    refine (CK.out _).mono ?_
    rintro e w4 ⟨rfl,hb4⟩
    have R4 := hid (R2.out.onto (hb4.block _ R2.out.lt))
    have HB4 := hid (vonto HB2.out hb4)
    clear hb4 R2 HB2
    go_wp2_with fail
    go_at_call 276
    refine (C10.out _ HB4.out).mono ?_
    rintro e w3 ⟨rfl,hb3⟩
    have R0 := hid (R4.out.onto (hb3.block _ R4.out.lt))
    have HB3 := hid (vonto HB4.out hb3)
    clear hb3 R4 HB4
    obtain ⟨u0,e0⟩ := R0.out.cell (o := 0) (by decide)
    obtain ⟨u1,e1⟩ := R0.out.cell (o := 1) (by decide)
    obtain ⟨u2,e2⟩ := R0.out.cell (o := 2) (by decide)
    obtain ⟨u3,e3⟩ := R0.out.cell (o := 3) (by decide)
    obtain ⟨u4,e4⟩ := R0.out.cell (o := 4) (by decide)
    have z0 := R0.out.frozen
    go_wp2_with fail
    refine bodyPost_ret (v := .tuple #[.agg #[.int .i64 tk,.int .i64 tn,.string ts,nilS,nilS],.int .i64 E]) (by simp [results,Tryz.results231,go_sem,e0,e1,e2,e3,e4]) rfl ⟨rfl,?_⟩
    repeat (first | exact HB3.out | (refine vset_bel ?_ (by simp)))
   ·rw [if_neg hk2] at HR HE
    by_cases hk3 : kdN (unS s.data.toList) = 3
    ·rw [if_pos hk3] at HR HE
     rw [hk3] at CK
     rw [← HR.out,← HE.out] at CN
     generalize tnR s.data.toList = R at *
     generalize tnE s.data.toList = E at *
     obtain ⟨tk,tn,ts,hv⟩ := vv_parts R
     rw [hv] at CN ⊢
     clear hg hk2 hk3 hv HR HE C10
     go_enter Tryz.func231,Tryz.ntmps231
     go_wp2_with (go_at_call 274; go_must (refine (CU.out _).mono ?_; rintro e w1 ⟨rfl,hw⟩; obtain rfl := hw.symm))
     go_at_call 275
     refine (CB.out _ (valloc_bel (Below.refl _ _) _)).mono ?_
     rintro e w2 ⟨rfl,hb2⟩
     have R2 := hid (box_row hb2)
     have HB2 := hid (vonto (valloc_bel (Below.refl w.heap.size w) _) hb2)
     clear hb2
     go_wp2_with fail
     go_at_call 277
     refine (CK.out _).mono ?_
     rintro e w4 ⟨rfl,hb4⟩
     have R4 := hid (R2.out.onto (hb4.block _ R2.out.lt))
     have HB4 := hid (vonto HB2.out hb4)
     clear hb4 R2 HB2
     go_wp2_with fail
     go_at_call 278
     refine (CN.out _ HB4.out).mono ?_
     rintro e w3 ⟨rfl,hb3⟩
     have R0 := hid (R4.out.onto (hb3.block _ R4.out.lt))
     have HB3 := hid (vonto HB4.out hb3)
     clear hb3 R4 HB4
     obtain ⟨u0,e0⟩ := R0.out.cell (o := 0) (by decide)
     obtain ⟨u1,e1⟩ := R0.out.cell (o := 1) (by decide)
     obtain ⟨u2,e2⟩ := R0.out.cell (o := 2) (by decide)
     obtain ⟨u3,e3⟩ := R0.out.cell (o := 3) (by decide)
     obtain ⟨u4,e4⟩ := R0.out.cell (o := 4) (by decide)
     have z0 := R0.out.frozen
     go_wp2_with fail
     refine bodyPost_ret (v := .tuple #[.agg #[.int .i64 tk,.int .i64 tn,.string ts,nilS,nilS],.int .i64 E]) (by simp [results,Tryz.results231,go_sem,e0,e1,e2,e3,e4]) rfl ⟨rfl,?_⟩
     repeat (first | exact HB3.out | (refine vset_bel ?_ (by simp)))
    ·rw [if_neg hk3] at HR HE
     have gk2 : ((kdN (unS s.data.toList) : Int) == 2) = false := by rw [beq_eq_false_iff_ne]; omega
     have gk3 : ((kdN (unS s.data.toList) : Int) == 3) = false := by rw [beq_eq_false_iff_ne]; omega
     generalize tnR s.data.toList = R at *
     generalize tnE s.data.toList = E at *
     generalize kdN (unS s.data.toList) = kk at *
     clear hg hk2 hk3 C10 CN
     go_enter Tryz.func231,Tryz.ntmps231
     go_wp2_with (go_at_call 274; go_must (refine (CU.out _).mono ?_; rintro e w1 ⟨rfl,hw⟩; obtain rfl := hw.symm))
     go_at_call 275
     refine (CB.out _ (valloc_bel (Below.refl _ _) _)).mono ?_
     rintro e w2 ⟨rfl,hb2⟩
     have R2 := hid (box_row hb2)
     have HB2 := hid (vonto (valloc_bel (Below.refl w.heap.size w) _) hb2)
     clear hb2
     go_wp2_with fail
     go_at_call 277
     refine (CK.out _).mono ?_
     rintro e w4 ⟨rfl,hb4⟩
     have R0 := hid (R2.out.onto (hb4.block _ R2.out.lt))
     have HB3 := hid (vonto HB2.out hb4)
     clear hb4 R2 HB2
     obtain ⟨u0,e0⟩ := R0.out.cell (o := 0) (by decide)
     obtain ⟨u1,e1⟩ := R0.out.cell (o := 1) (by decide)
     obtain ⟨u2,e2⟩ := R0.out.cell (o := 2) (by decide)
     obtain ⟨u3,e3⟩ := R0.out.cell (o := 3) (by decide)
     obtain ⟨u4,e4⟩ := R0.out.cell (o := 4) (by decide)
     have z0 := R0.out.frozen
     go_wp2_with fail
     refine bodyPost_ret (v := .tuple #[.agg #[.int .i64 0,.int .i64 0,.string ⟨#[]⟩,nilS,nilS],.int .i64 4]) (by simp [results,Tryz.results231,go_sem,e0,e1,e2,e3,e4]) rfl ⟨by rw [HR.out,HE.out]; rfl,?_⟩
     repeat (first | exact HB3.out | (refine vset_bel ?_ (by simp)))
end Go.Proofs.YteimbjamnfkapaaGreatDoor
