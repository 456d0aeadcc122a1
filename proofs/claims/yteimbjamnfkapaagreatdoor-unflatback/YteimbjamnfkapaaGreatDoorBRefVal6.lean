/- The document's own judgement of trees, walked: plain. -/
import Derived.Test.YteimbjamnfkapaaGreatDoorBRefVal5
import Derived.Test.YteimbjamnfkapaaGreatDoorBShelf3
import Derived.Test.YteimbjamnfkapaaGreatDoorBOrders
namespace Go.Proofs.YteimbjamnfkapaaGreatDoor
open Go.RowKit
def badKd (k : Int) (a b c d : Bool) : Bool := (k != 1 && k != 2 && !a) || (k != 3 && k != 4 && k != 7 && !b) || (k != 5 && !c) || (k != 6 && !d)
theorem bad_node (k n : Int) (a b c d num te st ks : Bool) (h : badKd k a b c d = true) : nodeC k n a b c d num te st ks = false := by
 unfold badKd at h
 unfold nodeC
 by_cases k0 : k = 0
 ·subst k0; rw [if_pos rfl]; cases a <;> cases b <;> cases c <;> cases d <;> simp_all
 rw [if_neg k0]
 by_cases k1 : k = 1
 ·subst k1; rw [if_pos rfl]; cases b <;> cases c <;> cases d <;> simp_all
 rw [if_neg k1]
 by_cases k2 : k = 2
 ·subst k2; rw [if_pos rfl]; cases b <;> cases c <;> cases d <;> simp_all
 rw [if_neg k2]
 by_cases k3 : k = 3
 ·subst k3; rw [if_pos rfl]; cases a <;> cases c <;> cases d <;> simp_all
 rw [if_neg k3]
 by_cases k4 : k = 4
 ·subst k4; rw [if_pos rfl]; cases a <;> cases c <;> cases d <;> simp_all
 rw [if_neg k4]
 by_cases k7 : k = 7
 ·subst k7; rw [if_pos rfl]; cases a <;> cases c <;> cases d <;> simp_all
 rw [if_neg k7]
 by_cases k5 : k = 5
 ·subst k5; rw [if_pos rfl]; cases a <;> cases b <;> cases d <;> simp_all
 rw [if_neg k5]
 by_cases k6 : k = 6
 ·subst k6; rw [if_pos rfl]; cases a <;> cases b <;> cases c <;> simp_all
 rw [if_neg k6]
def kindC (k n : Int) (num te st ks : Bool) : Bool :=
 if k = 0 then true else if k = 2 then true else if k = 1 then (n == 0 || n == 1) else if k = 3 then num else if k = 4 then te else if k = 7 then st else if k = 5 then true else if k = 6 then ks else false
theorem good_bad (k n : Int) (b c d num te st ks : Bool) (h : badKd k (n == 0) b c d = false) : nodeC k n (n == 0) b c d num te st ks = kindC k n num te st ks := by
 unfold badKd at h
 unfold nodeC kindC
 generalize hn : (n == 0) = a at h ⊢
 by_cases k0 : k = 0
 ·subst k0; rw [if_pos rfl,if_pos rfl]; cases a <;> cases b <;> cases c <;> cases d <;> simp_all
 rw [if_neg k0,if_neg k0]
 by_cases k2 : k = 2
 ·subst k2; rw [if_neg (by decide),if_pos rfl,if_pos rfl]; cases b <;> cases c <;> cases d <;> simp_all
 rw [if_neg k2,if_neg k2]
 by_cases k1 : k = 1
 ·subst k1; rw [if_pos rfl,if_pos rfl]; cases b <;> cases c <;> cases d <;> simp_all
 rw [if_neg k1,if_neg k1]
 by_cases k3 : k = 3
 ·subst k3; rw [if_pos rfl,if_pos rfl]; cases a <;> cases c <;> cases d <;> simp_all
 rw [if_neg k3,if_neg k3]
 by_cases k4 : k = 4
 ·subst k4; rw [if_pos rfl,if_pos rfl]; cases a <;> cases c <;> cases d <;> simp_all
 rw [if_neg k4,if_neg k4]
 by_cases k7 : k = 7
 ·subst k7; rw [if_pos rfl,if_pos rfl]; cases a <;> cases c <;> cases d <;> simp_all
 rw [if_neg k7,if_neg k7]
 by_cases k5 : k = 5
 ·subst k5; rw [if_pos rfl,if_pos rfl]; cases a <;> cases b <;> cases d <;> simp_all
 rw [if_neg k5,if_neg k5]
 by_cases k6 : k = 6
 ·subst k6; rw [if_pos rfl,if_pos rfl]; cases a <;> cases b <;> cases c <;> simp_all
 rw [if_neg k6,if_neg k6]
theorem pos_iff (n : Nat) : decide (0 < (n : Int)) = !((n : Int) == 0) := by
 by_cases h : n = 0
 ·subst h; rfl
 ·rw [decide_eq_true (by omega),show ((n : Int) == 0) = false from by rw [beq_eq_false_iff_ne]; omega]; rfl
theorem leq_no {b c : ByteArray} (hl : ltB b.data.toList c.data.toList = true) : Op.bytesLess c.toList b.toList = false ∧ (c.toList == b.toList) = false := by
 rw [Lib.toList_data,Lib.toList_data]
 rcases ltB_tri b.data.toList c.data.toList with ⟨_,h2,h3⟩ | h | ⟨h1,_,_⟩
 ·exact ⟨h2,beq_eq_false_iff_ne.2 (fun h => h3 h.symm)⟩
 ·rw [h,ltB_irr] at hl; cases hl
 ·rw [h1] at hl; cases hl
theorem leq_yes {b c : ByteArray} (hl : ltB b.data.toList c.data.toList = false) : Op.bytesLess c.toList b.toList = true ∨ (Op.bytesLess c.toList b.toList = false ∧ (c.toList == b.toList) = true) := by
 rw [Lib.toList_data,Lib.toList_data]
 rcases ltB_tri b.data.toList c.data.toList with ⟨h1,_,_⟩ | h | ⟨_,h2,_⟩
 ·rw [h1] at hl; cases hl
 ·exact Or.inr ⟨by rw [h]; exact ltB_irr _,by rw [h]; exact beq_self_eq_true _⟩
 ·exact Or.inl h2
theorem len0 {L : List VT} {b : Bool} (h : decide (0 < (L.length : Int)) = b) (hb : b = false) : L = [] := by
 rw [hb] at h
 have := of_decide_eq_false h
 exact List.length_eq_zero_iff.1 (by omega)
theorem lenB {L : List VT} {b : Bool} (h : decide (0 < (L.length : Int)) = b) : b = true ∨ (b = false ∧ L = []) := by
 cases b with
 | true => exact Or.inl rfl
 | false => exact Or.inr ⟨rfl,len0 h rfl⟩
theorem lenN {L : List VT} {b : Bool} (h : decide (0 < (L.length : Int)) = b) : decide (0 < L.length) = b := by
 rw [← h]; exact decide_eq_decide.2 (by omega)
set_option maxRecDepth 100000 in
set_option maxHeartbeats 8000000 in
theorem rplain_any : ∀ (N : Nat) (T : VT) (x y : Value) (w : World),szT T ≤ N → HV w T x y →
  Calls Tryz.prog 55 #[vv T x y] w fun e w' => e = .returned (.bool (plainT T)) ∧ Below w.heap.size w w' := by
 intro N
 induction N with
 | zero => intro T x y w h; have := szT_pos T; omega
 | succ N ih =>
 intro T x y w hN hT
 have HTL := hid (fun i t h => szT_ls T i t h)
 have HTV := hid (fun i t h => szT_vs T i t h)
 have HE := hid (plainT_eq T)
 have HNB := hid (show nodeB T = nodeC T.kd T.nm (T.nm == 0) T.st.toList.isEmpty ((T.ls.length : Int) == 0) ((T.vs.length : Int) == 0) (numB T.st.data.toList && !intB T.st.data.toList) (teI T.st == 0) (stampB T.st) (keysB T.ks) from rfl)
 obtain ⟨a,b,f,g,p,q,oL,oM,capL,capM,rfl,rfl,hl1,hl2,hL3,hM3,hK,hs,-,-,cL,cK,cM,rL,rM,-,-⟩ := hT.parts
 clear hT
 obtain ⟨k,hk⟩ : ∃ k,T.kd = k := ⟨_,rfl⟩
 obtain ⟨n,hn⟩ : ∃ n,T.nm = n := ⟨_,rfl⟩
 obtain ⟨s,hst⟩ : ∃ s,T.st = s := ⟨_,rfl⟩
 obtain ⟨L,hL⟩ : ∃ L,T.ls = L := ⟨_,rfl⟩
 obtain ⟨V,hV⟩ : ∃ L,T.vs = L := ⟨_,rfl⟩
 obtain ⟨K,hKK⟩ : ∃ L,T.ks = L := ⟨_,rfl⟩
 simp only [vv]
 rw [hL,hV] at HE
 rw [hk,hn,hst,hL,hV,hKK] at HNB
 rw [hL] at hl1 hL3 cL rL HTL ⊢
 rw [hV] at hl2 hM3 hK cM rM HTV ⊢
 rw [hKK] at hK cK
 rw [hst] at hs
 rw [hk,hn,hst]
 generalize plainT T = res at HE ⊢
 generalize nodeB T = nb at HE HNB
 generalize szT T = zz at HTL HTV hN
 clear hk hn hst hL hV hKK
 have HS := hid hs
 have HL3 := hid hL3
 have HM3 := hid hM3
 clear hs hL3 hM3
 have hbase : Below w.heap.size w (w.alloc (.cells #[.int .i64 k,.int .i64 n,.string s,.slice oL L.length capL,.slice oM V.length capM] 29)) := (Below.refl _ _).alloc (Nat.le_refl _) _
 go_enter Tryz.func55,Tryz.ntmps55
 go_upto_region 2 with fail
 go_cut [57] from 8 (fun v wx => v = .bool (badKd k (n == 0) s.toList.isEmpty ((L.length : Int) == 0) ((V.length : Int) == 0)) ∧ wx = (w.alloc (.cells #[.int .i64 k,.int .i64 n,.string s,.slice oL L.length capL,.slice oM V.length capM] 29)))
 case first =>
  obtain ⟨na,pn⟩ : ∃ na,(n != 0) = na := ⟨_,rfl⟩
  obtain ⟨nb,pb⟩ : ∃ nb,s.toList.isEmpty = nb := ⟨_,rfl⟩
  obtain ⟨nc,pc⟩ : ∃ nc,decide (0 < (L.length : Int)) = nc := ⟨_,rfl⟩
  obtain ⟨nd,pd⟩ : ∃ nd,decide (0 < (V.length : Int)) = nd := ⟨_,rfl⟩
  have HBD := hid (show badKd k (n == 0) s.toList.isEmpty ((L.length : Int) == 0) ((V.length : Int) == 0) = badKd k (!na) nb (!nc) (!nd) by
   rw [← pn,← pb,← pc,← pd,pos_iff,pos_iff]
   simp [bne])
  by_cases k1 : k = 1
  ·subst k1
   rcases Bool.eq_false_or_eq_true nb with hb | hb <;> rcases lenB pc with hc | ⟨hc,rfl⟩ <;> rcases lenB pd with hd | ⟨hd,rfl⟩
   all_goals
    as_aux_lemma =>
     have pcN := lenN pc
     have pdN := lenN pd
     go_wp2_with fail
     go_meet
     exact ⟨by rw [HBD.out,hb,hc,hd]; first | rfl | (rw [pdN,hd]; rfl) | (rw [pcN,hc]; rfl),rfl⟩
  by_cases k2 : k = 2
  ·subst k2
   rcases Bool.eq_false_or_eq_true nb with hb | hb <;> rcases lenB pc with hc | ⟨hc,rfl⟩ <;> rcases lenB pd with hd | ⟨hd,rfl⟩
   all_goals
    as_aux_lemma =>
     have pcN := lenN pc
     have pdN := lenN pd
     go_wp2_with fail
     go_meet
     exact ⟨by rw [HBD.out,hb,hc,hd]; first | rfl | (rw [pdN,hd]; rfl) | (rw [pcN,hc]; rfl),rfl⟩
  by_cases k3 : k = 3
  ·subst k3
   rcases Bool.eq_false_or_eq_true na with ha | ha <;> rcases lenB pc with hc | ⟨hc,rfl⟩ <;> rcases lenB pd with hd | ⟨hd,rfl⟩
   all_goals
    as_aux_lemma =>
     have pcN := lenN pc
     have pdN := lenN pd
     go_wp2_with fail
     go_meet
     exact ⟨by rw [HBD.out,ha,hc,hd]; first | rfl | (rw [pdN,hd]; rfl) | (rw [pcN,hc]; rfl),rfl⟩
  by_cases k4 : k = 4
  ·subst k4
   rcases Bool.eq_false_or_eq_true na with ha | ha <;> rcases lenB pc with hc | ⟨hc,rfl⟩ <;> rcases lenB pd with hd | ⟨hd,rfl⟩
   all_goals
    as_aux_lemma =>
     have pcN := lenN pc
     have pdN := lenN pd
     go_wp2_with fail
     go_meet
     exact ⟨by rw [HBD.out,ha,hc,hd]; first | rfl | (rw [pdN,hd]; rfl) | (rw [pcN,hc]; rfl),rfl⟩
  by_cases k7 : k = 7
  ·subst k7
   rcases Bool.eq_false_or_eq_true na with ha | ha <;> rcases lenB pc with hc | ⟨hc,rfl⟩ <;> rcases lenB pd with hd | ⟨hd,rfl⟩
   all_goals
    as_aux_lemma =>
     have pcN := lenN pc
     have pdN := lenN pd
     go_wp2_with fail
     go_meet
     exact ⟨by rw [HBD.out,ha,hc,hd]; first | rfl | (rw [pdN,hd]; rfl) | (rw [pcN,hc]; rfl),rfl⟩
  by_cases k5 : k = 5
  ·subst k5
   rcases Bool.eq_false_or_eq_true na with ha | ha <;> rcases Bool.eq_false_or_eq_true nb with hb | hb <;> rcases lenB pd with hd | ⟨hd,rfl⟩
   all_goals
    as_aux_lemma =>
     have pcN := lenN pc
     have pdN := lenN pd
     go_wp2_with fail
     go_meet
     exact ⟨by rw [HBD.out,ha,hb,hd]; first | rfl | (rw [pdN,hd]; rfl),rfl⟩
  by_cases k6 : k = 6
  ·subst k6
   rcases Bool.eq_false_or_eq_true na with ha | ha <;> rcases Bool.eq_false_or_eq_true nb with hb | hb <;> rcases lenB pc with hc | ⟨hc,rfl⟩
   all_goals
    as_aux_lemma =>
     have pcN := lenN pc
     have pdN := lenN pd
     go_wp2_with fail
     go_meet
     exact ⟨by rw [HBD.out,ha,hb,hc]; first | rfl | (rw [pcN,hc]; rfl),rfl⟩
  have j1 := (ikey _ _ k1).2
  have j2 := (ikey _ _ k2).2
  have j3 := (ikey _ _ k3).2
  have j4 := (ikey _ _ k4).2
  have j7 := (ikey _ _ k7).2
  have j5 := (ikey _ _ k5).2
  have j6 := (ikey _ _ k6).2
  rcases Bool.eq_false_or_eq_true na with ha | ha <;> rcases Bool.eq_false_or_eq_true nb with hb | hb <;> rcases lenB pc with hc | ⟨hc,rfl⟩ <;> rcases lenB pd with hd | ⟨hd,rfl⟩
  all_goals
   as_aux_lemma =>
   have HB3 := HBD
   unfold badKd at HB3
   rw [j1,j2,j3,j4,j7,j5,j6,ha,hb,hc,hd] at HB3
   have HB4 := hid (HBD.out.trans (show badKd k (!na) nb (!nc) (!nd) = _ by unfold badKd; rw [j1,j2,j3,j4,j7,j5,j6,ha,hb,hc,hd]))
   clear k1 k2 k3 k4 k5 k6 k7 HB3
   have pcN := lenN pc
   have pdN := lenN pd
   go_wp2_with fail
   go_meet
   exact ⟨by rw [HB4.out]; first | rfl | (rw [pdN,hd]; rfl) | (rw [pcN,hc]; rfl),rfl⟩
 case rest =>
 obtain ⟨rfl,rfl⟩ := hcut
 cases hbad : badKd k (n == 0) s.toList.isEmpty ((L.length : Int) == 0) ((V.length : Int) == 0) with
 | true =>
  have HF := hid (show res = false by rw [HE.out,HNB.out,bad_node _ _ _ _ _ _ _ _ _ _ hbad]; rfl)
  go_wp2_with fail
  go_ret
  exact ⟨ret_bool HF.out.symm,hbase⟩
 | false =>
 have HKC := hid (show nb = kindC k n (numB s.data.toList && !intB s.data.toList) (teI s == 0) (stampB s) (keysB K) by rw [HNB.out]; exact good_bad _ _ _ _ _ _ _ _ _ hbad)
 have HL0 := hid (show ¬ k = 5 → L = [] by
  intro h5
  have h6 := hbad
  unfold badKd at h6
  rw [(ikey _ _ h5).2] at h6
  simp only [Bool.or_eq_false_iff,Bool.true_and,Bool.not_eq_false'] at h6
  have h7 := h6.1.2
  rw [beq_iff_eq] at h7
  exact List.length_eq_zero_iff.1 (by omega))
 have HV0 := hid (show ¬ k = 6 → V = [] by
  intro h5
  have h6 := hbad
  unfold badKd at h6
  rw [(ikey _ _ h5).2] at h6
  simp only [Bool.or_eq_false_iff,Bool.true_and,Bool.not_eq_false'] at h6
  have h7 := h6.2
  rw [beq_iff_eq] at h7
  exact List.length_eq_zero_iff.1 (by omega))
 clear HNB
 by_cases k0 : k = 0
 ·subst k0
  have HF := hid (show res = true by rw [HE.out,HKC.out,HL0.out (by decide),HV0.out (by decide)]; rfl)
  go_wp2_with fail
  go_ret
  exact ⟨ret_bool HF.out.symm,hbase⟩
 by_cases k2 : k = 2
 ·subst k2
  have HF := hid (show res = true by rw [HE.out,HKC.out,HL0.out (by decide),HV0.out (by decide)]; rfl)
  clear k0
  go_wp2_with fail
  go_ret
  exact ⟨ret_bool HF.out.symm,hbase⟩
 by_cases k1 : k = 1
 ·subst k1
  have HF := hid (show res = (n == 0 || n == 1) by rw [HE.out,HKC.out,HL0.out (by decide),HV0.out (by decide)]; unfold kindC plainL; simp)
  clear k0 k2
  obtain ⟨n0,h0⟩ : ∃ b,(n == 0) = b := ⟨_,rfl⟩
  obtain ⟨n1,h1⟩ : ∃ b,(n == 1) = b := ⟨_,rfl⟩
  rw [h0,h1] at HF
  rcases Bool.eq_false_or_eq_true n0 with e0 | e0 <;> rcases Bool.eq_false_or_eq_true n1 with e1 | e1
  all_goals
   go_wp2_with fail
   go_ret
   exact ⟨ret_bool (by rw [HF.out,e0,e1]; rfl),hbase⟩
 by_cases k3 : k = 3
 ·subst k3
  have HF := hid (show res = (numB s.data.toList && !intB s.data.toList) by rw [HE.out,HKC.out,HL0.out (by decide),HV0.out (by decide)]; unfold kindC plainL; simp)
  have ci := hid (fun X => int_any s X HS.out)
  have cn := hid (fun X => number_any s X HS.out)
  generalize numB s.data.toList = nn at HF cn
  generalize intV s.data.toList = vv9 at ci
  generalize intB s.data.toList = ii at HF ci
  clear k0 k1 k2
  cases nn <;> cases ii
  all_goals
   go_wp2_with (first
    | (go_at_call 101; go_must (refine (ci.out _).mono ?_; rintro e w1 ⟨rfl,rfl⟩))
    | (go_at_call 85; go_must (refine (cn.out _).mono ?_; rintro e w1 ⟨rfl,rfl⟩)))
   go_ret
   exact ⟨ret_bool HF.out.symm,hbase⟩
 by_cases k4 : k = 4
 ·subst k4
  have HF := hid (show res = strOkB s by rw [HE.out,HKC.out,HL0.out (by decide),HV0.out (by decide),te_ok]; unfold kindC plainL; simp; rfl)
  have cs := hid (fun X => str_any s X HS.out)
  generalize strOkB s = ok at HF cs
  clear k0 k1 k2 k3
  go_wp2_with (go_at_call 47; go_must (refine (cs.out _).mono ?_; rintro e w1 ⟨rfl,hb1⟩))
  go_ret
  exact ⟨ret_bool HF.out.symm,vonto hbase hb1⟩
 by_cases k7 : k = 7
 ·subst k7
  have HF := hid (show res = stampB s by rw [HE.out,HKC.out,HL0.out (by decide),HV0.out (by decide)]; unfold kindC plainL; simp)
  have cs := hid (fun X => stamp_any s X HS.out)
  generalize stampB s = ok at HF cs
  clear k0 k1 k2 k3 k4
  go_wp2_with (go_at_call 87; go_must (refine (cs.out _).mono ?_; rintro e w1 ⟨rfl,rfl⟩))
  go_ret
  exact ⟨ret_bool HF.out.symm,hbase⟩
 by_cases k5 : k = 5
 ·subst k5
  have HF := hid (show res = plainL L by rw [HE.out,HKC.out,HV0.out (by decide)]; unfold kindC; simp [plainL])
  clear k0 k1 k2 k3 k4 k7
  go_wp2_with fail
  go_loopw [6] (fun i wr => ∃ j : Nat,j ≤ L.length ∧ i = .int .i64 j ∧ Hid (∀ (i : Nat) (t : VT),i < j → L[i]? = some t → plainT t = true) ∧ Below (w.heap.size + 1) (w.alloc (.cells #[.int .i64 5,.int .i64 n,.string s,.slice oL L.length capL,.slice oM V.length capM] 29)) wr) (fun i _ => L.length - (intOf i).toNat)
  case atStart => exact ⟨0,Nat.zero_le _,rfl,fun i t h => absurd h (Nat.not_lt_zero _),Below.refl _ _⟩
  case round =>
   obtain ⟨j,hj,rfl,HJ,hbel⟩ := hrel
   have hbw : Below w.heap.size w wr := hbase.trans (hbel.mono (by omega))
   have hB3 := box_cell w wr _ _ _ _ _ _ hbel 3 _ rfl
   by_cases hlt : j < L.length
   ·obtain ⟨t,ht⟩ : ∃ t,L[j]? = some t := ⟨L[j],List.getElem?_eq_getElem hlt⟩
    obtain rfl := HL3.out (by omega)
    obtain ⟨d0,d1,d2,d3,d4⟩ := (cL j t ht).onto hbw
    have hzt := HTL.out j t ht
    have HSTEP := hid (ih t (f j) (g j) wr (by omega) ((rL j t ht).onto hbw))
    simp only [vv] at HSTEP
    cases hq : plainT t with
    | true =>
     rw [hq] at HSTEP
     go_wp2_with (go_at_call 55; go_must (refine HSTEP.out.mono ?_; rintro e w1 ⟨rfl,hb1⟩))
     go_roundw
     case rel => exact ⟨j + 1,hlt,val_int (by omega),fun i t' hi ht' => by
      by_cases hij : i = j
      ·subst hij; rw [ht] at ht'; cases ht'; exact hq
      ·exact HJ.out i t' (by omega) ht',hbel.trans (hb1.mono (by have := hbel.size; simp at this; omega))⟩
     case measure => simp [intOf]; omega
    | false =>
     rw [hq] at HSTEP
     have HR := hid (show res = false by
      rw [HF.out,Bool.eq_false_iff]; intro hc
      have := (plainL_get L).1 hc j t ht
      rw [hq] at this; cases this)
     go_wp2_with (go_at_call 55; go_must (refine HSTEP.out.mono ?_; rintro e w1 ⟨rfl,hb1⟩))
     go_ret
     exact ⟨ret_bool HR.out.symm,vonto hbw hb1⟩
   ·have HR := hid (show res = true by
     rw [HF.out]; exact (plainL_get L).2 fun i t h => HJ.out i t (by have := lt_of_some h; omega) h)
    go_wp2_with fail
    go_ret
    exact ⟨ret_bool HR.out.symm,hbw⟩
 by_cases k6 : k = 6
 ·subst k6
  have HF := hid (show res = (keysB K && plainL V) by rw [HE.out,HKC.out,HL0.out (by decide)]; unfold kindC; simp [plainL])
  clear k0 k1 k2 k3 k4 k7 k5
  go_wp2_with fail
  go_loopw [7] (fun i wr => ∃ j : Nat,j ≤ V.length ∧ i = .int .i64 j ∧ Hid (∀ (i : Nat) (t : VT),i < j → V[i]? = some t → plainT t = true) ∧ Hid (∀ i < j,strOkB (K.getD i ⟨#[]⟩) = true ∧ (0 < i → ltB (K.getD (i - 1) ⟨#[]⟩).data.toList (K.getD i ⟨#[]⟩).data.toList = true)) ∧ Below (w.heap.size + 1) (w.alloc (.cells #[.int .i64 6,.int .i64 n,.string s,.slice oL L.length capL,.slice oM V.length capM] 29)) wr) (fun i _ => V.length - (intOf i).toNat)
  case atStart => exact ⟨0,Nat.zero_le _,rfl,fun i t h => absurd h (Nat.not_lt_zero _),fun i h => absurd h (Nat.not_lt_zero _),Below.refl _ _⟩
  case round =>
   obtain ⟨j,hj,rfl,HJ,HKJ,hbel⟩ := hrel
   have hbw : Below w.heap.size w wr := hbase.trans (hbel.mono (by omega))
   have hB4 := box_cell w wr _ _ _ _ _ _ hbel 4 _ rfl
   by_cases hlt : j < V.length
   ·obtain ⟨t,ht⟩ : ∃ t,V[j]? = some t := ⟨V[j],List.getElem?_eq_getElem hlt⟩
    obtain ⟨c,hc⟩ : ∃ c,K[j]? = some c := ⟨K[j],List.getElem?_eq_getElem (by omega)⟩
    obtain rfl := HM3.out (by omega)
    have A1 := above_cell hB4
    have k0' := above_cell (keepCell hbw (cK j c hc).1)
    have hnode := (cM j t ht).onto hbw
    simp only [Node,nx] at hnode
    obtain ⟨d0,d1,d2,d3,d4⟩ := hnode
    have D0 := above_cell d0; have D1 := above_cell d1; have D2 := above_cell d2; have D3 := above_cell d3; have D4 := above_cell d4
    have cstr := hid (fun X : Abv wr => str_any c X.u (cK j c hc).2)
    have HT' := hid ((rM j t ht).onto hbw)
    have hzt := HTV.out j t ht
    have HSTEP := hid (fun X : Abv wr => ih t (p j) (q j) X.u (by omega) (HT'.out.onto X.h))
    simp only [vv] at HSTEP
    cases hso : strOkB c with
    | false =>
     rw [hso] at cstr
     have HR := hid (show res = false by rw [HF.out,keys_no hc hso]; rfl)
     go_wp2_with fail
     have hinh := abv_some wr
     refine wp_region_above (by kernel_rfl) (by kernel_rfl) ?_
     repeat (go_big_quiet_step ((first
      | (go_at_call 47; exact above_of (cstr.out _))
      | (go_at_call 55; exact above_of (HSTEP.out _)))))
     refine wpQuiet_nil ?_
     intro _ hw'
     obtain ⟨X,hX⟩ := hw'
     subst hX
     go_wp2_with fail
     go_ret
     exact ⟨ret_bool HR.out.symm,hbw.trans (X.h.mono hbw.size)⟩
    | true =>
     rw [hso] at cstr
     by_cases hj0 : j = 0
     ·have tp : decide (0 < (j : Int)) = false := decide_eq_false (by omega)
      have tp3 : decide (0 < j) = false := decide_eq_false (by omega)
      have HJ0 := hid hj0
      clear hj0
      cases hq : plainT t with
      | true =>
       rw [hq] at HSTEP
       go_wp2_with fail
       have hinh := abv_some wr
       refine wp_region_above (by kernel_rfl) (by kernel_rfl) ?_
       repeat (go_big_quiet_step ((first
        | (go_at_call 47; exact above_of (cstr.out _))
        | (go_at_call 55; exact above_of (HSTEP.out _)))))
       refine wpQuiet_nil ?_
       intro _ hw'
       obtain ⟨X,hX⟩ := hw'
       subst hX
       go_wp2_with fail
       refine ⟨?_,?_⟩
       ·exact ⟨j + 1,by omega,val_int (by omega),fun i' t' hi' ht' => by
         by_cases hij : i' = j
         ·subst hij; rw [ht] at ht'; cases ht'; exact hq
         ·exact HJ.out i' t' (by omega) ht',fun i' hi' => by
         by_cases hij : i' = j
         ·subst hij; exact ⟨by rw [getD_some hc]; exact hso,fun h => absurd h (by have := HJ0.out; omega)⟩
         ·exact HKJ.out i' (by omega),hbel.trans (X.h.mono (by have := hbel.size; simp at this; omega))⟩
       ·simp [intOf]; omega
      | false =>
       rw [hq] at HSTEP
       have HR := hid (show res = false by
        rw [HF.out]
        have : plainL V = false := by
         rw [Bool.eq_false_iff]; intro hcc
         have := (plainL_get V).1 hcc _ t ht
         rw [hq] at this; cases this
        rw [this]; simp)
       go_wp2_with fail
       have hinh := abv_some wr
       refine wp_region_above (by kernel_rfl) (by kernel_rfl) ?_
       repeat (go_big_quiet_step ((first
        | (go_at_call 47; exact above_of (cstr.out _))
        | (go_at_call 55; exact above_of (HSTEP.out _)))))
       refine wpQuiet_nil ?_
       intro _ hw'
       obtain ⟨X,hX⟩ := hw'
       subst hX
       go_wp2_with fail
       go_ret
       exact ⟨ret_bool HR.out.symm,hbw.trans (X.h.mono hbw.size)⟩
     ·obtain ⟨i,rfl⟩ : ∃ i,j = i + 1 := ⟨j - 1,by omega⟩
      clear hj0
      obtain ⟨b9,hb9⟩ : ∃ c,K[i]? = some c := ⟨K[i],List.getElem?_eq_getElem (by omega)⟩
      have k1' := above_cell (keepCell hbw (cK i b9 hb9).1)
      rw [show ((i + 1 : Nat) : Int) = (i : Int) + 1 by omega]
      have tp : decide ((i : Int) + 1 > 0) = true := decide_eq_true (by omega)
      have ti : (i : Int) + 1 - 1 = i := by omega
      cases hl : ltB b9.data.toList c.data.toList with
      | false =>
       have HR := hid (show res = false by rw [HF.out,keys_fall hc hb9 hl]; rfl)
       rcases leq_yes hl with t1 | ⟨t1,t2⟩
       all_goals
        go_wp2_with fail
        have hinh := abv_some wr
        refine wp_region_above (by kernel_rfl) (by kernel_rfl) ?_
        repeat (go_big_quiet_step ((first
         | (go_at_call 47; exact above_of (cstr.out _))
         | (go_at_call 55; exact above_of (HSTEP.out _)))))
        refine wpQuiet_nil ?_
        intro _ hw'
        obtain ⟨X,hX⟩ := hw'
        subst hX
        go_wp2_with fail
        go_ret
        exact ⟨ret_bool HR.out.symm,hbw.trans (X.h.mono hbw.size)⟩
      | true =>
       obtain ⟨t1,t2⟩ := leq_no hl
       cases hq : plainT t with
       | true =>
        rw [hq] at HSTEP
        go_wp2_with fail
        have hinh := abv_some wr
        refine wp_region_above (by kernel_rfl) (by kernel_rfl) ?_
        repeat (go_big_quiet_step ((first
         | (go_at_call 47; exact above_of (cstr.out _))
         | (go_at_call 55; exact above_of (HSTEP.out _)))))
        refine wpQuiet_nil ?_
        intro _ hw'
        obtain ⟨X,hX⟩ := hw'
        subst hX
        go_wp2_with fail
        refine ⟨?_,?_⟩
        ·exact ⟨(i + 1) + 1,by omega,val_int (by omega),fun i' t' hi' ht' => by
          by_cases hij : i' = (i + 1)
          ·subst hij; rw [ht] at ht'; cases ht'; exact hq
          ·exact HJ.out i' t' (by omega) ht',fun i' hi' => by
          by_cases hij : i' = (i + 1)
          ·subst hij; exact ⟨by rw [getD_some hc]; exact hso,fun _ => by rw [getD_some hc,show i + 1 - 1 = i from rfl,getD_some hb9]; exact hl⟩
          ·exact HKJ.out i' (by omega),hbel.trans (X.h.mono (by have := hbel.size; simp at this; omega))⟩
        ·simp [intOf]; omega
       | false =>
        rw [hq] at HSTEP
        have HR := hid (show res = false by
         rw [HF.out]
         have : plainL V = false := by
          rw [Bool.eq_false_iff]; intro hcc
          have := (plainL_get V).1 hcc _ t ht
          rw [hq] at this; cases this
         rw [this]; simp)
        go_wp2_with fail
        have hinh := abv_some wr
        refine wp_region_above (by kernel_rfl) (by kernel_rfl) ?_
        repeat (go_big_quiet_step ((first
         | (go_at_call 47; exact above_of (cstr.out _))
         | (go_at_call 55; exact above_of (HSTEP.out _)))))
        refine wpQuiet_nil ?_
        intro _ hw'
        obtain ⟨X,hX⟩ := hw'
        subst hX
        go_wp2_with fail
        go_ret
        exact ⟨ret_bool HR.out.symm,hbw.trans (X.h.mono hbw.size)⟩
   ·have HR := hid (show res = true by
     rw [HF.out,(plainL_get V).2 fun i t h => HJ.out i t (by have := lt_of_some h; omega) h]
     have : keysB K = true := by unfold keysB; rw [decide_eq_true]; intro i hi; exact HKJ.out i (by omega)
     rw [this]; rfl)
    go_wp2_with fail
    go_ret
    exact ⟨ret_bool HR.out.symm,hbw⟩
 have HF := hid (show res = false by rw [HE.out,HKC.out]; unfold kindC; rw [if_neg k0,if_neg k2,if_neg k1,if_neg k3,if_neg k4,if_neg k7,if_neg k5,if_neg k6]; rfl)
 have j0 := (ikey _ _ k0).1
 have j1 := (ikey _ _ k1).1
 have j2 := (ikey _ _ k2).1
 have j3 := (ikey _ _ k3).1
 have j4 := (ikey _ _ k4).1
 have j7 := (ikey _ _ k7).1
 have j5 := (ikey _ _ k5).1
 have j6 := (ikey _ _ k6).1
 clear k0 k1 k2 k3 k4 k5 k6 k7
 go_wp2_with fail
 go_ret
 exact ⟨ret_bool HF.out.symm,hbase⟩
end Go.Proofs.YteimbjamnfkapaaGreatDoor
