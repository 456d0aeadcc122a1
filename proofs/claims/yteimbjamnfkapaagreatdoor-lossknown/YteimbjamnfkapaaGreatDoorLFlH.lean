import Derived.Test.YteimbjamnfkapaaGreatDoorLFlB2
import Derived.Test.YteimbjamnfkapaaGreatDoorLOwnB
import Derived.Test.YteimbjamnfkapaaGreatDoorLMathFd
/- flat: a node visited: another way. -/
namespace Go.Proofs.YteimbjamnfkapaaGreatDoor
open Go.RowKit
set_option maxRecDepth 100000 in
set_option maxHeartbeats 4000000 in
theorem lvisit_list (W : World) (T : VT) (x y : Value) (b : Nat) (nv pv0 : Value) (now : List PStep) (E : List LE) (w : World) (hP : plainT T = true) (hT : HV W T x y) (hW : Lk W b nv pv0 now E w) (hn : now.length + szT T ≤ 2000000) (hE : E.length + szT T ≤ 2000000) (hsz0 : szT T ≤ 1000000) (HIH : Hid (∀ t,szT t < szT T → LVisitOk W t)) (hk5 : T.kd = 5) (hl0 : 0 < T.ls.length) :
  Calls Tryz.prog 56 #[.pointer (some ⟨b,0,none⟩),vv T x y] w fun e w' => e = .returned (.tuple #[]) ∧ ∃ nv2 pv2 E2,Lk W b nv2 pv2 now E2 w' ∧ E2.map LE.pt = E.map LE.pt ++ lfT T now := by
 have HALL := hid (show lfT T now = lfL T.ls 0 now by rw [lfT_at,if_pos ⟨hk5,hl0⟩])
 have t5 : (T.kd == 5) = true := by simpa using hk5
 have hl1 : ((0 : Int) < (T.ls.length : Int)) := by omega
 clear hk5
 obtain ⟨al,bl,f,g,p,q,oL,oM,cL,cM,rfl,rfl,-,-,hL3,hM3,hK,-,hlL,hlM,kL,kK,kM,rL,rM,-,-⟩ := hT.parts
 obtain ⟨⟨on,cn,rfl⟩,⟨op,cp,rfl⟩⟩ := hW.slices
 have HW := hid (fun X (hX : Below w.heap.size w X) => hW.onto hX)
 have hltb := hW.lt
 have HkL := hid kL; have HkK := hid kK; have HkM := hid kM; have HrL := hid rL; have HrM := hid rM; have HKL := hid hK
 have HPT := hid hP
 have hsz := szT_at T
 have hlen := len_sz T
 obtain rfl := hL3 hl0
 clear hL3 hM3 hT hW kL kK kM rL rM hK hP
 simp only [vv]
 go_enter Tryz.func56,Tryz.ntmps56
 go_wp2_with fail
 have hb0 : Below w.heap.size w (w.alloc (.cells #[.int .i64 T.kd,.int .i64 T.nm,.string T.st,.slice (some al) T.ls.length cL,.slice oM T.vs.length cM] 29)) := valloc_bel (Below.refl _ _) _
 have HD := hid (HW.out _ hb0)
 go_loopw [38] (fun i wr => ∃ (j : Nat) (nv2 pv2 : Value) (E2 : List LE),i = .int .i64 j ∧ j ≤ T.ls.length ∧ Hid (Lk W b nv2 pv2 now E2 wr) ∧ Hid (E2.map LE.pt = E.map LE.pt ++ lfL (T.ls.take j) 0 now)) (fun i _ => T.ls.length - (intOf i).toNat)
 case atStart => exact ⟨0,_,_,E,rfl,Nat.zero_le _,HD.out,hid (by simp [lfL])⟩
 case round =>
  obtain ⟨j,nv2,pv2,E2,rfl,hj,HK2,HE2⟩ := hrel
  by_cases hlt : j < T.ls.length
  ·obtain ⟨t,ht⟩ : ∃ t,T.ls[j]? = some t := ⟨T.ls[j],List.getElem?_eq_getElem hlt⟩
   obtain ⟨d0,d1,d2,d3,d4⟩ := (HkL.out j t ht).onto HK2.out.bel
   obtain ⟨o1,n1,c1,o2,n2,c2,hf,hg⟩ := hv_slices (HrL.out j t ht)
   rw [hf] at d3
   rw [hg] at d4
   have hsm := szT_ls T j t ht
   have hE2 := map_len HE2.out
   simp only [List.length_append,List.length_map] at hE2
   have ha1 := lfL_len (T.ls.take j) 0 now
   have ha2 := szL_take_succ T.ls j t ht
   have ha3 := szL_take_le T.ls (j + 1)
   have C := hid (fun (X : World) (hX : Below wr.heap.size wr X) => lenter_any W t (HIH.out t hsm) (lpl j) _ _ b nv2 pv2 now E2 X (plain_ls HPT.out ht) (HrL.out j t ht) (HK2.out.onto hX) (by omega) (by omega))
   rw [hf,hg] at C
   simp only [vv,pv,lpl] at C
   have HSN := hid (show lfL (T.ls.take (j + 1)) 0 now = lfL (T.ls.take j) 0 now ++ lfT t (now ++ [lpl j]) by
    rw [List.take_add_one,ht]
    show lfL (T.ls.take j ++ [t]) 0 now = _
    rw [lfL_snoc,List.length_take,Nat.min_eq_left hj,Nat.zero_add])
   clear ht hf hg hE2 ha1 ha2 ha3 hsm
   go_wp2_with fail
   go_at_call 102
   refine (C.out _ (valloc_bel (Below.refl _ _) _)).mono ?_
   rintro e w2 ⟨rfl,nv3,pv3,E3,hk3,he3⟩
   have HK3 := hid hk3
   have HE3 := hid he3
   clear hk3 he3 C
   go_wp2_with fail
   go_roundw
   case rel => exact ⟨j + 1,nv3,pv3,E3,val_int (by omega),hlt,HK3.out,hid (by rw [HSN.out,HE3.out,HE2.out]; simp [lpl])⟩
   case measure => simp [intOf]; omega
  ·have htk : T.ls.take j = T.ls := List.take_of_length_le (by omega)
   rw [htk] at HE2
   clear htk
   go_wp2_with fail
   refine bodyPost_end (v := .tuple #[]) (by simp [results,Tryz.results56,go_sem]) rfl ?_
   exact ⟨rfl,_,_,E2,HK2.out,by rw [HE2.out,HALL.out]⟩
end Go.Proofs.YteimbjamnfkapaaGreatDoor
/- flat: a node visited: another way. -/
namespace Go.Proofs.YteimbjamnfkapaaGreatDoor
open Go.RowKit
set_option maxRecDepth 100000 in
set_option maxHeartbeats 4000000 in
theorem lvisit_map (W : World) (T : VT) (x y : Value) (b : Nat) (nv pv0 : Value) (now : List PStep) (E : List LE) (w : World) (hP : plainT T = true) (hT : HV W T x y) (hW : Lk W b nv pv0 now E w) (hn : now.length + szT T ≤ 2000000) (hE : E.length + szT T ≤ 2000000) (hsz0 : szT T ≤ 1000000) (HIH : Hid (∀ t,szT t < szT T → LVisitOk W t)) (hk6 : T.kd = 6) (hl0 : 0 < T.vs.length) :
  Calls Tryz.prog 56 #[.pointer (some ⟨b,0,none⟩),vv T x y] w fun e w' => e = .returned (.tuple #[]) ∧ ∃ nv2 pv2 E2,Lk W b nv2 pv2 now E2 w' ∧ E2.map LE.pt = E.map LE.pt ++ lfT T now := by
 have HALL := hid (show lfT T now = lfM T.vs T.ks now by rw [lfT_at,if_neg (by omega),if_pos ⟨hk6,hl0⟩])
 have t5 : (T.kd == 5) = false := by simp; omega
 have t6 : (T.kd == 6) = true := by simpa using hk6
 have hl1 : ((0 : Int) < (T.vs.length : Int)) := by omega
 clear hk6
 obtain ⟨al,bl,f,g,p,q,oL,oM,cL,cM,rfl,rfl,-,-,hL3,hM3,hK,-,hlL,hlM,kL,kK,kM,rL,rM,-,-⟩ := hT.parts
 obtain ⟨⟨on,cn,rfl⟩,⟨op,cp,rfl⟩⟩ := hW.slices
 have HW := hid (fun X (hX : Below w.heap.size w X) => hW.onto hX)
 have hltb := hW.lt
 have HkL := hid kL; have HkK := hid kK; have HkM := hid kM; have HrL := hid rL; have HrM := hid rM; have HKL := hid hK
 have HPT := hid hP
 have hsz := szT_at T
 have hlen := len_sz T
 obtain rfl := hM3 hl0
 clear hL3 hM3 hT hW kL kK kM rL rM hK hP
 simp only [vv]
 go_enter Tryz.func56,Tryz.ntmps56
 go_wp2_with fail
 have hb0 : Below w.heap.size w (w.alloc (.cells #[.int .i64 T.kd,.int .i64 T.nm,.string T.st,.slice oL T.ls.length cL,.slice (some bl) T.vs.length cM] 29)) := valloc_bel (Below.refl _ _) _
 have HD := hid (HW.out _ hb0)
 go_loopw [62] (fun i wr => ∃ (j : Nat) (nv2 pv2 : Value) (E2 : List LE),i = .int .i64 j ∧ j ≤ T.vs.length ∧ Hid (Lk W b nv2 pv2 now E2 wr) ∧ Hid (E2.map LE.pt = E.map LE.pt ++ lfM (T.vs.take j) T.ks now)) (fun i _ => T.vs.length - (intOf i).toNat)
 case atStart => exact ⟨0,_,_,E,rfl,Nat.zero_le _,HD.out,hid (by simp [lfM])⟩
 case round =>
  obtain ⟨j,nv2,pv2,E2,rfl,hj,HK2,HE2⟩ := hrel
  by_cases hlt : j < T.vs.length
  ·obtain ⟨t,ht⟩ : ∃ t,T.vs[j]? = some t := ⟨T.vs[j],List.getElem?_eq_getElem hlt⟩
   obtain ⟨key,hkey⟩ : ∃ c,T.ks[j]? = some c := ⟨T.ks[j]'(by have := HKL.out; omega),List.getElem?_eq_getElem _⟩
   obtain ⟨d0,d1,d2,d3,d4⟩ := (HkM.out j t ht).onto HK2.out.bel
   have dk := keepCell HK2.out.bel (HkK.out j key hkey).1
   obtain ⟨o1,n1,c1,o2,n2,c2,hf,hg⟩ := hv_slices (HrM.out j t ht)
   rw [hf] at d3
   rw [hg] at d4
   simp only [nx] at d0 d1 d2 d3 d4
   have hsm := szT_vs T j t ht
   have hE2 := map_len HE2.out
   simp only [List.length_append,List.length_map] at hE2
   have ha1 := lfM_len (T.vs.take j) T.ks now
   have ha2 := szL_take_succ T.vs j t ht
   have ha3 := szL_take_le T.vs (j + 1)
   have C := hid (fun (X : World) (hX : Below wr.heap.size wr X) => lenter_any W t (HIH.out t hsm) (lky key) _ _ b nv2 pv2 now E2 X (plain_vs HPT.out ht) (HrM.out j t ht) (HK2.out.onto hX) (by omega) (by omega))
   rw [hf,hg] at C
   simp only [vv,pv,lky] at C
   have HSN := hid (show lfM (T.vs.take (j + 1)) T.ks now = lfM (T.vs.take j) T.ks now ++ lfT t (now ++ [lky key]) by
    rw [List.take_add_one,ht]
    show lfM (T.vs.take j ++ [t]) T.ks now = _
    rw [lfM_snoc t now _ _ key (by rw [List.length_take,Nat.min_eq_left hj]; exact hkey)])
   clear ht hf hg hE2 ha1 ha2 ha3 hsm hkey
   go_wp2_with fail
   go_at_call 102
   refine (C.out _ (valloc_bel (Below.refl _ _) _)).mono ?_
   rintro e w2 ⟨rfl,nv3,pv3,E3,hk3,he3⟩
   have HK3 := hid hk3
   have HE3 := hid he3
   clear hk3 he3 C
   go_wp2_with fail
   go_roundw
   case rel => exact ⟨j + 1,nv3,pv3,E3,val_int (by omega),hlt,HK3.out,hid (by rw [HSN.out,HE3.out,HE2.out]; simp [lky])⟩
   case measure => simp [intOf]; omega
  ·have htk : T.vs.take j = T.vs := List.take_of_length_le (by omega)
   rw [htk] at HE2
   clear htk
   go_wp2_with fail
   refine bodyPost_end (v := .tuple #[]) (by simp [results,Tryz.results56,go_sem]) rfl ?_
   exact ⟨rfl,_,_,E2,HK2.out,by rw [HE2.out,HALL.out]⟩
end Go.Proofs.YteimbjamnfkapaaGreatDoor
/- flat: a node visited, every way; Leaves. -/
namespace Go.Proofs.YteimbjamnfkapaaGreatDoor
open Go.RowKit
theorem lvisit_any (W : World) : ∀ (N : Nat) (T : VT),szT T ≤ N → szT T ≤ 1000000 → LVisitOk W T := by
 intro N
 induction N with
 | zero => intro T h; have := szT_pos T; omega
 | succ N ih =>
 intro T hN hm hP x y b nv pv0 now E w hT hW hn hE
 have HIH : Hid (∀ t,szT t < szT T → LVisitOk W t) := hid (fun t ht => ih t (by omega) (by omega))
 by_cases h5 : T.kd = 5
 ·by_cases hl : 0 < T.ls.length
  ·exact lvisit_list W T x y b nv pv0 now E w hP hT hW hn hE hm HIH h5 hl
  ·exact lvisit_leaf5 W T x y b nv pv0 now E w hP hT hW hn hE hm h5 (by omega)
 ·by_cases h6 : T.kd = 6
  ·by_cases hl : 0 < T.vs.length
   ·exact lvisit_map W T x y b nv pv0 now E w hP hT hW hn hE hm HIH h6 hl
   ·exact lvisit_leaf6 W T x y b nv pv0 now E w hP hT hW hn hE hm h6 (by omega)
  ·exact lvisit_leafo W T x y b nv pv0 now E w hP hT hW hn hE hm h5 h6
set_option maxRecDepth 100000 in
set_option maxHeartbeats 1000000 in
theorem leaves_any (T : VT) (x y : Value) (w : World) (hT : HV w T x y) (hP : plainT T = true) (hm : szT T ≤ 1000000) :
  Calls Tryz.prog 23 #[vv T x y] w fun e w' => ∃ v E,e = .returned v ∧ OwnF w w' v E ∧ (∀ e ∈ E,OwnS w w' e.u e.p ∧ Bare e) ∧ E.map LE.pt = lfT T [] ∧ Below w.heap.size w w' := by
 obtain ⟨o1,n1,c1,o2,n2,c2,rfl,rfl⟩ := hv_slices hT
 have HN := hid (lk_new w (.cells #[.int .i64 T.kd,.int .i64 T.nm,.string T.st,.slice o1 n1 c1,.slice o2 n2 c2] 29))
 have HC := hid (lvisit_any w (szT T) T (Nat.le_refl _) hm hP _ _ _ _ _ _ _ _ hT HN.out (by simp; omega) (by simp; omega))
 simp only [vv] at HC ⊢
 clear hT
 go_enter Tryz.func23,Tryz.ntmps23
 go_wp2_with fail
 go_at_call 56
 refine HC.out.mono ?_
 rintro e w1 ⟨rfl,nv2,pv2,E2,hk,he⟩
 obtain ⟨q0,q1,-⟩ := hk.cells
 obtain ⟨⟨oa,ca,rfl⟩,⟨ob,cb,rfl⟩⟩ := hk.slices
 have HK := hid hk
 have HE := hid he
 clear hk he HC HN
 go_wp2_with fail
 go_ret
 exact ⟨_,E2,rfl,HK.out.ps,fun e he => ⟨(HK.out.es e he).1,HK.out.bs e he⟩,by rw [HE.out]; rfl,HK.out.bel⟩
end Go.Proofs.YteimbjamnfkapaaGreatDoor
/- flat.columnsOf, walked. -/
namespace Go.Proofs.YteimbjamnfkapaaGreatDoor
open Go.RowKit
def InLf (w : World) (l : List (List PStep × VT)) (v : Value) : Prop := ∃ a,SlOf v a l.length ∧ ∀ i e,l[i]? = some e → ∃ u x y,w.cell? (a.add (i * 6)) = some u ∧ Node w (nx (a.add (i * 6))) e.2 x y ∧ InP w e.1 u ∧ HV w e.2 x y
theorem InLf.onto {w w' : World} {l : List (List PStep × VT)} {v : Value} (h : InLf w l v) (hb : Below w.heap.size w w') : InLf w' l v := by
 obtain ⟨a,h1,h2⟩ := h
 exact ⟨a,h1,fun i e he => by obtain ⟨u,x,y,h3,h4,h5,h6⟩ := h2 i e he; exact ⟨u,x,y,keepCell hb h3,h4.onto hb,h5.onto hb,h6.onto hb⟩⟩
def InMs (w : World) (X : List (List (List PStep × VT))) (v : Value) : Prop := ∃ a,SlOf v a X.length ∧ ∀ i l,X[i]? = some l → ∃ u,w.cell? (a.add i) = some u ∧ InLf w l u
theorem InMs.onto {w w' : World} {X : List (List (List PStep × VT))} {v : Value} (h : InMs w X v) (hb : Below w.heap.size w w') : InMs w' X v := by
 obtain ⟨a,h1,h2⟩ := h
 exact ⟨a,h1,fun i e he => by obtain ⟨u,h3,h4⟩ := h2 i e he; exact ⟨u,keepCell hb h3,h4.onto hb⟩⟩
theorem inlf_of {w' : World} {B : Nat} {v : Value} {E : List LE} (h : w'.ownsRow B 43 6 v E.length (E.flatMap lcE)) (hE : ∀ e ∈ E,w'.ownsRow B 78 3 e.u e.p.length (e.p.flatMap sc) ∧ Bare e) (hk : ∀ e ∈ E,∀ s ∈ e.p,s.key.size ≤ maxLen) : InLf w' (E.map LE.pt) v := by
 have hc := h
 rcases hc with ⟨-,⟨rfl,h0⟩ | ⟨g,cap,cur,rfl,-,-,hn,hcm,-,-⟩⟩
 ·have : E = [] := List.eq_nil_of_length_eq_zero h0
  subst this
  exact ⟨⟨0,0,none⟩,⟨none,0,rfl,Nat.le_refl _,Nat.zero_le _,fun h => absurd h (by simp)⟩,fun i s h => by simp at h⟩
 have key : ∀ (i : Nat) (e : LE),E[i]? = some e → ∀ (c : Nat) (u : Value),(lcE e)[c]? = some u → w'.cell? ⟨g,i * 6 + c,none⟩ = some u := by
  intro i e he c u hu
  have hi := lt_of_some he
  have hc : c < 6 := lt_of_some hu
  have h' : w'.ownsRow B 43 6 (.slice (some ⟨g,0,none⟩) E.length cap) E.length (E.flatMap lcE) := h
  rw [h'.cellAt (i * 6 + c) (by omega),flat_at lcE 6 (fun _ => rfl) E i c e he hc]
  exact hu
 refine ⟨⟨g,0,none⟩,⟨_,cap,by rw [List.length_map],by simpa using hn,hcm,fun _ => rfl⟩,fun i e' he' => ?_⟩
 rw [List.getElem?_map] at he'
 obtain ⟨e,he,rfl⟩ := Option.map_eq_some_iff.1 he'
 have hm := List.mem_of_getElem? he
 obtain ⟨h1,h2⟩ := hE e hm
 refine ⟨e.u,e.x,e.y,?_,?_,own_inp h1 (hk e hm),h2.2 w'⟩
 ·rw [add_at]; exact key i e he 0 _ rfl
 ·rw [add_at]
  exact ⟨key i e he 1 _ rfl,key i e he 2 _ rfl,key i e he 3 _ rfl,key i e he 4 _ rfl,key i e he 5 _ rfl⟩
structure ColS (w wr : World) (cv : Value) (R : List (List PStep)) : Prop where
 bel : Below w.heap.size w wr
 own : ∃ U : List Value,wr.ownsRow w.heap.size 41 1 cv R.length U ∧ U.length = R.length ∧ (∀ (i : Nat) (p : List PStep) (u : Value),R[i]? = some p → U[i]? = some u → InP w p u) ∧ ∀ u ∈ U,u.oneCell' = true
theorem ColS.onto {w wr wr' : World} {cv : Value} {R : List (List PStep)} (h : ColS w wr cv R) (hb : Below wr.heap.size wr wr') : ColS w wr' cv R := by
 obtain ⟨U,h1,h2⟩ := h.own
 exact ⟨vonto h.bel hb,U,ownsRow_below h1 hb,h2⟩
theorem ColS.sl {w wr : World} {cv : Value} {R : List (List PStep)} (h : ColS w wr cv R) : ∃ o c,cv = .slice o R.length c := by
 obtain ⟨U,h1,-⟩ := h.own
 exact own_slice h1
theorem ColS.inC {w wr : World} {cv : Value} {R : List (List PStep)} (h : ColS w wr cv R) : InC wr R cv := by
 obtain ⟨U,h1,h2,h3,-⟩ := h.own
 have hc := h1
 rcases hc with ⟨-,⟨rfl,h0⟩ | ⟨g,cap,cur,rfl,-,-,hn,hcm,-,-⟩⟩
 ·have : R = [] := List.eq_nil_of_length_eq_zero h0
  subst this
  exact ⟨⟨0,0,none⟩,⟨none,0,rfl,Nat.le_refl _,Nat.zero_le _,fun h => absurd h (by simp)⟩,fun i s h => by simp at h⟩
 ·refine ⟨⟨g,0,none⟩,⟨_,_,rfl,hn,hcm,fun _ => rfl⟩,fun i p hp => ?_⟩
  have hi := lt_of_some hp
  obtain ⟨u,hu⟩ : ∃ u,U[i]? = some u := ⟨U[i],List.getElem?_eq_getElem (by omega)⟩
  refine ⟨u,?_,(h3 i p u hp hu).onto h.bel⟩
  rw [add_at,h1.cellAt i (by omega)]; exact hu
theorem ColS.put {w wr w3 : World} {cv v' u : Value} {R : List (List PStep)} {p : List PStep} (h : ColS w wr cv R) (hn : hasC R p = false) (U : List Value) (hU : wr.ownsRow w.heap.size 41 1 cv R.length U ∧ U.length = R.length ∧ (∀ (i : Nat) (p : List PStep) (u : Value),R[i]? = some p → U[i]? = some u → InP w p u) ∧ ∀ u ∈ U,u.oneCell' = true) (hu : InP w p u) (h1 : u.oneCell' = true)
  (h3 : w3.ownsRow w.heap.size 41 1 v' (R.length + 1) (U.take (posC R p) ++ u :: U.drop (posC R p))) (hg : wr.grownBy w3 cv.ownBlock) : ColS w w3 v' (putC R p) := by
 obtain ⟨a1,a2,a3,a4⟩ := hU
 have hle := posC_le R p
 have e : putC R p = R.take (posC R p) ++ p :: R.drop (posC R p) := by unfold putC; rw [if_neg (by rw [hn]; decide)]
 have el : (putC R p).length = R.length + 1 := by rw [e]; simp; omega
 refine ⟨h.bel.grown hg h.bel.size (fun q hq => (a1.lt q hq).1),U.take (posC R p) ++ u :: U.drop (posC R p),?_,?_,?_,?_⟩
 ·rw [el]; exact h3
 ·rw [el]; simp; omega
 ·intro i q v hq hv
  rw [cins_at _ _ _ _ (by omega)] at hv
  rw [e] at hq
  by_cases c1 : i < posC R p
  ·rw [if_pos c1] at hv
   rw [List.getElem?_append_left (by simp; omega),List.getElem?_take,if_pos c1] at hq
   exact a3 i q v hq hv
  ·rw [if_neg c1] at hv
   rw [List.getElem?_append_right (by simp; omega),List.length_take,Nat.min_eq_left hle] at hq
   by_cases c2 : i = posC R p
   ·rw [if_pos c2] at hv
    rw [c2,Nat.sub_self] at hq
    simp at hq hv
    subst hq hv; exact hu
   ·rw [if_neg c2] at hv
    rw [show i - posC R p = (i - posC R p - 1) + 1 by omega,List.getElem?_cons_succ,List.getElem?_drop,show posC R p + (i - posC R p - 1) = i - 1 by omega] at hq
    exact a3 (i - 1) q v hq hv
 ·intro v hv
  rcases List.mem_append.1 hv with hv | hv
  ·exact a4 v (List.mem_of_mem_take hv)
  ·rcases List.mem_cons.1 hv with rfl | hv
   ·exact h1
   ·exact a4 v (List.mem_of_mem_drop hv)
theorem inp_slice {w : World} {p : List PStep} {u : Value} (h : InP w p u) : ∃ o c,u = .slice o p.length c := by
 obtain ⟨a,⟨o,c,rfl,-⟩,-⟩ := h
 exact ⟨o,c,rfl⟩
def ColPost (X : List (List (List PStep × VT))) (w : World) (e : Ending) (w' : World) : Prop := ∃ cv R,e = .returned cv ∧ ColS w w' cv R ∧ Good3 R ∧ R.length ≤ 65 ∧ (R = colA X ∨ (64 < R.length ∧ 64 < (colA X).length))
theorem cols_next {X : List (List (List PStep × VT))} {i j : Nat} {l : List (List PStep × VT)} {e : List PStep × VT} (hX : X[i]? = some l) (he : l[j]? = some e) : (colF (l.take j ++ [e]) (colF (X.take i).flatten [])).length ≤ (colA X).length := by
 have h1 : X.flatten = (X.take i).flatten ++ ((l.take j ++ [e]) ++ (l.drop (j + 1) ++ (X.drop (i + 1)).flatten)) := by
  have hx := List.take_append_drop i X
  have hd : X.drop i = l :: X.drop (i + 1) := by
   obtain ⟨hi,rfl⟩ := List.getElem?_eq_some_iff.1 hX
   exact List.drop_eq_getElem_cons hi
  have hl := List.take_append_drop (j + 1) l
  rw [List.take_add_one,he] at hl
  calc X.flatten = (X.take i ++ X.drop i).flatten := by rw [hx]
   _ = (X.take i).flatten ++ (l ++ (X.drop (i + 1)).flatten) := by rw [hd,List.flatten_append,List.flatten_cons]
   _ = _ := by
    conv => lhs; rw [← hl]
    simp
 unfold colA
 rw [h1,colF_app (X.take i).flatten,colF_app (l.take j ++ [e])]
 exact colF_len _ _
set_option maxRecDepth 100000 in
set_option maxHeartbeats 8000000 in
theorem cols_any (X : List (List (List PStep × VT))) (v : Value) (w : World) (hX : InMs w X v) (hf : ∀ l ∈ X,∀ e ∈ l,FrmP e.1) :
  Calls Tryz.prog 58 #[v] w (ColPost X w) := by
 obtain ⟨a,⟨o,cap,rfl,h1,h2,h3⟩,hx⟩ := hX
 unfold maxLen at h2
 have HX := hid hx
 have HF := hid hf
 clear hx hf
 go_enter Tryz.func58,Tryz.ntmps58
 go_wp2_with fail
 go_loopw [3,13] (fun c i wr => ∃ (j : Nat) (R : List (List PStep)),i = .int .i64 j ∧ j ≤ X.length ∧ Hid (ColS w wr c R) ∧ Hid (R = colF (X.take j).flatten []) ∧ R.length ≤ 64 ∧ Hid (Good3 R)) (fun _ i _ => X.length - (intOf i).toNat)
 case atStart => exact ⟨0,[],rfl,Nat.zero_le _,hid ⟨(Below.refl _ _).alloc (Nat.le_refl _) _,[],⟨rfl,.inr ⟨w.heap.size,0,#[],rfl,Nat.le_refl _,by simp only [World.alloc,Array.getElem?_push_size],Nat.le_refl _,by unfold maxLen; omega,rfl,rfl⟩⟩,rfl,fun i p u h => by simp at h,fun u h => by simp at h⟩,rfl,by simp,hid Good3.nil⟩
 case round =>
  obtain ⟨i,R,rfl,hi,HS,HR,hR64,HG⟩ := hrel
  by_cases hlt : i < X.length
  ·obtain ⟨l,hl⟩ : ∃ l,X[i]? = some l := ⟨X[i],List.getElem?_eq_getElem hlt⟩
   obtain rfl := h3 (by omega)
   obtain ⟨lv,hlv,hil⟩ := HX.out i l hl
   have hlv' := keepCell HS.out.bel hlv
   obtain ⟨al,⟨ol,cl,rfl,hl1,hl2,hl3⟩,hle⟩ := hil
   unfold maxLen at hl2
   have HLE := hid hle
   have HL := hid hl
   have HFL := hid (HF.out l (List.mem_of_getElem? hl))
   clear hlv hle hl
   obtain ⟨oc,cc,rfl⟩ := HS.out.sl
   go_wp2_with fail
   go_loopw [3,19] (fun c j wr => ∃ (k : Nat) (R : List (List PStep)),j = .int .i64 k ∧ k ≤ l.length ∧ Hid (ColS w wr c R) ∧ Hid (R = colF (l.take k) (colF (X.take i).flatten [])) ∧ R.length ≤ 64 ∧ Hid (Good3 R)) (fun _ j _ => l.length - (intOf j).toNat)
   case atStart => exact ⟨0,R,rfl,Nat.zero_le _,HS,by rw [HR.out]; rfl,hR64,HG⟩
   case round =>
    clear HS HR HG hR64
    obtain ⟨k,Q,rfl,hk,HS,HR,hR64,HG⟩ := hrel
    by_cases hlt2 : k < l.length
    ·obtain ⟨e,he⟩ : ∃ e,l[k]? = some e := ⟨l[k],List.getElem?_eq_getElem hlt2⟩
     obtain rfl := hl3 (by omega)
     obtain ⟨u,x,y,c0,c1,hip,hhv⟩ := HLE.out k e he
     have c0' := keepCell HS.out.bel c0
     obtain ⟨d0,d1,d2,d3,d4⟩ := c1.onto HS.out.bel
     obtain ⟨o1,n1,k1,o2,n2,k2,rfl,rfl⟩ := hv_slices hhv
     simp only [nx] at d0 d1 d2 d3 d4
     have hfe := HFL.out e (List.mem_of_getElem? he)
     have HIP := hid hip
     obtain ⟨ou,cu,rfl⟩ := inp_slice hip
     obtain ⟨p,hp⟩ : ∃ p,e.1 = p := ⟨_,rfl⟩
     obtain ⟨T,hT⟩ : ∃ T,e.2 = T := ⟨_,rfl⟩
     have HFE := hid hfe
     rw [hp] at HIP c0' HFE
     rw [hT] at d0 d1 d2
     have HNX := hid (show colF (l.take (k + 1)) (colF (X.take i).flatten []) = putC Q p by
      rw [List.take_add_one,he]
      show colF (l.take k ++ [e]) _ = _
      rw [colF_app,← HR.out,← hp]; rfl)
     have HNL := hid (show (putC Q p).length ≤ (colA X).length by
      have := cols_next HL.out he
      rw [colF_app,← HR.out,colF_one,hp] at this; exact this)
     have hpl := (put_len Q p).2
     have HM := hid (srt_mono HG.out.s HG.out.f HFE.out)
     obtain ⟨oc2,cc2,rfl⟩ := HS.out.sl
     have HBS := hid (fun (W : World) (hW : Below wr.heap.size wr W) => bsearch_any Q p _ _ W ((HS.out.onto hW).inC) (HIP.out.onto (vonto HS.out.bel hW)) HM.out (by omega))
     have hple := posC_le Q p
     have HE := hid he
     clear c0 c1 hip hhv hfe hp hT he
     cases hh : hasC Q p with
     | true =>
      rw [hh] at HBS
      have HEQ := hid (show putC Q p = Q by unfold putC; rw [if_pos hh])
      clear hh
      go_wp2_with fail
      go_at_call 104
      refine (HBS.out _ (valloc_bel (Below.refl _ _) _)).mono ?_
      rintro e w2 ⟨rfl,hb2⟩
      have HS2 := hid (HS.out.onto (vonto (valloc_bel (Below.refl _ _) _) hb2))
      go_wp2_with fail
      go_roundw
      case rel => exact ⟨k + 1,Q,val_int (by omega),hlt2,HS2,hid (by rw [HNX.out,HEQ.out]),hR64,HG⟩
      case measure => simp [intOf]; omega
     | false =>
      rw [hh] at HBS
      have HH := hid hh
      clear hh
      go_wp2_with fail
      go_at_call 104
      refine (HBS.out _ (valloc_bel (Below.refl _ _) _)).mono ?_
      rintro e w2 ⟨rfl,hb2⟩
      have z0 : w2.cell? ⟨wr.heap.size,0,none⟩ = some (.slice ou p.length cu) := keepCell hb2 (by simp)
      have HS2 := hid (HS.out.onto (vonto (valloc_bel (Below.refl _ _) _) hb2))
      have hb3 : Below w2.heap.size w2 (w2.alloc (.cells #[.slice ou p.length cu] 41)) := valloc_bel (Below.refl _ _) _
      obtain ⟨U,hU⟩ := (HS2.out.onto hb3).own
      have hge : w.heap.size ≤ w2.heap.size := HS2.out.bel.size
      have HU := hid hU
      have CI := hid (cins_any w.heap.size Q.length (posC Q p) w2.heap.size U (.slice ou p.length cu) _ (w2.alloc (.cells #[.slice ou p.length cu] 41)) hple hU.1 (by have := hb3.size; omega) (by simp only [World.alloc,Array.getElem?_push_size]) (fun g hg => by
       obtain ⟨U',hU',-⟩ := HS2.out.own
       have := (hU'.lt g hg).2
       omega) rfl hU.2.2.2 (by omega))
      clear hU hb2
      go_wp2_with fail
      go_at_call 106
      refine CI.out.mono ?_
      rintro e w3 ⟨v',rfl,hown,hgr⟩
      have HS3 := hid ((HS2.out.onto hb3).put HH.out U HU.out HIP.out rfl hown hgr)
      obtain ⟨ov,cv,rfl⟩ := own_slice hown
      have hPl : (putC Q p).length = Q.length + 1 := by unfold putC; rw [if_neg (by rw [HH.out]; decide)]; simp; omega
      have HPL := hid hPl
      have HG3 := hid (HG.out.put HFE.out)
      clear hown hgr hPl hb3 z0 CI
      by_cases h64 : 64 < Q.length + 1
      ·go_wp2_with fail
       go_ret
       exact ⟨_,_,rfl,HS3.out,HG3.out,by rw [HPL.out]; omega,.inr ⟨by rw [HPL.out]; omega,by have := HNL.out; rw [HPL.out] at this; omega⟩⟩
      ·go_wp2_with fail
       go_roundw
       case rel => exact ⟨k + 1,putC Q p,val_int (by omega),hlt2,HS3,hid HNX.out.symm,by rw [HPL.out]; omega,HG3⟩
       case measure => simp [intOf]; omega
    ·have htk : l.take k = l := List.take_of_length_le (by omega)
     have HE2 := hid (show Q = colF (X.take (i + 1)).flatten [] by
      rw [take_flat X i l HL.out,colF_app,HR.out,htk])
     clear htk
     obtain ⟨oc2,cc2,rfl⟩ := HS.out.sl
     go_wp2_with fail
     go_roundw
     case rel => exact ⟨i + 1,Q,val_int (by omega),hlt,HS,HE2,hR64,HG⟩
     case measure => simp [intOf]; omega
  ·have htk : X.take i = X := List.take_of_length_le (by omega)
   have HE2 := hid (show R = colA X by rw [HR.out,htk]; rfl)
   clear htk
   obtain ⟨oc,cc,rfl⟩ := HS.out.sl
   go_wp2_with fail
   go_ret
   exact ⟨_,R,rfl,HS.out,HG.out,by omega,.inl HE2.out⟩
end Go.Proofs.YteimbjamnfkapaaGreatDoor
