/- The tree that awake looks at: row, walked. -/
import Derived.Test.YteimbjamnfkapaaGreatDoorLFlL
import Derived.Deep.DeepCutAuto
import Derived.Test.YteimbjamnfkapaaGreatDoorLVPlus
/- flat.Flat, walked: the table's box and its rows. -/
namespace Go.Proofs.YteimbjamnfkapaaGreatDoor
open Go.RowKit
structure Tb (w wr : World) (b g n : Nat) (hv : Value) (N : List ByteArray) (U : List Value) (Ks : List (List ByteArray)) : Prop where
 rw : RwS w wr g n U Ks
 hd : wr.ownsRow w.heap.size 9 1 hv N.length (N.map Value.string)
 c0 : wr.cell? ⟨b,0,none⟩ = some hv
 c1 : wr.cell? ⟨b,1,none⟩ = some (.slice (some ⟨g,0,none⟩) n n)
 bx : Row wr b 34 2
 lo : w.heap.size ≤ b
 ne : ¬ b = g
theorem Tb.onto {w wr wr' : World} {b g n : Nat} {hv : Value} {N : List ByteArray} {U : List Value} {Ks : List (List ByteArray)} (h : Tb w wr b g n hv N U Ks) (hb : Below wr.heap.size wr wr') : Tb w wr' b g n hv N U Ks :=
 ⟨h.rw.onto hb,ownsRow_below h.hd hb,keepCell hb h.c0,keepCell hb h.c1,h.bx.onto (hb.block _ h.bx.lt),h.lo,h.ne⟩
theorem Tb.set {w wr : World} {b g n : Nat} {hv : Value} {N : List ByteArray} {U : List Value} {Ks : List (List ByteArray)} (h : Tb w wr b g n hv N U Ks) (hj : Ks.length < n) {v : Value} {K : List ByteArray} (hv' : wr.ownsRow (g + 1) 9 1 v K.length (K.map Value.string)) (hK : ∀ c ∈ K,c.size ≤ maxLen) :
  Tb w (wr.setCell ⟨g,Ks.length,none⟩ v) b g n hv N (U.set Ks.length v) (Ks ++ [K]) := by
 refine ⟨h.rw.set hj hv' hK,?_,?_,?_,h.bx.set _ _,h.lo,h.ne⟩
 ·exact h.hd.kept (set_grownW wr g Ks.length v) (own_ne h.hd h.rw.own (by decide))
 ·rw [set_other _ _ _ _ _ _ (.inl (fun e => h.ne e.symm))]; exact h.c0
 ·rw [set_other _ _ _ _ _ _ (.inl (fun e => h.ne e.symm))]; exact h.c1
section
variable {P : Program} {Q : Exit → Act → World → Prop} {md : Region.Mode}
theorem st2_h {i j : Nat} {oi oj : Oper} {fuel : Nat} {listed : Array Bool} {a : Act} {w : World} {l : List Oper} {S : World → Prop} (hi : l[i]? = some oi) (hj : l[j]? = some oj) (hr : Region.ready md l.toArray listed = [i,j])
  (h1 : ∀ K : Act → World → Prop,Shut (∀ a w,S w → (S w → wpAnyH P md l.toArray Q S fuel (listed.setIfInBounds i true) a w) → K a w) → if Region.wanted oi (yielded l.toArray a.tmps) = true then Oper.wp P oi a w K Q else K (a.put oi.dst undef) w)
  (h2 : ∀ K : Act → World → Prop,Shut (∀ a w,S w → (S w → wpAnyH P md l.toArray Q S fuel (listed.setIfInBounds j true) a w) → K a w) → if Region.wanted oj (yielded l.toArray a.tmps) = true then Oper.wp P oj a w K Q else K (a.put oj.dst undef) w) : wpAnyH P md l.toArray Q S (fuel + 1) listed a w :=
 wpAnyH_ready hr (by simp) (AllReadyH.cons (by rw [List.getElem?_toArray]; exact hi) h1 (AllReadyH.cons (by rw [List.getElem?_toArray]; exact hj) h2 AllReadyH.nil))
theorem st3_h {i j k : Nat} {oi oj ok : Oper} {fuel : Nat} {listed : Array Bool} {a : Act} {w : World} {l : List Oper} {S : World → Prop} (hi : l[i]? = some oi) (hj : l[j]? = some oj) (hk : l[k]? = some ok) (hr : Region.ready md l.toArray listed = [i,j,k])
  (h1 : ∀ K : Act → World → Prop,Shut (∀ a w,S w → (S w → wpAnyH P md l.toArray Q S fuel (listed.setIfInBounds i true) a w) → K a w) → if Region.wanted oi (yielded l.toArray a.tmps) = true then Oper.wp P oi a w K Q else K (a.put oi.dst undef) w)
  (h2 : ∀ K : Act → World → Prop,Shut (∀ a w,S w → (S w → wpAnyH P md l.toArray Q S fuel (listed.setIfInBounds j true) a w) → K a w) → if Region.wanted oj (yielded l.toArray a.tmps) = true then Oper.wp P oj a w K Q else K (a.put oj.dst undef) w)
  (h3 : ∀ K : Act → World → Prop,Shut (∀ a w,S w → (S w → wpAnyH P md l.toArray Q S fuel (listed.setIfInBounds k true) a w) → K a w) → if Region.wanted ok (yielded l.toArray a.tmps) = true then Oper.wp P ok a w K Q else K (a.put ok.dst undef) w) : wpAnyH P md l.toArray Q S (fuel + 1) listed a w :=
 wpAnyH_ready hr (by simp) (AllReadyH.cons (by rw [List.getElem?_toArray]; exact hi) h1 (AllReadyH.cons (by rw [List.getElem?_toArray]; exact hj) h2 (AllReadyH.cons (by rw [List.getElem?_toArray]; exact hk) h3 AllReadyH.nil)))
end
theorem rows_ins {wr : World} {B g n : Nat} {U : List Value} {Ks : List (List ByteArray)} (own : wr.ownsRow B 22 1 (.slice (some ⟨g,0,none⟩) n n) n U) (es : ∀ (i : Nat) (K : List ByteArray),Ks[i]? = some K → ∃ u,U[i]? = some u ∧ wr.ownsRow (g + 1) 9 1 u K.length (K.map Value.string) ∧ ∀ c ∈ K,c.size ≤ maxLen) (hn : Ks.length = n) (hm : n ≤ 1000000) : InRs wr Ks (.slice (some ⟨g,0,none⟩) n n) := by
 refine ⟨⟨g,0,none⟩,⟨_,n,by rw [hn],by omega,by unfold maxLen; omega,fun _ => rfl⟩,fun i K hK => ?_⟩
 have hi := lt_of_some hK
 obtain ⟨u,h1,h2,h3⟩ := es i K hK
 exact ⟨u,by rw [add_at,own.cellAt i (by omega)]; exact h1,stro_ins h2 h3⟩
theorem nwf_bd {n : Int} (h : (Lit.int .i64 n).wf = true) : -9223372036854775808 ≤ n ∧ n < 9223372036854775808 := by
 simp [Lit.wf,IntKind.min,IntKind.max,IntKind.signed,IntKind.bits] at h
 omega
theorem inms_at {w : World} {X : List (List (List PStep × VT))} {g n : Nat} (h : InMs w X (.slice (some ⟨g,0,none⟩) n n)) {j : Nat} {l : List (List PStep × VT)} (hl : X[j]? = some l) : ∃ u,w.cell? ⟨g,j,none⟩ = some u ∧ InLf w l u := by
 obtain ⟨a,⟨o,cap,e,h1,h2,h3⟩,h4⟩ := h
 injection e with e1 e2 e3
 have h5 := h3 (by have := lt_of_some hl; omega)
 rw [← e1] at h5
 injection h5 with h5
 subst h5
 obtain ⟨u,h6,h7⟩ := h4 j l hl
 rw [add_at] at h6
 exact ⟨u,h6,h7⟩
structure Abx (w : World) (b : Nat) : Prop where
 c0 : w.cell? ⟨b,0,none⟩ = some (.slice none 0 0)
 c1 : w.cell? ⟨b,1,none⟩ = some (.slice none 0 0)
 cf : ∀ o,w.frozen? ⟨b,o,none⟩ = false
 bx : Row w b 34 2
theorem Abx.onto {w w' : World} {b : Nat} (h : Abx w b) (hb : Below w.heap.size w w') : Abx w' b := by
 have hr := h.bx.onto (hb.block _ h.bx.lt)
 exact ⟨keepCell hb h.c0,keepCell hb h.c1,hr.frozen,hr⟩
theorem Abx.lt {w : World} {b : Nat} (h : Abx w b) : b < w.heap.size := h.bx.lt
theorem abx_new (w : World) : Abx (w.alloc (.cells #[.slice none 0 0,.slice none 0 0] 34)) w.heap.size := by
 have hr := Row.new w #[.slice none 0 0,.slice none 0 0] 34
 exact ⟨by simp,by simp,hr.frozen,hr⟩
theorem tb_made {w X : World} {b g n : Nat} {hv : Value} {N : List ByteArray} {U : List Value} (hN : X.ownsRow w.heap.size 9 1 hv N.length (N.map Value.string)) (hM : RwS w X g n U []) (hbx0 : Row X b 34 2) (hlo : w.heap.size ≤ b) (hne : ¬ b = g) :
  Tb w ((X.setCell ⟨b,0,none⟩ hv).setCell ⟨b,1,none⟩ (.slice (some ⟨g,0,none⟩) n n)) b g n hv N U [] := by
 have hbx := hbx0
 obtain ⟨cb,hcb,-⟩ := hbx0
 have k0 := set_grownW X b 0 hv
 have k1 := set_grownW (X.setCell ⟨b,0,none⟩ hv) b 1 (.slice (some ⟨g,0,none⟩) n n)
 have h0 : (X.setCell ⟨b,0,none⟩ hv).heap[b]? = some (.cells (cb.setIfInBounds 0 hv) 34 (0,0)) := lbox_set hcb 0 hv
 refine ⟨⟨vset_bel (vset_bel hM.bel hlo) hlo,hM.lo,?_,fun i K h => by simp at h⟩,?_,?_,?_,(hbx.set _ _).set _ _,hlo,hne⟩
 ·have h1 := hM.own.kept k0 (own_off hM.own hcb (by decide))
  exact h1.kept k1 (own_off h1 h0 (by decide))
 ·have h1 := hN.kept k0 (own_off hN hcb (by decide))
  exact h1.kept k1 (own_off h1 h0 (by decide))
 ·rw [set_other _ _ _ _ _ _ (.inr (by omega))]; exact set_same hbx (by omega) _
 ·exact set_same (hbx.set _ _) (by omega) _
set_option maxRecDepth 100000 in
set_option maxHeartbeats 16000000 in
theorem flat_go (T : VT) (x y : Value) (w : World) (hT : HV w T x y) (hg : GlobC5 w) (hg5 : Glob5 w) (hl : lomB T = true) (h512 : T.ls.length ≤ 512) :
  Calls Tryz.prog 24 #[vv T x y] w (FlatPost T w) := by
 obtain ⟨h5,hmay,hmaps⟩ := lom_parts hl
 have hwf : wfT T := hv_wfT (szT T) (Nat.le_refl _) hT
 obtain ⟨hsz,-,hpl⟩ := good_sz hmay
 have HLG := hid (fun (i : Nat) (t : VT) (hi : T.ls[i]? = some t) => lf_good hmay hwf hi)
 have HXF : Hid (∀ l ∈ flatX T,∀ e ∈ l,FrmP e.1 ∧ (∀ s ∈ e.1,Small s) ∧ e.1.length ≤ 100 ∧ celB e.2 = true ∧ plainT e.2 = true) := hid (fun l hl' e he => by
  obtain ⟨t,ht,rfl⟩ := List.mem_map.1 hl'
  obtain ⟨i,hi⟩ := List.getElem?_of_mem ht
  obtain ⟨r,h1,h2,h3,h4,-⟩ := HLG.out i t hi e he
  exact ⟨h2,h3,h4,leaf_cel h1.b h1.pl,h1.pl⟩)
 have HNE : Hid (∀ l ∈ flatX T,∀ e ∈ l,0 < e.1.length) := hid (fun l hl' e he => by
  obtain ⟨t,ht,rfl⟩ := List.mem_map.1 hl'
  obtain ⟨h6,hv⟩ := hmaps t ht
  rw [lfT_at,if_neg (by omega),if_pos ⟨h6,hv⟩] at he
  obtain ⟨i,hi⟩ := List.getElem?_of_mem ht
  have hwt := ((wfT_eq t).1 ((wfL_get _).1 ((wfT_eq T).1 hwf).2.1 i t hi))
  obtain ⟨k,u,c,h1,h2,h3⟩ := mem_lfM _ _ _ _ hwt.1 he
  have hpu := plain_vs (plain_ls hpl hi) h1
  have hs1 := szT_ls T i t hi
  have hs2 := szT_vs t k u h1
  obtain ⟨r,hr⟩ := lf_get (szT u) (T := u) (Nat.le_refl _) hpu ((wfL_get _).1 hwt.2.2 k u h1) (by omega) _ e.1 e.2 h3
  rw [hr.e]; simp)
 have HLM := hid (fun (X : World) (hX : Below w.heap.size w X) => lom_any T x y X (hT.onto hX) (hg.1.on hX))
 rw [hl] at HLM
 have HE0 := hid (show flatE T = if 64 < (flatC T).length then 2 else if flatL T = true then 2 else 0 by unfold flatE; rw [if_neg (by rw [hl]; decide),if_neg (by omega)])
 obtain ⟨al,bl,f,g,p,q,oL,oM,cL,cM,rfl,rfl,-,-,hL3,hM3,hK,-,hlL,hlM,kL,kK,kM,rL,rM,-,-⟩ := hT.parts
 have HkL := hid kL; have HrL := hid rL
 have HPL := hid hpl
 have HG := hid hg
 have HG5 := hid hg5
 have h512' : ¬ ((512 : Int) < (T.ls.length : Int)) := by omega
 have HSZ := hid hsz
 have hls := len_sz T
 simp only [vv] at HLM ⊢
 clear hT hg hg5 hl hM3 kL kK kM rL rM hK hmay hmaps hwf hsz hpl h5
 go_enter Tryz.func24,Tryz.ntmps24
 go_wp2_with fail
 go_at_call 57
 refine (HLM.out _ (valloc_bel (valloc_bel (Below.refl _ _) _) _)).mono ?_
 rintro e w2 ⟨rfl,hb2⟩
 have R0 : Hid (Row w2 (w.heap.size + 1) 34 2) := hid (by have := box_row hb2; rwa [World.size_alloc] at this)
 have HB2 := hid (vonto (valloc_bel (valloc_bel (Below.refl w.heap.size w) _) _) hb2)
 have z3 : w2.cell? ⟨w.heap.size,3,none⟩ = some (.slice oL T.ls.length cL) := keepCell hb2 (keepCell (valloc_bel (Below.refl _ _) _) (by simp))
 have hmk := Tryz.madeM T.ls.length (by omega) w2
 have HM0 := hid (MpS.new w w2 HB2.out T.ls.length (by omega))
 have hbm : Below w2.heap.size w2 (w2.alloc (.cells (madeCells #[.slice none 0 0] T.ls.length) 38)) := valloc_bel (Below.refl _ _) _
 have z3b := keepCell hbm z3
 have R1 := hid (R0.out.onto (hbm.block _ R0.out.lt))
 have hz2 : w.heap.size + 2 ≤ w2.heap.size := by have := hb2.size; simp only [World.size_alloc] at this; omega
 clear hb2 HLM R0 hbm
 go_wp2_with fail
 go_loopw [27] (fun i wr => ∃ (j : Nat) (U : List Value) (Es : List (List LE)),i = .int .i64 j ∧ j ≤ T.ls.length ∧ Hid (MpS w wr w2.heap.size T.ls.length U Es) ∧ Hid (Row wr (w.heap.size + 1) 34 2) ∧ Hid (Es.length = j) ∧ Hid (Es.map (fun E => E.map LE.pt) = (T.ls.take j).map (fun t => lfT t []))) (fun i _ => T.ls.length - (intOf i).toNat)
 case atStart => exact ⟨0,_,[],rfl,Nat.zero_le _,HM0,R1,hid rfl,hid rfl⟩
 case round =>
  clear HM0 R1 z3 z3b
  obtain ⟨j,U,Es,rfl,hj,HM,HR,HL,HE⟩ := hrel
  by_cases hlt : j < T.ls.length
  ·obtain ⟨t,ht⟩ : ∃ t,T.ls[j]? = some t := ⟨T.ls[j],List.getElem?_eq_getElem hlt⟩
   obtain rfl := hL3 (by omega)
   obtain ⟨d0,d1,d2,d3,d4⟩ := (HkL.out j t ht).onto HM.out.bel
   obtain ⟨o1,n1,c1,o2,n2,c2,hf,hg⟩ := hv_slices (HrL.out j t ht)
   rw [hf] at d3
   rw [hg] at d4
   have hsm := szT_ls T j t ht
   have HS := HSZ.out
   have C := hid (fun (X : World) (hX : Below wr.heap.size wr X) => leaves_any t _ _ X ((HrL.out j t ht).onto (vonto HM.out.bel hX)) (plain_ls HPL.out ht) (by omega))
   rw [hf,hg] at C
   simp only [vv] at C
   have HNX := hid (show (T.ls.take (j + 1)).map (fun t => lfT t []) = (T.ls.take j).map (fun t => lfT t []) ++ [lfT t []] by rw [List.take_add_one,ht]; simp)
   clear ht hf hg hsm HS
   go_wp2_with fail
   go_at_call 23
   refine (C.out _ (valloc_bel (Below.refl _ _) _)).mono ?_
   rintro e w3 ⟨v,E,rfl,hown,hE,hEp,hb3⟩
   have hglt : w2.heap.size + 1 ≤ (wr.alloc (.cells #[.int .i64 t.kd,.int .i64 t.nm,.string t.st,.slice o1 n1 c1,.slice o2 n2 c2] 29)).heap.size := by
    have : w2.heap.size < wr.heap.size := (HM.out.own.lt _ rfl).2
    rw [World.size_alloc]; omega
   have HM3 := hid (HM.out.onto (vonto (valloc_bel (Below.refl _ _) _) hb3))
   have HR3 := hid (HR.out.onto ((vonto (valloc_bel (Below.refl wr.heap.size wr) _) hb3).block _ HR.out.lt))
   have HO3 := hid (own_base hown hglt)
   have HE3 := hid (fun e he => (⟨own_base (hE e he).1 hglt,(hE e he).2⟩ : _ ∧ Bare e))
   have HEP := hid hEp
   obtain ⟨c,hcell⟩ := HM3.out.cell hlt
   have hfz := HM3.out.own.frozenAt j
   have hneb : ¬ w2.heap.size = w.heap.size + 1 := by omega
   obtain ⟨ov,cv,rfl⟩ := own_slice hown
   clear hown hE hEp hb3 hglt C
   go_wp2_with fail
   go_roundw
   case rel => exact ⟨j + 1,_,Es ++ [E],val_int (by omega),hlt,hid (by have := HM3.out.set (by rw [HL.out]; exact hlt) HO3.out HE3.out; rw [HL.out] at this; exact this),hid (HR3.out.set _ _),hid (by simp [HL.out]),hid (by rw [List.map_append,HE.out,HNX.out,← HEP.out]; rfl)⟩
   case measure => simp [intOf]; omega
  ·have hjn : j = T.ls.length := by omega
   subst hjn
   rw [List.take_length] at HE
   have HMS := hid (show InMs wr (flatX T) (.slice (some ⟨w2.heap.size,0,none⟩) T.ls.length T.ls.length) by
    have := HM.out.inMs HL.out (by omega) (fun E hE e he s hs => by
     have h1 : E.map LE.pt ∈ T.ls.map (fun t => lfT t []) := by rw [← HE.out]; exact List.mem_map.2 ⟨E,hE,rfl⟩
     obtain ⟨t,ht,h2⟩ := List.mem_map.1 h1
     obtain ⟨i,hi⟩ := List.getElem?_of_mem ht
     obtain ⟨r,-,-,-,-,h3⟩ := HLG.out i t hi (e.p,e.T) (by rw [h2]; exact List.mem_map.2 ⟨e,he,rfl⟩)
     exact h3 s hs)
    rw [HE.out] at this
    exact this)
   have CC := hid (cols_any (flatX T) _ wr HMS.out (fun l hl' e he => (HXF.out l hl' e he).1))
   have HBW := hid HM.out.bel
   clear HM HE HL hL3
   go_wp2_with fail
   go_at_call 58
   refine CC.out.mono ?_
   rintro e w4 ⟨cv,R,rfl,hcs,hgd,h65,hor⟩
   obtain ⟨oc,cc,rfl⟩ := hcs.sl
   have HCS := hid hcs
   have HGD := hid hgd
   have HOR := hid hor
   have HR4 := hid (HR.out.onto (hcs.bel.block _ HR.out.lt))
   clear hcs hgd hor CC
   have HB4 := hid (vonto HBW.out HCS.out.bel)
   by_cases h64 : 64 < R.length
   ·have HE := hid (show flatE T = 2 by
     rw [HE0.out,if_pos]
     rcases HOR.out with h | h
     ·show 64 < (colA (flatX T)).length; rw [← h]; exact h64
     ·exact h.2)
    obtain ⟨u0,e0⟩ := HR4.out.cell (o := 0) (by decide)
    obtain ⟨u1,e1⟩ := HR4.out.cell (o := 1) (by decide)
    have z0 := HR4.out.frozen
    go_wp2_with fail
    refine bodyPost_ret (v := .tuple #[.agg #[.slice none 0 0,.slice none 0 0],.int .i64 2]) (by simp [results,Tryz.results24,go_sem,e0,e1]) rfl (flatpost_no HE.out (by decide) rfl ?_)
    repeat (first | exact HB4.out | (refine vset_bel ?_ (by simp)))
   ·have hRC : R = flatC T := by
     rcases HOR.out with h | h
     ·exact h
     ·omega
    have HE1 := hid (show flatE T = if flatL T = true then 2 else 0 by rw [HE0.out,if_neg (by rw [← hRC]; exact h64)])
    have HRC := hid hRC
    have HMEM := hid (fun l (hl' : l ∈ flatX T) e (he : e ∈ l) => (show e.1 ∈ R by
     rw [hRC]
     exact (colF_mem _ [] _ Good3.nil (fun x hx => by obtain ⟨l2,h1,h2⟩ := List.mem_flatten.1 hx; exact (HXF.out l2 h1 x h2).1)).2 (.inr ⟨e,List.mem_flatten.2 ⟨l,hl',he⟩,rfl⟩)))
    have HRS : Hid (∀ c ∈ R,(∀ s ∈ c,Small s) ∧ c.length ≤ 100 ∧ 0 < c.length) := hid (fun c hc => by
     rw [hRC] at hc
     rcases (colF_mem _ [] _ Good3.nil (fun x hx => by obtain ⟨l2,h1,h2⟩ := List.mem_flatten.1 hx; exact (HXF.out l2 h1 x h2).1)).1 hc with h | ⟨e,he,rfl⟩
     ·cases h
     ·obtain ⟨l2,h1,h2⟩ := List.mem_flatten.1 he
      obtain ⟨-,a2,a3,-⟩ := HXF.out l2 h1 e h2
      exact ⟨a2,a3,HNE.out l2 h1 e h2⟩)
    have HNM := hid (fun (X : World) (hX : Below w4.heap.size w4 X) => names_any R _ X (HCS.out.inC.onto hX) (HG5.out.on (vonto HB4.out hX)) HRS.out (by omega))
    have HMS4 := hid (HMS.out.onto HCS.out.bel)
    have HIC := hid HCS.out.inC
    have h64' : ¬ ((64 : Int) < (R.length : Int)) := by omega
    clear hRC HCS HMS HBW HOR
    go_upto_region 14 with fail
    go_cut [8] (fun v wx => ∃ (b8 g2 : Nat) (hv : Value),v = .pointer (some ⟨b8,0,none⟩) ∧ Hid (Tb w4 wx b8 g2 T.ls.length hv (R.map nmP) (List.replicate T.ls.length (.slice none 0 0)) []))
    case first =>
     have hb : Below w4.heap.size w4 w4.drew := (Below.refl _ _).drew
     refine wp_region_h (S := fun _ => True) 8 (by kernel_rfl) (by kernel_rfl) ?_
     generalize w4.drew = X0 at *
     refine take_h (i := 0) (v := ?_) rfl (by kernel_rfl) (by kernel_rfl) (by kernel_rfl) (fun _ _ _ h => h) (by rfl) ?_ trivial ?_
     rotate_left
     ·(intro X hX; go_simp; try with_reducible rfl)
     simp only [Act.put,List.setIfInBounds_toArray,List.set_cons_zero,List.set_cons_succ]
     refine take_h (i := 2) (v := ?_) rfl (by kernel_rfl) (by kernel_rfl) (by kernel_rfl) (fun _ _ _ h => h) (by rfl) ?_ trivial ?_
     rotate_left
     ·(intro X hX; go_simp; try with_reducible rfl)
     simp only [Act.put,List.setIfInBounds_toArray,List.set_cons_zero,List.set_cons_succ]
     refine take_h (i := 3) (v := ?_) rfl (by kernel_rfl) (by kernel_rfl) (by kernel_rfl) (fun _ _ _ h => h) (by rfl) ?_ trivial ?_
     rotate_left
     ·(intro X hX; go_simp; try with_reducible rfl)
     simp only [Act.put,List.setIfInBounds_toArray,List.set_cons_zero,List.set_cons_succ]
     refine st3_h (i := 1) (j := 4) (k := 6) rfl rfl rfl (by kernel_rfl) ?_ ?_ ?_
     ·intro KK hKK
      go_simp
      go_wp2_with fail
      go_at_call 59
      refine (HNM.out _ hb).mono ?_
      rintro e X1N ⟨hv,rfl,hN,hbs⟩
      obtain ⟨oh,ch,rfl⟩ := own_slice hN.own
      replace hN := own_base hN.own hb.size
      replace hb := vonto hb hbs
      go_wp2_with fail
      refine hKK.out _ _ trivial (fun _ => ?_)
      clear hKK KK
      try simp only [Act.put,List.setIfInBounds_toArray,List.set_cons_zero,List.set_cons_succ]
      refine st2_h (i := 4) (j := 6) rfl rfl (by kernel_rfl) ?_ ?_
      ·intro KK hKK
       have hmk := Tryz.madeR T.ls.length (by omega) X1N
       have hM := RwS.new w4 X1N hb T.ls.length (by omega)
       have hbs : Below X1N.heap.size X1N (X1N.alloc (.cells (madeCells #[.slice none 0 0] T.ls.length) 22)) := valloc_bel (Below.refl _ _) _
       obtain ⟨g2,hg2⟩ : ∃ g2,X1N.heap.size = g2 := ⟨_,rfl⟩
       rw [hg2] at hmk hM
       replace hN := ownsRow_below hN hbs
       replace hb := vonto hb hbs
       go_simp
       generalize X1N.alloc (.cells (madeCells #[.slice none 0 0] T.ls.length) 22) = X2M at *
       refine hKK.out _ _ trivial (fun _ => ?_)
       clear hKK KK
       try simp only [Act.put,List.setIfInBounds_toArray,List.set_cons_zero,List.set_cons_succ]
       refine take_h (i := 5) (v := ?_) rfl (by kernel_rfl) (by kernel_rfl) (by kernel_rfl) (fun _ _ _ h => h) (by rfl) ?_ trivial ?_
       rotate_left
       ·(intro X hX; go_simp; try with_reducible rfl)
       simp only [Act.put,List.setIfInBounds_toArray,List.set_cons_zero,List.set_cons_succ]
       refine step_h (i := 6) rfl (by kernel_rfl) ?_
       ·intro KK hKK
        have hA := abx_new X2M
        have hlo : w4.heap.size ≤ X2M.heap.size := hb.size
        have hbs : Below X2M.heap.size X2M (X2M.alloc (.cells #[.slice none 0 0,.slice none 0 0] 34)) := valloc_bel (Below.refl _ _) _
        obtain ⟨b8,hb8⟩ : ∃ b8,X2M.heap.size = b8 := ⟨_,rfl⟩
        go_simp
        rw [hb8] at hA hlo
        try rw [hb8]
        have hne : ¬ b8 = g2 := by have := (hM.own.lt _ rfl).2; intro e; subst e; rw [← hb8] at this; exact Nat.lt_irrefl _ this
        replace hN := ownsRow_below hN hbs
        replace hM := hM.onto hbs
        replace hb := vonto hb hbs
        change KK _ (X2M.alloc (.cells #[.slice none 0 0,.slice none 0 0] 34))
        generalize X2M.alloc (.cells #[.slice none 0 0,.slice none 0 0] 34) = X3A at *
        refine hKK.out _ _ trivial (fun _ => ?_)
        clear hKK KK
        try simp only [Act.put,List.setIfInBounds_toArray,List.set_cons_zero,List.set_cons_succ]
        refine step_h (i := 7) rfl (by kernel_rfl) ?_
        intro KK hKK
        obtain ⟨c0,c1,cf,hbx⟩ := hA
        have hres := tb_made hN hM hbx hlo hne
        simp only [List.length_map] at hres
        go_simp
        refine hKK.out _ _ trivial (fun _ => ?_)
        clear hKK KK
        try simp only [Act.put,List.setIfInBounds_toArray,List.set_cons_zero,List.set_cons_succ]
        refine wpAnyH_done (by kernel_rfl) ?_ _
        go_wp2_with fail
        go_meet
        exact ⟨_,_,_,rfl,hid hres⟩
      ·intro KK hKK
       have hA := abx_new X1N
       have hlo : w4.heap.size ≤ X1N.heap.size := hb.size
       have hbs : Below X1N.heap.size X1N (X1N.alloc (.cells #[.slice none 0 0,.slice none 0 0] 34)) := valloc_bel (Below.refl _ _) _
       obtain ⟨b8,hb8⟩ : ∃ b8,X1N.heap.size = b8 := ⟨_,rfl⟩
       go_simp
       rw [hb8] at hA hlo
       try rw [hb8]
       replace hN := ownsRow_below hN hbs
       replace hb := vonto hb hbs
       change KK _ (X1N.alloc (.cells #[.slice none 0 0,.slice none 0 0] 34))
       generalize X1N.alloc (.cells #[.slice none 0 0,.slice none 0 0] 34) = X2A at *
       refine hKK.out _ _ trivial (fun _ => ?_)
       clear hKK KK
       try simp only [Act.put,List.setIfInBounds_toArray,List.set_cons_zero,List.set_cons_succ]
       refine step_h (i := 4) rfl (by kernel_rfl) ?_
       ·intro KK hKK
        have hmk := Tryz.madeR T.ls.length (by omega) X2A
        have hM := RwS.new w4 X2A hb T.ls.length (by omega)
        have hbs : Below X2A.heap.size X2A (X2A.alloc (.cells (madeCells #[.slice none 0 0] T.ls.length) 22)) := valloc_bel (Below.refl _ _) _
        obtain ⟨g2,hg2⟩ : ∃ g2,X2A.heap.size = g2 := ⟨_,rfl⟩
        rw [hg2] at hmk hM
        have hne : ¬ b8 = g2 := by have := hA.lt; omega
        replace hN := ownsRow_below hN hbs
        replace hA := hA.onto hbs
        replace hb := vonto hb hbs
        go_simp
        generalize X2A.alloc (.cells (madeCells #[.slice none 0 0] T.ls.length) 22) = X3M at *
        refine hKK.out _ _ trivial (fun _ => ?_)
        clear hKK KK
        try simp only [Act.put,List.setIfInBounds_toArray,List.set_cons_zero,List.set_cons_succ]
        refine take_h (i := 5) (v := ?_) rfl (by kernel_rfl) (by kernel_rfl) (by kernel_rfl) (fun _ _ _ h => h) (by rfl) ?_ trivial ?_
        rotate_left
        ·(intro X hX; go_simp; try with_reducible rfl)
        simp only [Act.put,List.setIfInBounds_toArray,List.set_cons_zero,List.set_cons_succ]
        refine step_h (i := 7) rfl (by kernel_rfl) ?_
        intro KK hKK
        obtain ⟨c0,c1,cf,hbx⟩ := hA
        have hres := tb_made hN hM hbx hlo hne
        simp only [List.length_map] at hres
        go_simp
        refine hKK.out _ _ trivial (fun _ => ?_)
        clear hKK KK
        try simp only [Act.put,List.setIfInBounds_toArray,List.set_cons_zero,List.set_cons_succ]
        refine wpAnyH_done (by kernel_rfl) ?_ _
        go_wp2_with fail
        go_meet
        exact ⟨_,_,_,rfl,hid hres⟩
     ·intro KK hKK
      have hmk := Tryz.madeR T.ls.length (by omega) X0
      have hM := RwS.new w4 X0 hb T.ls.length (by omega)
      have hbs : Below X0.heap.size X0 (X0.alloc (.cells (madeCells #[.slice none 0 0] T.ls.length) 22)) := valloc_bel (Below.refl _ _) _
      obtain ⟨g2,hg2⟩ : ∃ g2,X0.heap.size = g2 := ⟨_,rfl⟩
      rw [hg2] at hmk hM
      replace hb := vonto hb hbs
      go_simp
      generalize X0.alloc (.cells (madeCells #[.slice none 0 0] T.ls.length) 22) = X1M at *
      refine hKK.out _ _ trivial (fun _ => ?_)
      clear hKK KK
      try simp only [Act.put,List.setIfInBounds_toArray,List.set_cons_zero,List.set_cons_succ]
      refine st2_h (i := 1) (j := 6) rfl rfl (by kernel_rfl) ?_ ?_
      ·intro KK hKK
       go_simp
       go_wp2_with fail
       go_at_call 59
       refine (HNM.out _ hb).mono ?_
       rintro e X2N ⟨hv,rfl,hN,hbs⟩
       obtain ⟨oh,ch,rfl⟩ := own_slice hN.own
       replace hN := own_base hN.own hb.size
       replace hM := hM.onto hbs
       replace hb := vonto hb hbs
       go_wp2_with fail
       refine hKK.out _ _ trivial (fun _ => ?_)
       clear hKK KK
       try simp only [Act.put,List.setIfInBounds_toArray,List.set_cons_zero,List.set_cons_succ]
       refine take_h (i := 5) (v := ?_) rfl (by kernel_rfl) (by kernel_rfl) (by kernel_rfl) (fun _ _ _ h => h) (by rfl) ?_ trivial ?_
       rotate_left
       ·(intro X hX; go_simp; try with_reducible rfl)
       simp only [Act.put,List.setIfInBounds_toArray,List.set_cons_zero,List.set_cons_succ]
       refine step_h (i := 6) rfl (by kernel_rfl) ?_
       ·intro KK hKK
        have hA := abx_new X2N
        have hlo : w4.heap.size ≤ X2N.heap.size := hb.size
        have hbs : Below X2N.heap.size X2N (X2N.alloc (.cells #[.slice none 0 0,.slice none 0 0] 34)) := valloc_bel (Below.refl _ _) _
        obtain ⟨b8,hb8⟩ : ∃ b8,X2N.heap.size = b8 := ⟨_,rfl⟩
        go_simp
        rw [hb8] at hA hlo
        try rw [hb8]
        have hne : ¬ b8 = g2 := by have := (hM.own.lt _ rfl).2; intro e; subst e; rw [← hb8] at this; exact Nat.lt_irrefl _ this
        replace hM := hM.onto hbs
        replace hN := ownsRow_below hN hbs
        replace hb := vonto hb hbs
        change KK _ (X2N.alloc (.cells #[.slice none 0 0,.slice none 0 0] 34))
        generalize X2N.alloc (.cells #[.slice none 0 0,.slice none 0 0] 34) = X3A at *
        refine hKK.out _ _ trivial (fun _ => ?_)
        clear hKK KK
        try simp only [Act.put,List.setIfInBounds_toArray,List.set_cons_zero,List.set_cons_succ]
        refine step_h (i := 7) rfl (by kernel_rfl) ?_
        intro KK hKK
        obtain ⟨c0,c1,cf,hbx⟩ := hA
        have hres := tb_made hN hM hbx hlo hne
        simp only [List.length_map] at hres
        go_simp
        refine hKK.out _ _ trivial (fun _ => ?_)
        clear hKK KK
        try simp only [Act.put,List.setIfInBounds_toArray,List.set_cons_zero,List.set_cons_succ]
        refine wpAnyH_done (by kernel_rfl) ?_ _
        go_wp2_with fail
        go_meet
        exact ⟨_,_,_,rfl,hid hres⟩
      ·intro KK hKK
       have hA := abx_new X1M
       have hlo : w4.heap.size ≤ X1M.heap.size := hb.size
       have hbs : Below X1M.heap.size X1M (X1M.alloc (.cells #[.slice none 0 0,.slice none 0 0] 34)) := valloc_bel (Below.refl _ _) _
       obtain ⟨b8,hb8⟩ : ∃ b8,X1M.heap.size = b8 := ⟨_,rfl⟩
       go_simp
       rw [hb8] at hA hlo
       try rw [hb8]
       have hne : ¬ b8 = g2 := by have := (hM.own.lt _ rfl).2; intro e; subst e; rw [← hb8] at this; exact Nat.lt_irrefl _ this
       replace hM := hM.onto hbs
       replace hb := vonto hb hbs
       change KK _ (X1M.alloc (.cells #[.slice none 0 0,.slice none 0 0] 34))
       generalize X1M.alloc (.cells #[.slice none 0 0,.slice none 0 0] 34) = X2A at *
       refine hKK.out _ _ trivial (fun _ => ?_)
       clear hKK KK
       try simp only [Act.put,List.setIfInBounds_toArray,List.set_cons_zero,List.set_cons_succ]
       refine step_h (i := 1) rfl (by kernel_rfl) ?_
       ·intro KK hKK
        go_simp
        go_wp2_with fail
        go_at_call 59
        refine (HNM.out _ hb).mono ?_
        rintro e X3N ⟨hv,rfl,hN,hbs⟩
        obtain ⟨oh,ch,rfl⟩ := own_slice hN.own
        replace hN := own_base hN.own hb.size
        replace hM := hM.onto hbs
        replace hA := hA.onto hbs
        replace hb := vonto hb hbs
        go_wp2_with fail
        refine hKK.out _ _ trivial (fun _ => ?_)
        clear hKK KK
        try simp only [Act.put,List.setIfInBounds_toArray,List.set_cons_zero,List.set_cons_succ]
        refine take_h (i := 5) (v := ?_) rfl (by kernel_rfl) (by kernel_rfl) (by kernel_rfl) (fun _ _ _ h => h) (by rfl) ?_ trivial ?_
        rotate_left
        ·(intro X hX; go_simp; try with_reducible rfl)
        simp only [Act.put,List.setIfInBounds_toArray,List.set_cons_zero,List.set_cons_succ]
        refine step_h (i := 7) rfl (by kernel_rfl) ?_
        intro KK hKK
        obtain ⟨c0,c1,cf,hbx⟩ := hA
        have hres := tb_made hN hM hbx hlo hne
        simp only [List.length_map] at hres
        go_simp
        refine hKK.out _ _ trivial (fun _ => ?_)
        clear hKK KK
        try simp only [Act.put,List.setIfInBounds_toArray,List.set_cons_zero,List.set_cons_succ]
        refine wpAnyH_done (by kernel_rfl) ?_ _
        go_wp2_with fail
        go_meet
        exact ⟨_,_,_,rfl,hid hres⟩
     ·intro KK hKK
      have hA := abx_new X0
      have hlo : w4.heap.size ≤ X0.heap.size := hb.size
      have hbs : Below X0.heap.size X0 (X0.alloc (.cells #[.slice none 0 0,.slice none 0 0] 34)) := valloc_bel (Below.refl _ _) _
      obtain ⟨b8,hb8⟩ : ∃ b8,X0.heap.size = b8 := ⟨_,rfl⟩
      go_simp
      rw [hb8] at hA hlo
      try rw [hb8]
      replace hb := vonto hb hbs
      change KK _ (X0.alloc (.cells #[.slice none 0 0,.slice none 0 0] 34))
      generalize X0.alloc (.cells #[.slice none 0 0,.slice none 0 0] 34) = X1A at *
      refine hKK.out _ _ trivial (fun _ => ?_)
      clear hKK KK
      try simp only [Act.put,List.setIfInBounds_toArray,List.set_cons_zero,List.set_cons_succ]
      refine st2_h (i := 1) (j := 4) rfl rfl (by kernel_rfl) ?_ ?_
      ·intro KK hKK
       go_simp
       go_wp2_with fail
       go_at_call 59
       refine (HNM.out _ hb).mono ?_
       rintro e X2N ⟨hv,rfl,hN,hbs⟩
       obtain ⟨oh,ch,rfl⟩ := own_slice hN.own
       replace hN := own_base hN.own hb.size
       replace hA := hA.onto hbs
       replace hb := vonto hb hbs
       go_wp2_with fail
       refine hKK.out _ _ trivial (fun _ => ?_)
       clear hKK KK
       try simp only [Act.put,List.setIfInBounds_toArray,List.set_cons_zero,List.set_cons_succ]
       refine step_h (i := 4) rfl (by kernel_rfl) ?_
       ·intro KK hKK
        have hmk := Tryz.madeR T.ls.length (by omega) X2N
        have hM := RwS.new w4 X2N hb T.ls.length (by omega)
        have hbs : Below X2N.heap.size X2N (X2N.alloc (.cells (madeCells #[.slice none 0 0] T.ls.length) 22)) := valloc_bel (Below.refl _ _) _
        obtain ⟨g2,hg2⟩ : ∃ g2,X2N.heap.size = g2 := ⟨_,rfl⟩
        rw [hg2] at hmk hM
        have hne : ¬ b8 = g2 := by have := hA.lt; omega
        replace hA := hA.onto hbs
        replace hN := ownsRow_below hN hbs
        replace hb := vonto hb hbs
        go_simp
        generalize X2N.alloc (.cells (madeCells #[.slice none 0 0] T.ls.length) 22) = X3M at *
        refine hKK.out _ _ trivial (fun _ => ?_)
        clear hKK KK
        try simp only [Act.put,List.setIfInBounds_toArray,List.set_cons_zero,List.set_cons_succ]
        refine take_h (i := 5) (v := ?_) rfl (by kernel_rfl) (by kernel_rfl) (by kernel_rfl) (fun _ _ _ h => h) (by rfl) ?_ trivial ?_
        rotate_left
        ·(intro X hX; go_simp; try with_reducible rfl)
        simp only [Act.put,List.setIfInBounds_toArray,List.set_cons_zero,List.set_cons_succ]
        refine step_h (i := 7) rfl (by kernel_rfl) ?_
        intro KK hKK
        obtain ⟨c0,c1,cf,hbx⟩ := hA
        have hres := tb_made hN hM hbx hlo hne
        simp only [List.length_map] at hres
        go_simp
        refine hKK.out _ _ trivial (fun _ => ?_)
        clear hKK KK
        try simp only [Act.put,List.setIfInBounds_toArray,List.set_cons_zero,List.set_cons_succ]
        refine wpAnyH_done (by kernel_rfl) ?_ _
        go_wp2_with fail
        go_meet
        exact ⟨_,_,_,rfl,hid hres⟩
      ·intro KK hKK
       have hmk := Tryz.madeR T.ls.length (by omega) X1A
       have hM := RwS.new w4 X1A hb T.ls.length (by omega)
       have hbs : Below X1A.heap.size X1A (X1A.alloc (.cells (madeCells #[.slice none 0 0] T.ls.length) 22)) := valloc_bel (Below.refl _ _) _
       obtain ⟨g2,hg2⟩ : ∃ g2,X1A.heap.size = g2 := ⟨_,rfl⟩
       rw [hg2] at hmk hM
       have hne : ¬ b8 = g2 := by have := hA.lt; omega
       replace hA := hA.onto hbs
       replace hb := vonto hb hbs
       go_simp
       generalize X1A.alloc (.cells (madeCells #[.slice none 0 0] T.ls.length) 22) = X2M at *
       refine hKK.out _ _ trivial (fun _ => ?_)
       clear hKK KK
       try simp only [Act.put,List.setIfInBounds_toArray,List.set_cons_zero,List.set_cons_succ]
       refine step_h (i := 1) rfl (by kernel_rfl) ?_
       ·intro KK hKK
        go_simp
        go_wp2_with fail
        go_at_call 59
        refine (HNM.out _ hb).mono ?_
        rintro e X3N ⟨hv,rfl,hN,hbs⟩
        obtain ⟨oh,ch,rfl⟩ := own_slice hN.own
        replace hN := own_base hN.own hb.size
        replace hA := hA.onto hbs
        replace hM := hM.onto hbs
        replace hb := vonto hb hbs
        go_wp2_with fail
        refine hKK.out _ _ trivial (fun _ => ?_)
        clear hKK KK
        try simp only [Act.put,List.setIfInBounds_toArray,List.set_cons_zero,List.set_cons_succ]
        refine take_h (i := 5) (v := ?_) rfl (by kernel_rfl) (by kernel_rfl) (by kernel_rfl) (fun _ _ _ h => h) (by rfl) ?_ trivial ?_
        rotate_left
        ·(intro X hX; go_simp; try with_reducible rfl)
        simp only [Act.put,List.setIfInBounds_toArray,List.set_cons_zero,List.set_cons_succ]
        refine step_h (i := 7) rfl (by kernel_rfl) ?_
        intro KK hKK
        obtain ⟨c0,c1,cf,hbx⟩ := hA
        have hres := tb_made hN hM hbx hlo hne
        simp only [List.length_map] at hres
        go_simp
        refine hKK.out _ _ trivial (fun _ => ?_)
        clear hKK KK
        try simp only [Act.put,List.setIfInBounds_toArray,List.set_cons_zero,List.set_cons_succ]
        refine wpAnyH_done (by kernel_rfl) ?_ _
        go_wp2_with fail
        go_meet
        exact ⟨_,_,_,rfl,hid hres⟩
    case rest =>
    obtain ⟨b8,g2,hv,rfl,HT0⟩ := hcut
    clear HNM
    go_wp2_with fail
    go_loopw [52] (fun i wr => ∃ (j : Nat) (U : List Value) (Ks : List (List ByteArray)),i = .int .i64 j ∧ j ≤ T.ls.length ∧ Hid (Tb w4 wr b8 g2 T.ls.length hv (R.map nmP) U Ks) ∧ Hid (Ks.length = j) ∧ Hid (Ks = ((flatX T).take j).map (fun l => rowM l R))) (fun i _ => T.ls.length - (intOf i).toNat)
    case atStart => exact ⟨0,_,[],rfl,Nat.zero_le _,HT0,hid rfl,hid rfl⟩
    case round =>
     clear HT0
     obtain ⟨j,U,Ks,rfl,hj,HTB,HL,HK⟩ := hrel
     by_cases hlt : j < T.ls.length
     ·obtain ⟨l,hl⟩ : ∃ l,(flatX T)[j]? = some l := ⟨(flatX T)[j]'(by unfold flatX; simpa using hlt),List.getElem?_eq_getElem _⟩
      obtain ⟨u,hu,hil⟩ := inms_at HMS4.out hl
      have hbw := HTB.out.rw.bel
      have hu' := keepCell hbw hu
      have hlm := List.mem_of_getElem? hl
      have CR := hid (fun (X : World) (hX : Below wr.heap.size wr X) => row_any l R u _ X (hil.onto (vonto hbw hX)) (HIC.out.onto (vonto hbw hX)) (HG.out.on (vonto HB4.out (vonto hbw hX))) (fun e he => by
       obtain ⟨a1,a2,a3,a4,a5⟩ := HXF.out l hlm e he
       have hm := HMEM.out l hlm e he
       refine ⟨srt_mono HGD.out.s HGD.out.f a1,lt_of_some (pos_in HGD.out hm),?_⟩
       obtain ⟨i,hi⟩ := List.getElem?_of_mem he
       obtain ⟨_,_,hq⟩ := hil
       obtain ⟨u1,x1,y1,-,-,-,hv1⟩ := hq i e hi
       have := cel_small a5 (nwf_bd hv1.wfs.2.1)
       unfold maxLen; omega) (by omega))
      obtain ⟨al',⟨ol',cl',rfl,-⟩,-⟩ := hil
      have c1 := HTB.out.c1
      have HNX := hid (show ((flatX T).take (j + 1)).map (fun l => rowM l R) = ((flatX T).take j).map (fun l => rowM l R) ++ [rowM l R] by rw [List.take_add_one,hl]; simp)
      clear hu hl hlm
      go_wp2_with fail
      have hS0 : wr.drew.cell? ⟨b8,1,none⟩ = some (.slice (some ⟨g2,0,none⟩) T.ls.length T.ls.length) := c1
      have hbd : Below wr.heap.size wr wr.drew := (Below.refl _ _).drew
      refine wp_region_h (S := fun X => X.cell? ⟨b8,1,none⟩ = some (.slice (some ⟨g2,0,none⟩) T.ls.length T.ls.length)) 8 (by kernel_rfl) (by kernel_rfl) ?_
      refine take_h (i := 0) (v := ?_) rfl (by kernel_rfl) (by kernel_rfl) (by kernel_rfl) (fun _ _ _ h => h) (by rfl) ?_ hS0 ?_
      rotate_left
      ·(intro X hX; go_simp; try with_reducible rfl)
      simp only [Act.put,List.setIfInBounds_toArray,List.set_cons_zero,List.set_cons_succ]
      refine take_h (i := 1) (v := ?_) rfl (by kernel_rfl) (by kernel_rfl) (by kernel_rfl) (fun _ _ _ h => h) (by rfl) ?_ hS0 ?_
      rotate_left
      ·(intro X hX; go_simp; try with_reducible rfl)
      simp only [Act.put,List.setIfInBounds_toArray,List.set_cons_zero,List.set_cons_succ]
      refine take_h (i := 2) (v := ?_) rfl (by kernel_rfl) (by kernel_rfl) (by kernel_rfl) (fun _ _ _ h => h) (by rfl) ?_ hS0 ?_
      rotate_left
      ·(intro X hX; go_simp; try with_reducible rfl)
      simp only [Act.put,List.setIfInBounds_toArray,List.set_cons_zero,List.set_cons_succ]
      refine take_h (i := 3) (v := ?_) rfl (by kernel_rfl) (by kernel_rfl) (by kernel_rfl) (fun _ _ _ h => h) (by rfl) ?_ hS0 ?_
      rotate_left
      ·(intro X hX; go_simp; try with_reducible rfl)
      simp only [Act.put,List.setIfInBounds_toArray,List.set_cons_zero,List.set_cons_succ]
      refine take_h (i := 4) (v := ?_) rfl (by kernel_rfl) (by kernel_rfl) (by kernel_rfl) (fun _ _ _ h => h) (by rfl) ?_ hS0 ?_
      rotate_left
      ·(intro X hX; go_simp; try with_reducible rfl)
      simp only [Act.put,List.setIfInBounds_toArray,List.set_cons_zero,List.set_cons_succ]
      refine step_h (i := 5) rfl (by kernel_rfl) ?_
      intro KK hKK
      go_simp
      go_wp2_with (go_at_call 60; go_must (refine (CR.out _ hbd).mono ?_; rintro e w5 ⟨v,rfl,hst,hb5⟩))
      have hb6 := vonto hbd hb5
      have HT5 := hid (HTB.out.onto hb6)
      obtain ⟨ov,cv,rfl⟩ := own_slice hst.own
      have hglt : g2 + 1 ≤ wr.drew.heap.size := by
       have : g2 < wr.heap.size := (HTB.out.rw.own.lt _ rfl).2
       exact this
      have HST := hid (own_base hst.own hglt)
      have HSM := hid hst.sm
      refine hKK.out _ _ (HT5.out.c1) (fun hS1 => ?_)
      clear hKK KK hS0
      try simp only [Act.put,List.setIfInBounds_toArray,List.set_cons_zero,List.set_cons_succ]
      refine take_h (i := 6) (v := ?_) rfl (by kernel_rfl) (by kernel_rfl) (by kernel_rfl) (fun _ _ _ h => h) (by rfl) ?_ hS1 ?_
      rotate_left
      ·(intro X hX; go_simp; try with_reducible rfl)
      simp only [Act.put,List.setIfInBounds_toArray,List.set_cons_zero,List.set_cons_succ]
      refine step_h (i := 7) rfl (by kernel_rfl) ?_
      intro KK hKK
      obtain ⟨c,hcell⟩ := HT5.out.rw.cell hlt
      have hfz := HT5.out.rw.own.frozenAt j
      have HT6 : Hid (Tb w4 (w5.setCell ⟨g2,j,none⟩ (.slice ov (rowM l R).length cv)) b8 g2 T.ls.length hv (R.map nmP) (U.set j (.slice ov (rowM l R).length cv)) (Ks ++ [rowM l R])) := hid (by
       have := HT5.out.set (by rw [HL.out]; exact hlt) HST.out HSM.out
       rw [HL.out] at this; exact this)
      go_simp
      refine hKK.out _ _ HT6.out.c1 (fun _ => ?_)
      clear hKK KK
      try simp only [Act.put,List.setIfInBounds_toArray,List.set_cons_zero,List.set_cons_succ]
      refine wpAnyH_done (by kernel_rfl) ?_ _
      generalize w5.setCell ⟨g2,j,none⟩ (.slice ov (rowM l R).length cv) = w6 at *
      clear hst hb5 hb6 hcell hfz hS1 c1
      go_wp2_with fail
      go_roundw
      case rel => exact ⟨j + 1,_,_,val_int (by omega),hlt,HT6,hid (by simp [HL.out]),hid (by rw [HNX.out,HK.out])⟩
      case measure => simp [intOf]; omega
     ·have hjn : j = T.ls.length := by omega
      subst hjn
      have hxl : (flatX T).length = T.ls.length := by unfold flatX; simp
      have hKW := hid (show Ks = flatW T by rw [HK.out,← hxl,List.take_length,HRC.out]; rfl)
      have hNW := hid (show R.map nmP = flatN T by rw [HRC.out]; rfl)
      have HNS := hid (show ∀ c ∈ R.map nmP,c.size ≤ maxLen from fun c hc => by
       obtain ⟨p,hp,rfl⟩ := List.mem_map.1 hc
       obtain ⟨a1,a2,-⟩ := HRS.out p hp
       have := small_frm a1 a2
       unfold maxLen
       have e : (nmP p).size = (textP p).length - 1 := by show (((textP p).drop 1).toArray).size = _; simp
       omega)
      have HIN := hid (stro_ins HTB.out.hd HNS.out)
      have HIR := hid (HTB.out.rw.inRs HL.out (by omega))
      obtain ⟨oh,ch,rfl⟩ := own_slice HTB.out.hd
      have c0 := HTB.out.c0
      have c1 := HTB.out.c1
      have CT1 := hid (fun (X : World) (hX : Below wr.heap.size wr X) => tooLong_any (R.map nmP) _ X (HIN.out.onto hX))
      have CT2 := hid (fun (X : World) (hX : Below wr.heap.size wr X) => rcon_any Ks _ X (HIR.out.onto hX))
      have HB5 := hid (vonto HB4.out HTB.out.rw.bel)
      have HR5 := hid (HR4.out.onto (HTB.out.rw.bel.block _ HR4.out.lt))
      have HFL : Hid (flatL T = ((R.map nmP).any longS || Ks.any longR)) := hid (by rw [hNW.out,hKW.out]; rfl)
      obtain ⟨L1,hL1⟩ : ∃ L1,(R.map nmP).any longS = L1 := ⟨_,rfl⟩
      obtain ⟨L2,hL2⟩ : ∃ L2,Ks.any longR = L2 := ⟨_,rfl⟩
      rw [hL1] at CT1
      rw [hL2] at CT2
      rw [hL1,hL2] at HFL
      clear hL1 hL2
      simp only [List.length_map] at CT1
      cases L1 with
      | true =>
       have HE := hid (show flatE T = 2 by rw [HE1.out,HFL.out]; rfl)
       go_wp2_with (go_at_call 61; go_must (refine (CT1.out _ (Below.refl _ _)).mono ?_; rintro e w6 ⟨rfl,hb6⟩; have HR6 := hid (HR5.out.onto (hb6.block _ HR5.out.lt)); obtain ⟨u0,e0⟩ := HR6.out.cell (o := 0) (by decide); obtain ⟨u1,e1⟩ := HR6.out.cell (o := 1) (by decide); have z0 := HR6.out.frozen; have HB6 := hid (vonto HB5.out hb6); clear hb6; go_wp2_with fail))
       refine bodyPost_ret (v := .tuple #[.agg #[.slice none 0 0,.slice none 0 0],.int .i64 2]) (by simp [results,Tryz.results24,go_sem,e0,e1]) rfl (flatpost_no HE.out (by decide) rfl ?_)
       repeat (first | exact HB6.out | (refine vset_bel ?_ (by simp)))
      | false =>
       go_wp2_with fail
       go_at_call 61
       refine (CT1.out _ (Below.refl _ _)).mono ?_
       rintro e w6 ⟨rfl,hb6⟩
       have c16 := keepCell hb6 c1
       have c06 := keepCell hb6 c0
       have CT3 := hid (CT2.out w6 hb6)
       have HB6 := hid hb6
       clear hb6 CT1 CT2
       cases L2 with
       | true =>
        have HE := hid (show flatE T = 2 by rw [HE1.out,HFL.out]; rfl)
        go_wp2_with fail
        go_at_call 62
        refine CT3.out.mono ?_
        rintro e w7 ⟨rfl,hb7⟩
        have HB7 := hid (vonto HB6.out hb7)
        have HR6 := hid (HR5.out.onto (HB7.out.block _ HR5.out.lt))
        obtain ⟨u0,e0⟩ := HR6.out.cell (o := 0) (by decide)
        obtain ⟨u1,e1⟩ := HR6.out.cell (o := 1) (by decide)
        have z0 := HR6.out.frozen
        have HB8 := hid (vonto HB5.out HB7.out)
        clear hb7
        go_wp2_with fail
        refine bodyPost_ret (v := .tuple #[.agg #[.slice none 0 0,.slice none 0 0],.int .i64 2]) (by simp [results,Tryz.results24,go_sem,e0,e1]) rfl (flatpost_no HE.out (by decide) rfl ?_)
        repeat (first | exact HB8.out | (refine vset_bel ?_ (by simp)))
       | false =>
        have HE := hid (show flatE T = 0 by rw [HE1.out,HFL.out]; rfl)
        go_wp2_with fail
        go_at_call 62
        refine CT3.out.mono ?_
        rintro e w7 ⟨rfl,hb7⟩
        have HB7 := hid (vonto HB6.out hb7)
        have HR6 := hid (HR5.out.onto (HB7.out.block _ HR5.out.lt))
        obtain ⟨u0,e0⟩ := HR6.out.cell (o := 0) (by decide)
        obtain ⟨u1,e1⟩ := HR6.out.cell (o := 1) (by decide)
        have z0 := HR6.out.frozen
        have HB8 := hid (vonto HB5.out HB7.out)
        have c17 := keepCell hb7 c16
        have c07 := keepCell hb7 c06
        have HIN7 := hid (HIN.out.onto HB7.out)
        have HIR7 := hid (HIR.out.onto HB7.out)
        have HTL := hid (⟨HTB.out.hd,HTB.out.rw.own⟩ : _ ∧ _)
        have hbne : ¬ b8 = w.heap.size + 1 := by have h1 := HTB.out.lo; have h2 := HR4.out.lt; omega
        clear hb7 c16 c06 c0 c1
        go_wp2_with fail
        have hlt4 : w.heap.size + 1 < w4.heap.size := HR4.out.lt
        have hg2 : w4.heap.size ≤ g2 := HTB.out.rw.lo
        have o1 := ownsRow_below HTL.out.1 HB7.out
        have o2 := ownsRow_below HTL.out.2 HB7.out
        refine bodyPost_ret (v := .tuple #[.agg #[.slice oh R.length ch,.slice (some ⟨g2,0,none⟩) T.ls.length T.ls.length],.int .i64 0]) (by simp [results,Tryz.results24,go_sem,e0,e1]) rfl ⟨_,_,by rw [HE.out],?_,?_,?_⟩
        ·unfold flatH
         rw [HE.out,if_pos rfl,← hNW.out]
         simp only [List.length_map] at o1
         have o3 : w7.ownsRow w4.heap.size 9 1 (.slice oh R.length ch) (R.map nmP).length ((R.map nmP).map Value.string) := by rw [List.length_map]; exact o1
         exact stro_ins (ownsRow_setCell_below (ownsRow_setCell_below o3 hlt4 _) hlt4 _) HNS.out
        ·unfold flatR
         rw [HE.out,if_pos rfl,← hKW.out]
         refine rows_ins (ownsRow_setCell_below (ownsRow_setCell_below o2 hlt4 _) hlt4 _) (fun i K hi => ?_) HL.out (by omega)
         obtain ⟨u,a1,a2,a3⟩ := HTB.out.rw.es i K hi
         exact ⟨u,a1,ownsRow_setCell_below (ownsRow_setCell_below (ownsRow_below a2 HB7.out) (by show w.heap.size + 1 < g2 + 1; omega) _) (by show w.heap.size + 1 < g2 + 1; omega) _,a3⟩
        ·repeat (first | exact HB8.out | (refine vset_bel ?_ (by simp)))
end Go.Proofs.YteimbjamnfkapaaGreatDoor
namespace Go.Proofs.YteimbjamnfkapaaGreatDoor
open Go.RowKit
def cRA : ByteArray := ⟨#[97]⟩
def tRL : VT := .mk 5 0 ⟨#[]⟩ [leafT 2 1 ⟨#[]⟩,leafT 2 2 ⟨#[]⟩] [] []
def tRow : VT := .mk 6 0 ⟨#[]⟩ [] [cRA] [tRL]
end Go.Proofs.YteimbjamnfkapaaGreatDoor
/- The statements of stage 16: the value that they ask first; heads and rows held against each other. -/
namespace Go.Proofs.YteimbjamnfkapaaGreatDoor
open Go.RowKit
def cF (l : List UInt8) : ByteArray := mkS l
def tOa : VT := leafT 2 1 ⟨#[]⟩
def tOx : VT := leafT 4 0 ⟨#[120]⟩
def tOc : VT := .mk 6 0 ⟨#[]⟩ [] [⟨#[99]⟩] [tOx]
def tOm : VT := .mk 6 0 ⟨#[]⟩ [] [⟨#[97]⟩,⟨#[98]⟩] [tOa,tOc]
def tOne : VT := .mk 5 0 ⟨#[]⟩ [tOm] [] []
def Cs (w : World) (b : Nat) (l : List Value) : Prop := ∀ i v,l[i]? = some v → w.cell? ⟨b,i,none⟩ = some v
theorem Cs.onto {w w' : World} {b : Nat} {l : List Value} (h : Cs w b l) (hb : Below w.heap.size w w') : Cs w' b l := fun i v hv => keepCell hb (h i v hv)
theorem InS.sl {w : World} {ks : List ByteArray} {u : Value} (h : InS w ks u) : ∃ o c,u = .slice o ks.length c := by
 obtain ⟨_,⟨o,c,rfl,-⟩,-⟩ := h
 exact ⟨o,c,rfl⟩
theorem InRs.sl {w : World} {ks : List (List ByteArray)} {u : Value} (h : InRs w ks u) : ∃ o c,u = .slice o ks.length c := by
 obtain ⟨_,⟨o,c,rfl,-⟩,-⟩ := h
 exact ⟨o,c,rfl⟩
end Go.Proofs.YteimbjamnfkapaaGreatDoor
/- The statements of stage 16: what they ask first; FlatKnown. -/
namespace Go.Proofs.YteimbjamnfkapaaGreatDoor
open Go.RowKit
def GlobF (w : World) : Prop := GlobC5 w ∧ Glob5 w
theorem GlobF.on {w w' : World} (h : GlobF w) (hb : Below w.heap.size w w') : GlobF w' := ⟨h.1.on hb,h.2.on hb⟩
theorem flat_any (T : VT) (x y : Value) (w : World) (hT : HV w T x y) (hg : GlobF w) : Calls Tryz.prog 24 #[vv T x y] w (FlatPost T w) := by
 cases hl : lomB T with
 | false => exact flat_no T x y w hT hg.1.1 hl
 | true =>
  by_cases h : 512 < T.ls.length
  ·exact flat_many T x y w hT hg.1.1 hl h
  ·exact flat_go T x y w hT hg.1 hg.2 hl (by omega)
end Go.Proofs.YteimbjamnfkapaaGreatDoor
/- Plain mathematics: a list's maps the other way round: the same columns, the rows the other way round. -/
namespace Go.Proofs.YteimbjamnfkapaaGreatDoor
open Go.RowKit
def revT (T : VT) : VT := .mk 5 0 ⟨#[]⟩ T.ls.reverse [] []
end Go.Proofs.YteimbjamnfkapaaGreatDoor
