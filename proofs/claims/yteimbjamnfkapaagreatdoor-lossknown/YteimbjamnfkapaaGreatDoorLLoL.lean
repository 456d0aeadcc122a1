import Derived.Test.YteimbjamnfkapaaGreatDoorLLoJ
/- loss: what becomes of CSV's root; of any root. -/
namespace Go.Proofs.YteimbjamnfkapaaGreatDoor
open Go.RowKit
def rsT (T : VT) : VT := if T.kd = 5 then (if 0 < T.ls.length then .mk 5 0 ⟨#[]⟩ (T.ls.map roT) [] [] else .mk 5 0 ⟨#[]⟩ [roT emT] [] []) else .mk 5 0 ⟨#[]⟩ [roT T] [] []
def rsN (T : VT) (p : List PStep) : List LN := if T.kd = 5 then (if 0 < T.ls.length then ntL roN T.ls 0 p else (p,7) :: roN emT p) else (p,7) :: roN T p
theorem put5_cells {w : World} {b : Nat} {u0 u1 u2 u3 u4 : Value} (h0 : w.cell? ⟨b,0,none⟩ = some u0) (h1 : w.cell? ⟨b,1,none⟩ = some u1) (h2 : w.cell? ⟨b,2,none⟩ = some u2) (h3 : w.cell? ⟨b,3,none⟩ = some u3) (h4 : w.cell? ⟨b,4,none⟩ = some u4) (v0 v1 v2 v3 v4 : Value) :
  (put5 w b 0 v0 v1 v2 v3 v4).cell? ⟨b,0,none⟩ = some v0 ∧ (put5 w b 0 v0 v1 v2 v3 v4).cell? ⟨b,1,none⟩ = some v1 ∧ (put5 w b 0 v0 v1 v2 v3 v4).cell? ⟨b,2,none⟩ = some v2 ∧ (put5 w b 0 v0 v1 v2 v3 v4).cell? ⟨b,3,none⟩ = some v3 ∧ (put5 w b 0 v0 v1 v2 v3 v4).cell? ⟨b,4,none⟩ = some v4 := by
 unfold put5
 refine ⟨?_,?_,?_,?_,?_⟩
 ·rw [set_other _ _ _ _ _ _ (Or.inr (by omega)),set_other _ _ _ _ _ _ (Or.inr (by omega)),set_other _ _ _ _ _ _ (Or.inr (by omega)),set_other _ _ _ _ _ _ (Or.inr (by omega))]
  exact World.cell?_setCell_same _ _ _ h0
 ·show World.cell? _ ⟨b,0 + 1,none⟩ = _
  rw [set_other _ _ _ _ _ _ (Or.inr (by omega)),set_other _ _ _ _ _ _ (Or.inr (by omega)),set_other _ _ _ _ _ _ (Or.inr (by omega))]
  exact World.cell?_setCell_same _ _ _ ((set_other _ _ _ _ _ _ (Or.inr (by omega))).trans h1)
 ·show World.cell? _ ⟨b,0 + 2,none⟩ = _
  rw [set_other _ _ _ _ _ _ (Or.inr (by omega)),set_other _ _ _ _ _ _ (Or.inr (by omega))]
  exact World.cell?_setCell_same _ _ _ ((set_other _ _ _ _ _ _ (Or.inr (by omega))).trans ((set_other _ _ _ _ _ _ (Or.inr (by omega))).trans h2))
 ·show World.cell? _ ⟨b,0 + 3,none⟩ = _
  rw [set_other _ _ _ _ _ _ (Or.inr (by omega))]
  exact World.cell?_setCell_same _ _ _ ((set_other _ _ _ _ _ _ (Or.inr (by omega))).trans ((set_other _ _ _ _ _ _ (Or.inr (by omega))).trans ((set_other _ _ _ _ _ _ (Or.inr (by omega))).trans h3)))
 ·show World.cell? _ ⟨b,0 + 4,none⟩ = _
  exact World.cell?_setCell_same _ _ _ ((set_other _ _ _ _ _ _ (Or.inr (by omega))).trans ((set_other _ _ _ _ _ _ (Or.inr (by omega))).trans ((set_other _ _ _ _ _ _ (Or.inr (by omega))).trans ((set_other _ _ _ _ _ _ (Or.inr (by omega))).trans h4))))
theorem Mv.fz {b : Nat} {nv ev nv' ev' : Value} {w w' : World} (h : Mv b nv ev w nv' ev' w') {k : Nat} (z : ∀ o,w.frozen? ⟨k,o,none⟩ = false) (s : Sx b nv ev w k) : ∀ o,w'.frozen? ⟨k,o,none⟩ = false := fun o => by
 have e := h.at_ s
 have := z o
 simp only [World.frozen?] at this ⊢
 rw [e]; exact this
theorem z5_put_other {w : World} {b c : Nat} (z : Z5 w c) (h : c ≠ b) (v0 v1 v2 v3 v4 : Value) : Z5 (put5 w b 0 v0 v1 v2 v3 v4) c := by
 have e := put5_heap w b 0 v0 v1 v2 v3 v4 c h
 generalize put5 w b 0 v0 v1 v2 v3 v4 = w' at *
 refine ⟨⟨(World.cell?_of_block e).trans z.1.1,(World.cell?_of_block e).trans z.1.2.1,(World.cell?_of_block e).trans z.1.2.2.1,(World.cell?_of_block e).trans z.1.2.2.2.1,(World.cell?_of_block e).trans z.1.2.2.2.2⟩,fun o => ?_⟩
 have := z.2 o
 simp only [World.frozen?] at this ⊢
 rw [e]; exact this
set_option maxRecDepth 100000 in
set_option maxHeartbeats 4000000 in
theorem lrows_any {W : World} {b : Nat} {f : Int} (hg : GlobL W) (T : VT) (hz : szT T ≤ 100000) (x y nv ev : Value) (now : List PStep) (E : List LN) (w : World) (hT : HV W T x y) (h : Fk W b f nv ev now E w) (hk : ∀ s ∈ now,Small s) (hn : now.length + szT T ≤ 10000) (hE : E.length + szT T + 2 ≤ 1000000) :
  Calls Tryz.prog 114 #[.pointer (some ⟨b,0,none⟩),vv T x y] w (FitP W b f nv ev w now (E ++ rsN T now) (rsT T)) := by
 have hpos := szT_pos T
 have CP := hid (fun (ev2 : Value) (E2 : List LN) (w2 : World) (hE2 : E2.length ≤ E.length + 1) (F : Fk W b f nv ev2 now E2 w2) => lrow_any (b := b) (f := f) hg T hz x y nv ev2 now E2 w2 hT F hk hn (by omega))
 have CM := hid (fun (ev2 : Value) (E2 : List LN) (w2 : World) (hE2 : E2.length ≤ E.length + 1) (F : Fk W b f nv ev2 now E2 w2) => lrow_any (b := b) (f := f) hg emT (by decide) (.slice none 0 0) (.slice none 0 0) nv ev2 now E2 w2 (hs_leaf W (fun _ => True) 6 0 ⟨#[]⟩ (by decide) (by decide) (by decide)).hv F hk (by have : szT emT = 1 := rfl; omega) (by have : szT emT = 1 := rfl; omega))
 have CNN := hid (fun (k : Int) (ev2 : Value) (E2 : List LN) (w2 : World) (hE2 : E2.length ≤ E.length + 1) (F : Fk W b f nv ev2 now E2 w2) => fnote_any (W := W) k F hg.f.2 (by omega) hk (by omega))
 have CL := hid (fun (w2 : World) (F : Fk W b f nv ev now E w2) => llist_any (W := W) (b := b) (f := f) 166 (enters_of Tryz.func166 (by kernel_rfl) rfl) roT roN roN_len T x y hT (fun t ht => by
  obtain ⟨i,hi⟩ := List.getElem?_of_mem ht
  exact lrow_any hg t (by have := szT_ls T i t hi; omega)) F hk hn (by omega) (by omega))
 have hfz := hid (show ∀ o,(w.alloc (.cells #[.int .i64 T.kd,.int .i64 T.nm,.string T.st,x,y] 29)).frozen? ⟨w.heap.size,o,none⟩ = false from fun o => (Row.new w #[.int .i64 T.kd,.int .i64 T.nm,.string T.st,x,y] 29).frozen o)
 obtain ⟨-,-,-,-,-,-,o1,o2,c1,c2,rfl,rfl,-⟩ := hT.parts
 have HFZ := hid (show ∀ o,((w.alloc (.cells #[.int .i64 T.kd,.int .i64 T.nm,.string T.st,.slice o1 T.ls.length c1,.slice o2 T.vs.length c2] 29)).alloc (.cells #[.int .i64 0,.int .i64 0,.string ⟨#[]⟩,.slice none 0 0,.slice none 0 0] 29)).frozen? ⟨w.heap.size,o,none⟩ = false from fun o => ((valloc_bel (Below.refl (w.alloc (.cells #[.int .i64 T.kd,.int .i64 T.nm,.string T.st,.slice o1 T.ls.length c1,.slice o2 T.vs.length c2] 29)).heap.size _) (.cells #[.int .i64 0,.int .i64 0,.string ⟨#[]⟩,.slice none 0 0,.slice none 0 0] 29)).frozen (p := ⟨w.heap.size,o,none⟩) (by simp)).trans (hfz.out o))
 clear hfz
 unfold rsT rsN
 have HWL := hid h.bel.size
 have hTw := hT.onto h.bel
 have hb0 : Below w.heap.size w ((w.alloc (.cells #[.int .i64 T.kd,.int .i64 T.nm,.string T.st,.slice o1 T.ls.length c1,.slice o2 T.vs.length c2] 29)).alloc (.cells #[.int .i64 0,.int .i64 0,.string ⟨#[]⟩,.slice none 0 0,.slice none 0 0] 29)) := valloc_bel (valloc_bel (Below.refl _ _) _) _
 have HF0 := hid (h.onto hb0)
 have HM0 := hid (Mv.of (b := b) (nv := nv) (ev := ev) hb0)
 have HZ0 := hid (show Z5 ((w.alloc (.cells #[.int .i64 T.kd,.int .i64 T.nm,.string T.st,.slice o1 T.ls.length c1,.slice o2 T.vs.length c2] 29)).alloc (.cells #[.int .i64 0,.int .i64 0,.string ⟨#[]⟩,.slice none 0 0,.slice none 0 0] 29)) (w.heap.size + 1) by have := z5_new (w.alloc (.cells #[.int .i64 T.kd,.int .i64 T.nm,.string T.st,.slice o1 T.ls.length c1,.slice o2 T.vs.length c2] 29)); simpa using this)
 have HR0 := hid (show Sx b nv ev ((w.alloc (.cells #[.int .i64 T.kd,.int .i64 T.nm,.string T.st,.slice o1 T.ls.length c1,.slice o2 T.vs.length c2] 29)).alloc (.cells #[.int .i64 0,.int .i64 0,.string ⟨#[]⟩,.slice none 0 0,.slice none 0 0] 29)) (w.heap.size + 1) from h.fresh (Nat.le_succ _) (by simp))
 have HX0 := hid (show Sx b nv ev ((w.alloc (.cells #[.int .i64 T.kd,.int .i64 T.nm,.string T.st,.slice o1 T.ls.length c1,.slice o2 T.vs.length c2] 29)).alloc (.cells #[.int .i64 0,.int .i64 0,.string ⟨#[]⟩,.slice none 0 0,.slice none 0 0] 29)) w.heap.size from h.fresh (Nat.le_refl _) (by simp; omega))
 have hsz0 : ((w.alloc (.cells #[.int .i64 T.kd,.int .i64 T.nm,.string T.st,.slice o1 T.ls.length c1,.slice o2 T.vs.length c2] 29)).alloc (.cells #[.int .i64 0,.int .i64 0,.string ⟨#[]⟩,.slice none 0 0,.slice none 0 0] 29)).heap.size = w.heap.size + 2 := by simp
 obtain ⟨f0,f1,f2,f3,f4⟩ := tpbox w (.int .i64 T.kd) (.int .i64 T.nm) (.string T.st) (.slice o1 T.ls.length c1) (.slice o2 T.vs.length c2)
 have hb1 : Below (w.alloc (.cells #[.int .i64 T.kd,.int .i64 T.nm,.string T.st,.slice o1 T.ls.length c1,.slice o2 T.vs.length c2] 29)).heap.size (w.alloc (.cells #[.int .i64 T.kd,.int .i64 T.nm,.string T.st,.slice o1 T.ls.length c1,.slice o2 T.vs.length c2] 29)) ((w.alloc (.cells #[.int .i64 T.kd,.int .i64 T.nm,.string T.st,.slice o1 T.ls.length c1,.slice o2 T.vs.length c2] 29)).alloc (.cells #[.int .i64 0,.int .i64 0,.string ⟨#[]⟩,.slice none 0 0,.slice none 0 0] 29)) := valloc_bel (Below.refl _ _) _
 have g0 := keepCell hb1 f0
 have g1 := keepCell hb1 f1
 have g2 := keepCell hb1 f2
 have g3 := keepCell hb1 f3
 have g4 := keepCell hb1 f4
 clear f0 f1 f2 f3 f4 hb1 hb0 h hTw
 generalize hw0 : ((w.alloc (.cells #[.int .i64 T.kd,.int .i64 T.nm,.string T.st,.slice o1 T.ls.length c1,.slice o2 T.vs.length c2] 29)).alloc (.cells #[.int .i64 0,.int .i64 0,.string ⟨#[]⟩,.slice none 0 0,.slice none 0 0] 29)) = w0 at *
 by_cases k5 : T.kd = 5
 ·rw [if_pos k5,if_pos k5]
  by_cases k0 : 0 < T.ls.length
  ·rw [if_pos k0,if_pos k0]
   have CC := hid (CL.out w0 HF0.out)
   obtain ⟨U,hU⟩ : ∃ U : VT,.mk 5 0 ⟨#[]⟩ (T.ls.map roT) [] [] = U := ⟨_,rfl⟩
   rw [hU] at CC ⊢
   unfold FitP at CC
   simp only [vv] at CC ⊢
   rw [k5] at CC hw0 g0 ⊢
   have k0i : (0 : Int) < (T.ls.length : Int) := by omega
   clear hU CP CNN CM CL
   go_enter Tryz.func114,Tryz.ntmps114
   go_upto_region 1 with fail
   refine cewp_gen ?_
   intro W0 hW
   obtain rfl : W0 = w0 := by first | exact hW | exact hW.trans hw0
   clear hw0
   go_wp2_with fail
   go_at_call 165
   refine CC.out.mono ?_
   rintro e w2 ⟨x2,y2,nv2,ev2,rfl,hs2,hf2,hm2⟩
   obtain ⟨o3,n3,c3,o4,n4,c4,rfl,rfl⟩ := hv_slices hs2.hv
   obtain ⟨⟨e0,e1,e2,e3,e4⟩,z0⟩ := hm2.z5 HZ0.out HR0.out
   have HFS := hid (fits_of (W := W) (f := f) (w := w) hf2 (HM0.out.trans hm2) (hs2.onto (S' := fun k => Sx b nv2 ev2 w2 k ∧ w.heap.size ≤ k ∧ k ≠ w.heap.size + 1) (fun _ _ => rfl) (fun k hk => ⟨hk.1,by have := hk.2; omega,by have := hk.2; omega⟩)) (hm2.sx HR0.out) (Nat.le_succ _) HWL.out)
   clear hs2 hf2 hm2
   go_wp2_with fail
   refine bodyPost_ret (v := vv U (.slice o3 n3 c3) (.slice o4 n4 c4)) (by simp [results,Tryz.results114,go_sem,vv,e0,e1,e2,e3,e4]) rfl ?_
   exact ⟨_,_,_,_,rfl,HFS.out.put _ _ _ _ _⟩
  ·rw [if_neg k0,if_neg k0]
   have kl : T.ls.length = 0 := by omega
   have CN := hid (CNN.out 7 ev E w0 (by omega) HF0.out)
   obtain ⟨U,hU⟩ : ∃ U : VT,roT emT = U := ⟨_,rfl⟩
   rw [hU] at CM ⊢
   rw [k5,kl] at hw0
   rw [k5] at g0
   rw [kl] at g3
   simp only [vv]
   rw [k5,kl]
   clear hU CP CNN CL
   go_enter Tryz.func114,Tryz.ntmps114
   go_upto_region 1 with fail
   refine cewp_gen ?_
   intro W0 hW
   obtain rfl : W0 = w0 := by first | exact hW | exact hW.trans hw0
   clear hw0
   go_wp2_with fail
   go_at_call 163
   refine CN.out.mono ?_
   rintro e w1 ⟨rfl,ev1,hf,hm⟩
   have HF1 := hid hf
   have HM1 := hid (HM0.out.trans hm)
   have HZ1 := hid (hm.z5 HZ0.out HR0.out)
   have HR1 := hid (hm.sx HR0.out)
   have g0 := hm.cell HX0.out g0
   have g1 := hm.cell HX0.out g1
   have g2 := hm.cell HX0.out g2
   have g3 := hm.cell HX0.out g3
   have g4 := hm.cell HX0.out g4
   have HX1 := hid (hm.sx HX0.out)
   have zf := hm.fz HFZ.out HX0.out
   clear hf hm CN
   have FS1 := fits_of (W := W) (f := f) (w := w) (T := zeroT) (x := .slice none 0 0) (y := .slice none 0 0) (rb := w.heap.size) HF1.out HM1.out (hs_leaf w1 _ 0 0 ⟨#[]⟩ (by decide) (by decide) (by decide)) HX1.out (Nat.le_refl _) HWL.out
   obtain ⟨-,hF4,hM4⟩ := FS1.put (.int .i64 6) (.int .i64 0) (.string ⟨#[]⟩) (.slice none 0 0) (.slice none 0 0)
   have hpc := put5_cells g0 g1 g2 g3 g4 (.int .i64 6) (.int .i64 0) (.string ⟨#[]⟩) (.slice none 0 0) (.slice none 0 0)
   have hZ4 := z5_put_other HZ1.out (show w.heap.size + 1 ≠ w.heap.size by omega) (.int .i64 6) (.int .i64 0) (.string ⟨#[]⟩) (.slice none 0 0) (.slice none 0 0)
   have hR4 : Sx b nv ev1 (put5 w1 w.heap.size 0 (.int .i64 6) (.int .i64 0) (.string ⟨#[]⟩) (.slice none 0 0) (.slice none 0 0)) (w.heap.size + 1) := ⟨by rw [put5_size]; exact HR1.out.1,HR1.out.2⟩
   go_upto_region 6 with fail
   refine cewp_gen ?_
   intro w4 hW4
   replace hW4 : w4 = put5 w1 w.heap.size 0 (.int .i64 6) (.int .i64 0) (.string ⟨#[]⟩) (.slice none 0 0) (.slice none 0 0) := hW4
   rw [← hW4] at hF4 hM4 hpc hZ4 hR4
   obtain ⟨y0,y1,y2,y3,y4⟩ := hpc
   have HM4 := hid hM4
   have HZ4 := hid hZ4
   have HR4 := hid hR4
   have CC := hid (CM.out ev1 _ w4 (by simp) hF4)
   unfold FitP at CC
   simp only [vv] at CC
   rw [show emT.kd = 6 from rfl,show emT.nm = 0 from rfl,show emT.st = ⟨#[]⟩ from rfl] at CC
   clear hF4 hM4 hZ4 hR4 hW4 FS1 CM
   go_wp2_with fail
   go_at_call 166
   refine CC.out.mono ?_
   rintro e w2 ⟨x2,y2,nv2,ev2,rfl,hs2,hf2,hm2⟩
   obtain ⟨o3,n3,c3,o4,n4,c4,rfl,rfl⟩ := hv_slices hs2.hv
   have hb3 : Below w2.heap.size w2 (w2.alloc (.cells #[.int .i64 U.kd,.int .i64 U.nm,.string U.st,.slice o3 n3 c3,.slice o4 n4 c4] 29)) := valloc_bel (Below.refl _ _) _
   obtain ⟨⟨e0,e1,e2,e3,e4⟩,z0⟩ := (hm2.z5 HZ4.out HR4.out).onto hb3
   have hms := hm2.sz
   have hM3 := HM4.out.sz
   have hR3 := HR4.out.1
   have hcc := new_cells w2 (vc (U,.slice o3 n3 c3,.slice o4 n4 c4)) 29
   have HFS := hid (fits_of (W := W) (f := f) (w := w) (T := .mk 5 0 ⟨#[]⟩ [U] [] []) (x := .slice (some ⟨w2.heap.size,0,none⟩) 1 1) (y := .slice none 0 0) (hf2.onto hb3) ((HM4.out.trans hm2).trans (Mv.of hb3)) (hs_of (T := .mk 5 0 ⟨#[]⟩ [U] [] []) ⟨show (Lit.int .i64 5).wf = true by decide,show (Lit.int .i64 0).wf = true by decide,show (⟨#[]⟩ : ByteArray).size ≤ maxLen by decide⟩ (ls_one (S := fun k => Sx b nv2 ev2 (w2.alloc (.cells #[.int .i64 U.kd,.int .i64 U.nm,.string U.st,.slice o3 n3 c3,.slice o4 n4 c4] 29)) k ∧ w.heap.size ≤ k ∧ k ≠ w.heap.size + 1) (fun i u hu => by have := hcc i u hu; rwa [add_at] at this) ⟨hf2.fresh (Nat.le_refl _) (by simp),by omega,by omega⟩ (hs2.onto (fun k hk => hb3.block k hk.1.1) (fun k hk => ⟨(Mv.of hb3).sx hk.1,by have := hk.2; omega,by have := hk.2; omega⟩))) (ms_nil _ _)) ((Mv.of hb3).sx (hm2.sx HR4.out)) (Nat.le_succ _) HWL.out)
   clear hb3 hcc hs2 hf2 hm2 CC
   go_wp2_with fail
   refine bodyPost_ret (v := .agg #[.int .i64 5,.int .i64 0,.string ⟨#[]⟩,.slice (some ⟨w2.heap.size,0,none⟩) 1 1,.slice none 0 0]) (by simp [results,Tryz.results114,go_sem,e0,e1,e2,e3,e4]) rfl ?_
   have hfin := HFS.out.put (.int .i64 5) (.int .i64 0) (.string ⟨#[]⟩) (.slice (some ⟨w2.heap.size,0,none⟩) 1 1) (.slice none 0 0)
   rw [List.append_assoc] at hfin
   exact ⟨_,_,_,_,rfl,hfin⟩
 rw [if_neg k5,if_neg k5]
 obtain ⟨k5a,k5b⟩ := ikey T.kd 5 k5
 have CN := hid (CNN.out 7 ev E w0 (by omega) HF0.out)
 obtain ⟨U,hU⟩ : ∃ U : VT,roT T = U := ⟨_,rfl⟩
 rw [hU] at CP ⊢
 simp only [vv]
 clear hU CNN CL CM HFZ
 go_enter Tryz.func114,Tryz.ntmps114
 go_upto_region 1 with fail
 refine cewp_gen ?_
 intro W0 hW
 obtain rfl : W0 = w0 := by first | exact hW | exact hW.trans hw0
 clear hw0
 go_wp2_with fail
 go_at_call 163
 refine CN.out.mono ?_
 rintro e w1 ⟨rfl,ev1,hf,hm⟩
 have HF1 := hid hf
 have HM1 := hid (HM0.out.trans hm)
 have HZ1 := hid (hm.z5 HZ0.out HR0.out)
 have HR1 := hid (hm.sx HR0.out)
 have g0 := hm.cell HX0.out g0
 have g1 := hm.cell HX0.out g1
 have g2 := hm.cell HX0.out g2
 have g3 := hm.cell HX0.out g3
 have g4 := hm.cell HX0.out g4
 have HX1 := hid (hm.sx HX0.out)
 clear hf hm CN
 have CC := hid (CP.out ev1 _ w1 (by simp) HF1.out)
 unfold FitP at CC
 simp only [vv] at CC
 clear CP
 go_wp2_with fail
 go_at_call 166
 refine CC.out.mono ?_
 rintro e w2 ⟨x2,y2,nv2,ev2,rfl,hs2,hf2,hm2⟩
 obtain ⟨o3,n3,c3,o4,n4,c4,rfl,rfl⟩ := hv_slices hs2.hv
 have hb3 : Below w2.heap.size w2 (w2.alloc (.cells #[.int .i64 U.kd,.int .i64 U.nm,.string U.st,.slice o3 n3 c3,.slice o4 n4 c4] 29)) := valloc_bel (Below.refl _ _) _
 obtain ⟨⟨e0,e1,e2,e3,e4⟩,z0⟩ := (hm2.z5 HZ1.out HR1.out).onto hb3
 have hms := hm2.sz
 have hM3 := HM1.out.sz
 have hR3 := HR1.out.1
 have hcc := new_cells w2 (vc (U,.slice o3 n3 c3,.slice o4 n4 c4)) 29
 have HFS := hid (fits_of (W := W) (f := f) (w := w) (T := .mk 5 0 ⟨#[]⟩ [U] [] []) (x := .slice (some ⟨w2.heap.size,0,none⟩) 1 1) (y := .slice none 0 0) (hf2.onto hb3) ((HM1.out.trans hm2).trans (Mv.of hb3)) (hs_of (T := .mk 5 0 ⟨#[]⟩ [U] [] []) ⟨show (Lit.int .i64 5).wf = true by decide,show (Lit.int .i64 0).wf = true by decide,show (⟨#[]⟩ : ByteArray).size ≤ maxLen by decide⟩ (ls_one (S := fun k => Sx b nv2 ev2 (w2.alloc (.cells #[.int .i64 U.kd,.int .i64 U.nm,.string U.st,.slice o3 n3 c3,.slice o4 n4 c4] 29)) k ∧ w.heap.size ≤ k ∧ k ≠ w.heap.size + 1) (fun i u hu => by have := hcc i u hu; rwa [add_at] at this) ⟨hf2.fresh (Nat.le_refl _) (by simp),by omega,by omega⟩ (hs2.onto (fun k hk => hb3.block k hk.1.1) (fun k hk => ⟨(Mv.of hb3).sx hk.1,by have := hk.2; omega,by have := hk.2; omega⟩))) (ms_nil _ _)) ((Mv.of hb3).sx (hm2.sx HR1.out)) (Nat.le_succ _) HWL.out)
 clear hb3 hcc hs2 hf2 hm2 CC
 go_wp2_with fail
 refine bodyPost_ret (v := .agg #[.int .i64 5,.int .i64 0,.string ⟨#[]⟩,.slice (some ⟨w2.heap.size,0,none⟩) 1 1,.slice none 0 0]) (by simp [results,Tryz.results114,go_sem,e0,e1,e2,e3,e4]) rfl ?_
 have hfin := HFS.out.put (.int .i64 5) (.int .i64 0) (.string ⟨#[]⟩) (.slice (some ⟨w2.heap.size,0,none⟩) 1 1) (.slice none 0 0)
 rw [List.append_assoc] at hfin
 exact ⟨_,_,_,_,rfl,hfin⟩
def rtT (f : Int) (T : VT) : VT := if f = 2 then tbT f T else if f = 3 then rsT T else fiT f T
def rtN (f : Int) (T : VT) (p : List PStep) : List LN := if f = 2 then tbN f T p else if f = 3 then rsN T p else lfnT f T p
set_option maxRecDepth 100000 in
set_option maxHeartbeats 4000000 in
theorem lroot_any {W : World} {b : Nat} {f : Int} (hg : GlobL W) (T : VT) (hz : szT T ≤ 100000) (hp : plainT T = true) (x y nv ev : Value) (now : List PStep) (E : List LN) (w : World) (hT : HV W T x y) (h : Fk W b f nv ev now E w) (hk : ∀ s ∈ now,Small s) (hn : now.length + szT T ≤ 10000) (hE : E.length + szT T + 2 ≤ 1000000) :
  Calls Tryz.prog 64 #[.pointer (some ⟨b,0,none⟩),vv T x y] w (FitP W b f nv ev w now (E ++ rtN f T now) (rtT f T)) := by
 have C1 := hid (fun (w2 : World) (F : Fk W b f nv ev now E w2) => lpart_any (b := b) (f := f) hg (szT T) T (Nat.le_refl _) hz hp x y nv ev now E w2 hT F hk hn (by omega))
 have C2 := hid (fun (w2 : World) (F : Fk W b f nv ev now E w2) => ltable_any hg T hz hp x y nv ev now E w2 hT F hk hn hE)
 have C3 := hid (fun (w2 : World) (F : Fk W b f nv ev now E w2) => lrows_any hg T hz x y nv ev now E w2 hT F hk hn hE)
 obtain ⟨-,-,-,-,-,-,o1,o2,c1,c2,rfl,rfl,-⟩ := hT.parts
 unfold rtT rtN
 have HWL := hid h.bel.size
 have hTw := hT.onto h.bel
 have hb0 : Below w.heap.size w ((w.alloc (.cells #[.int .i64 T.kd,.int .i64 T.nm,.string T.st,.slice o1 T.ls.length c1,.slice o2 T.vs.length c2] 29)).alloc (.cells #[.int .i64 0,.int .i64 0,.string ⟨#[]⟩,.slice none 0 0,.slice none 0 0] 29)) := valloc_bel (valloc_bel (Below.refl _ _) _) _
 have HF0 := hid (h.onto hb0)
 have HM0 := hid (Mv.of (b := b) (nv := nv) (ev := ev) hb0)
 have HZ0 := hid (show Z5 ((w.alloc (.cells #[.int .i64 T.kd,.int .i64 T.nm,.string T.st,.slice o1 T.ls.length c1,.slice o2 T.vs.length c2] 29)).alloc (.cells #[.int .i64 0,.int .i64 0,.string ⟨#[]⟩,.slice none 0 0,.slice none 0 0] 29)) (w.heap.size + 1) by have := z5_new (w.alloc (.cells #[.int .i64 T.kd,.int .i64 T.nm,.string T.st,.slice o1 T.ls.length c1,.slice o2 T.vs.length c2] 29)); simpa using this)
 have HR0 := hid (show Sx b nv ev ((w.alloc (.cells #[.int .i64 T.kd,.int .i64 T.nm,.string T.st,.slice o1 T.ls.length c1,.slice o2 T.vs.length c2] 29)).alloc (.cells #[.int .i64 0,.int .i64 0,.string ⟨#[]⟩,.slice none 0 0,.slice none 0 0] 29)) (w.heap.size + 1) from h.fresh (Nat.le_succ _) (by simp))
 have HX0 := hid (show Sx b nv ev ((w.alloc (.cells #[.int .i64 T.kd,.int .i64 T.nm,.string T.st,.slice o1 T.ls.length c1,.slice o2 T.vs.length c2] 29)).alloc (.cells #[.int .i64 0,.int .i64 0,.string ⟨#[]⟩,.slice none 0 0,.slice none 0 0] 29)) w.heap.size from h.fresh (Nat.le_refl _) (by simp; omega))
 have hsz0 : ((w.alloc (.cells #[.int .i64 T.kd,.int .i64 T.nm,.string T.st,.slice o1 T.ls.length c1,.slice o2 T.vs.length c2] 29)).alloc (.cells #[.int .i64 0,.int .i64 0,.string ⟨#[]⟩,.slice none 0 0,.slice none 0 0] 29)).heap.size = w.heap.size + 2 := by simp
 obtain ⟨f0,f1,f2,f3,f4⟩ := tpbox w (.int .i64 T.kd) (.int .i64 T.nm) (.string T.st) (.slice o1 T.ls.length c1) (.slice o2 T.vs.length c2)
 have hb1 : Below (w.alloc (.cells #[.int .i64 T.kd,.int .i64 T.nm,.string T.st,.slice o1 T.ls.length c1,.slice o2 T.vs.length c2] 29)).heap.size (w.alloc (.cells #[.int .i64 T.kd,.int .i64 T.nm,.string T.st,.slice o1 T.ls.length c1,.slice o2 T.vs.length c2] 29)) ((w.alloc (.cells #[.int .i64 T.kd,.int .i64 T.nm,.string T.st,.slice o1 T.ls.length c1,.slice o2 T.vs.length c2] 29)).alloc (.cells #[.int .i64 0,.int .i64 0,.string ⟨#[]⟩,.slice none 0 0,.slice none 0 0] 29)) := valloc_bel (Below.refl _ _) _
 have g0 := keepCell hb1 f0
 have g1 := keepCell hb1 f1
 have g2 := keepCell hb1 f2
 have g3 := keepCell hb1 f3
 have g4 := keepCell hb1 f4
 clear f0 f1 f2 f3 f4 hb1 hb0 h hTw
 generalize hw0 : ((w.alloc (.cells #[.int .i64 T.kd,.int .i64 T.nm,.string T.st,.slice o1 T.ls.length c1,.slice o2 T.vs.length c2] 29)).alloc (.cells #[.int .i64 0,.int .i64 0,.string ⟨#[]⟩,.slice none 0 0,.slice none 0 0] 29)) = w0 at *
 have q0 := HF0.out.cells.1
 by_cases f2 : f = 2
 ·subst f2
  rw [if_pos rfl,if_pos rfl]
  have CC := hid (C2.out w0 HF0.out)
  obtain ⟨U,hU⟩ : ∃ U : VT,tbT 2 T = U := ⟨_,rfl⟩
  rw [hU] at CC ⊢
  unfold FitP at CC
  simp only [vv] at CC ⊢
  clear hU C1 C2 C3
  go_enter Tryz.func64,Tryz.ntmps64
  go_upto_region 1 with fail
  refine cewp_gen ?_
  intro W0 hW
  obtain rfl : W0 = w0 := by first | exact hW | exact hW.trans hw0
  clear hw0
  go_wp2_with fail
  go_at_call 113
  refine CC.out.mono ?_
  rintro e w2 ⟨x2,y2,nv2,ev2,rfl,hs2,hf2,hm2⟩
  obtain ⟨o3,n3,c3,o4,n4,c4,rfl,rfl⟩ := hv_slices hs2.hv
  obtain ⟨⟨e0,e1,e2,e3,e4⟩,z0⟩ := hm2.z5 HZ0.out HR0.out
  have HFS := hid (fits_of (W := W) (f := 2) (w := w) hf2 (HM0.out.trans hm2) (hs2.onto (S' := fun k => Sx b nv2 ev2 w2 k ∧ w.heap.size ≤ k ∧ k ≠ w.heap.size + 1) (fun _ _ => rfl) (fun k hk => ⟨hk.1,by have := hk.2; omega,by have := hk.2; omega⟩)) (hm2.sx HR0.out) (Nat.le_succ _) HWL.out)
  clear hs2 hf2 hm2
  go_wp2_with fail
  refine bodyPost_ret (v := vv U (.slice o3 n3 c3) (.slice o4 n4 c4)) (by simp [results,Tryz.results64,go_sem,vv,e0,e1,e2,e3,e4]) rfl ?_
  exact ⟨_,_,_,_,rfl,HFS.out.put _ _ _ _ _⟩
 rw [if_neg f2,if_neg f2]
 have i2 := ikey f 2 f2
 by_cases f3 : f = 3
 ·subst f3
  rw [if_pos rfl,if_pos rfl]
  have CC := hid (C3.out w0 HF0.out)
  obtain ⟨U,hU⟩ : ∃ U : VT,rsT T = U := ⟨_,rfl⟩
  rw [hU] at CC ⊢
  unfold FitP at CC
  simp only [vv] at CC ⊢
  clear hU C1 C2 C3 i2 f2
  go_enter Tryz.func64,Tryz.ntmps64
  go_upto_region 1 with fail
  refine cewp_gen ?_
  intro W0 hW
  obtain rfl : W0 = w0 := by first | exact hW | exact hW.trans hw0
  clear hw0
  go_wp2_with fail
  go_at_call 114
  refine CC.out.mono ?_
  rintro e w2 ⟨x2,y2,nv2,ev2,rfl,hs2,hf2,hm2⟩
  obtain ⟨o3,n3,c3,o4,n4,c4,rfl,rfl⟩ := hv_slices hs2.hv
  obtain ⟨⟨e0,e1,e2,e3,e4⟩,z0⟩ := hm2.z5 HZ0.out HR0.out
  have HFS := hid (fits_of (W := W) (f := 3) (w := w) hf2 (HM0.out.trans hm2) (hs2.onto (S' := fun k => Sx b nv2 ev2 w2 k ∧ w.heap.size ≤ k ∧ k ≠ w.heap.size + 1) (fun _ _ => rfl) (fun k hk => ⟨hk.1,by have := hk.2; omega,by have := hk.2; omega⟩)) (hm2.sx HR0.out) (Nat.le_succ _) HWL.out)
  clear hs2 hf2 hm2
  go_wp2_with fail
  refine bodyPost_ret (v := vv U (.slice o3 n3 c3) (.slice o4 n4 c4)) (by simp [results,Tryz.results64,go_sem,vv,e0,e1,e2,e3,e4]) rfl ?_
  exact ⟨_,_,_,_,rfl,HFS.out.put _ _ _ _ _⟩
 rw [if_neg f3,if_neg f3]
 have i3 := ikey f 3 f3
 have CC := hid (C1.out w0 HF0.out)
 obtain ⟨U,hU⟩ : ∃ U : VT,fiT f T = U := ⟨_,rfl⟩
 rw [hU] at CC ⊢
 unfold FitP at CC
 simp only [vv] at CC ⊢
 clear hU C1 C2 C3
 go_enter Tryz.func64,Tryz.ntmps64
 go_upto_region 1 with fail
 refine cewp_gen ?_
 intro W0 hW
 obtain rfl : W0 = w0 := by first | exact hW | exact hW.trans hw0
 clear hw0
 go_wp2_with fail
 go_at_call 115
 refine CC.out.mono ?_
 rintro e w2 ⟨x2,y2,nv2,ev2,rfl,hs2,hf2,hm2⟩
 obtain ⟨o3,n3,c3,o4,n4,c4,rfl,rfl⟩ := hv_slices hs2.hv
 obtain ⟨⟨e0,e1,e2,e3,e4⟩,z0⟩ := hm2.z5 HZ0.out HR0.out
 have HFS := hid (fits_of (W := W) (f := f) (w := w) hf2 (HM0.out.trans hm2) (hs2.onto (S' := fun k => Sx b nv2 ev2 w2 k ∧ w.heap.size ≤ k ∧ k ≠ w.heap.size + 1) (fun _ _ => rfl) (fun k hk => ⟨hk.1,by have := hk.2; omega,by have := hk.2; omega⟩)) (hm2.sx HR0.out) (Nat.le_succ _) HWL.out)
 clear hs2 hf2 hm2
 go_wp2_with fail
 refine bodyPost_ret (v := vv U (.slice o3 n3 c3) (.slice o4 n4 c4)) (by simp [results,Tryz.results64,go_sem,vv,e0,e1,e2,e3,e4]) rfl ?_
 exact ⟨_,_,_,_,rfl,HFS.out.put _ _ _ _ _⟩
end Go.Proofs.YteimbjamnfkapaaGreatDoor
/- loss: Fit. -/
namespace Go.Proofs.YteimbjamnfkapaaGreatDoor
open Go.RowKit
def ftE (f : Int) (T : VT) : Int := if 1 ≤ f ∧ f ≤ 3 ∧ mayB 0 1 T = true then (if mayF f T = true then 0 else if mayF f (rtT f T) = true then 0 else 2) else 1
def ftT (f : Int) (T : VT) : VT := if ftE f T = 0 then (if mayF f T = true then T else rtT f T) else zeroT
def ftN (f : Int) (T : VT) : List LN := if ftE f T = 0 then (if mayF f T = true then [] else rtN f T []) else []
def InNt (w : World) (E : List LN) (v : Value) : Prop := ∃ a,SlOf v a E.length ∧ ∀ i e,E[i]? = some e → w.cell? (a.add (i * 2)) = some (.string (mkS (textP e.1))) ∧ w.cell? ⟨(a.add (i * 2)).block,(a.add (i * 2)).off + 1,none⟩ = some (.int .i64 e.2)
theorem InNt.onto {w w' : World} {E : List LN} {v : Value} (h : InNt w E v) (hb : Below w.heap.size w w') : InNt w' E v := by
 obtain ⟨a,h1,h2⟩ := h
 exact ⟨a,h1,fun i e he => ⟨keepCell hb (h2 i e he).1,keepCell hb (h2 i e he).2⟩⟩
theorem innt_nil (w : World) : InNt w [] (.slice none 0 0) := ⟨⟨0,0,none⟩,⟨none,0,rfl,Nat.le_refl _,Nat.zero_le _,fun h => absurd h (by simp)⟩,fun i e h => by simp at h⟩
theorem own_innt {w : World} {B : Nat} {v : Value} {E : List LN} (h : w.ownsRow B 66 2 v E.length (E.flatMap ncE)) : InNt w E v := by
 have hc := h
 rcases hc with ⟨-,⟨rfl,h0⟩ | ⟨g,cap,cur,rfl,-,-,hn,hcm,-,-⟩⟩
 ·have : E = [] := List.eq_nil_of_length_eq_zero h0
  subst this
  exact innt_nil w
 ·have key : ∀ (i : Nat) (e : LN),E[i]? = some e → ∀ (c : Nat) (u : Value),(ncE e)[c]? = some u → w.cell? ⟨g,i * 2 + c,none⟩ = some u := by
   intro i e he c u hu
   have hi := lt_of_some he
   have hc : c < 2 := lt_of_some hu
   rw [h.cellAt (i * 2 + c) (by omega),flat_at ncE 2 (fun _ => rfl) E i c e he hc]
   exact hu
  refine ⟨⟨g,0,none⟩,⟨_,cap,rfl,by simpa using hn,hcm,fun _ => rfl⟩,fun i e he => ?_⟩
  rw [add_at]
  exact ⟨key i e he 0 _ rfl,key i e he 1 _ rfl⟩
def FitsP (f : Int) (T : VT) (w : World) (e : Ending) (w' : World) : Prop := ∃ x y v,e = .returned (.tuple #[vv (ftT f T) x y,v,.int .i64 (ftE f T)]) ∧ HV w' (ftT f T) x y ∧ InNt w' (ftN f T) v ∧ Below w.heap.size w w'
theorem fits_no {f : Int} {T : VT} {w w' : World} {k : Int} (h : ftE f T = k) (hk : k ≠ 0) (hb : Below w.heap.size w w') : FitsP f T w (.returned (.tuple #[.agg #[.int .i64 0,.int .i64 0,.string ⟨#[]⟩,.slice none 0 0,.slice none 0 0],.slice none 0 0,.int .i64 k])) w' := by
 have h1 : ftT f T = zeroT := by unfold ftT; rw [if_neg (by rw [h]; exact hk)]
 have h2 : ftN f T = [] := by unfold ftN; rw [if_neg (by rw [h]; exact hk)]
 refine ⟨.slice none 0 0,.slice none 0 0,.slice none 0 0,by rw [h,h1]; rfl,?_,by rw [h2]; exact innt_nil _,hb⟩
 rw [h1]
 exact (hs_leaf w' (fun _ => True) 0 0 ⟨#[]⟩ (by decide) (by decide) (by decide)).hv
set_option maxRecDepth 100000 in
set_option maxHeartbeats 8000000 in
theorem lfit_any (f : Int) (T : VT) (x y : Value) (w : World) (hg : GlobL w) (hT : HV w T x y) : Calls Tryz.prog 27 #[.int .i64 f,vv T x y] w (FitsP f T w) := by
 have CG := hid (fun (X : World) (hX : Below w.heap.size w X) => vgood_any T x y X (hg.on hX).n.t.g (hT.onto hX))
 have CM := hid (fun (X : World) (hX : Below w.heap.size w X) => lmay_any f T x y X (hT.onto hX) (hg.on hX))
 have HG := hid hg
 have HT := hid hT
 obtain ⟨-,-,-,-,-,-,o1,o2,c1,c2,rfl,rfl,-⟩ := hT.parts
 have hb0 : Below w.heap.size w ((w.alloc (.cells #[.int .i64 T.kd,.int .i64 T.nm,.string T.st,.slice o1 T.ls.length c1,.slice o2 T.vs.length c2] 29)).alloc (.cells #[.int .i64 0,.int .i64 0,.string ⟨#[]⟩,.slice none 0 0,.slice none 0 0] 29)) := valloc_bel (valloc_bel (Below.refl _ _) _) _
 have HZ0 := hid (show Z5 ((w.alloc (.cells #[.int .i64 T.kd,.int .i64 T.nm,.string T.st,.slice o1 T.ls.length c1,.slice o2 T.vs.length c2] 29)).alloc (.cells #[.int .i64 0,.int .i64 0,.string ⟨#[]⟩,.slice none 0 0,.slice none 0 0] 29)) (w.heap.size + 1) by have := z5_new (w.alloc (.cells #[.int .i64 T.kd,.int .i64 T.nm,.string T.st,.slice o1 T.ls.length c1,.slice o2 T.vs.length c2] 29)); simpa using this)
 obtain ⟨f0,f1,f2,f3,f4⟩ := tpbox w (.int .i64 T.kd) (.int .i64 T.nm) (.string T.st) (.slice o1 T.ls.length c1) (.slice o2 T.vs.length c2)
 have hb1 : Below (w.alloc (.cells #[.int .i64 T.kd,.int .i64 T.nm,.string T.st,.slice o1 T.ls.length c1,.slice o2 T.vs.length c2] 29)).heap.size (w.alloc (.cells #[.int .i64 T.kd,.int .i64 T.nm,.string T.st,.slice o1 T.ls.length c1,.slice o2 T.vs.length c2] 29)) ((w.alloc (.cells #[.int .i64 T.kd,.int .i64 T.nm,.string T.st,.slice o1 T.ls.length c1,.slice o2 T.vs.length c2] 29)).alloc (.cells #[.int .i64 0,.int .i64 0,.string ⟨#[]⟩,.slice none 0 0,.slice none 0 0] 29)) := valloc_bel (Below.refl _ _) _
 have g0 := keepCell hb1 f0
 have g1 := keepCell hb1 f1
 have g2 := keepCell hb1 f2
 have g3 := keepCell hb1 f3
 have g4 := keepCell hb1 f4
 have HB0 := hid hb0
 clear f0 f1 f2 f3 f4 hb1 hb0 hT hg
 simp only [vv] at CG CM ⊢
 by_cases fl : f < 1
 ·have HE := hid (show ftE f T = 1 by unfold ftE; rw [if_neg (fun h => by omega)])
  clear g0 g1 g2 g3 g4 CG CM
  go_enter Tryz.func27,Tryz.ntmps27
  go_wp2_with fail
  refine bodyPost_ret (v := .tuple #[.agg #[.int .i64 0,.int .i64 0,.string ⟨#[]⟩,.slice none 0 0,.slice none 0 0],.slice none 0 0,.int .i64 1]) (by simp [results,Tryz.results27,go_sem]) rfl ?_
  exact fits_no HE.out (by decide) (by first | exact HB0.out | (repeat (first | exact HB0.out | (refine vset_belF ?_ (by omega)))))
 by_cases fh : 3 < f
 ·have HE := hid (show ftE f T = 1 by unfold ftE; rw [if_neg (fun h => by omega)])
  clear g0 g1 g2 g3 g4 CG CM
  go_enter Tryz.func27,Tryz.ntmps27
  go_wp2_with fail
  refine bodyPost_ret (v := .tuple #[.agg #[.int .i64 0,.int .i64 0,.string ⟨#[]⟩,.slice none 0 0,.slice none 0 0],.slice none 0 0,.int .i64 1]) (by simp [results,Tryz.results27,go_sem]) rfl ?_
  exact fits_no HE.out (by decide) (by first | exact HB0.out | (repeat (first | exact HB0.out | (refine vset_belF ?_ (by omega)))))
 obtain ⟨M,hM⟩ : ∃ M,mayB 0 1 T = M := ⟨_,rfl⟩
 have HM := hid hM
 rw [hM] at CG
 clear hM
 go_enter Tryz.func27,Tryz.ntmps27
 go_upto_region 1 with fail
 refine cewp_gen ?_
 intro W0 hW
 replace hW : W0 = ((w.alloc (.cells #[.int .i64 T.kd,.int .i64 T.nm,.string T.st,.slice o1 T.ls.length c1,.slice o2 T.vs.length c2] 29)).alloc (.cells #[.int .i64 0,.int .i64 0,.string ⟨#[]⟩,.slice none 0 0,.slice none 0 0] 29)) := hW
 rw [← hW] at HB0 HZ0 g0 g1 g2 g3 g4
 clear hW
 go_wp2_with fail
 go_at_call 43
 refine (CG.out _ HB0.out).mono ?_
 rintro e w1 ⟨rfl,hb1⟩
 have g0 := keepCell hb1 g0
 have g1 := keepCell hb1 g1
 have g2 := keepCell hb1 g2
 have g3 := keepCell hb1 g3
 have g4 := keepCell hb1 g4
 have HB1 := hid (vonto HB0.out hb1)
 have HZ1 := hid (HZ0.out.onto hb1)
 clear hb1 CG HB0 HZ0
 cases M with
 | false =>
  have HE := hid (show ftE f T = 1 by unfold ftE; rw [if_neg (fun h => by rw [HM.out] at h; exact absurd h.2.2 (by decide))])
  obtain ⟨⟨e0,e1,e2,e3,e4⟩,z0⟩ := HZ1.out
  have HBF := hid (show Below w.heap.size w (put5 w1 (w.heap.size + 1) 0 (.int .i64 0) (.int .i64 0) (.string ⟨#[]⟩) (.slice none 0 0) (.slice none 0 0)) from by
   unfold put5
   repeat (refine vset_belF ?_ (by omega))
   exact HB1.out)
  go_wp2_with fail
  refine bodyPost_ret (v := .tuple #[.agg #[.int .i64 0,.int .i64 0,.string ⟨#[]⟩,.slice none 0 0,.slice none 0 0],.slice none 0 0,.int .i64 1]) (by simp [results,Tryz.results27,go_sem,e0,e1,e2,e3,e4]) rfl ?_
  exact fits_no HE.out (by decide) HBF.out
 | true =>
  obtain ⟨hz1,hz2,hpl⟩ := good_sz HM.out
  obtain ⟨R,hR⟩ : ∃ R,mayF f T = R := ⟨_,rfl⟩
  rw [hR] at CM
  have HRm := hid hR
  clear hR
  go_wp2_with fail
  go_at_call 28
  refine (CM.out _ HB1.out).mono ?_
  rintro e w2 ⟨rfl,hb2⟩
  have g0 := keepCell hb2 g0
  have g1 := keepCell hb2 g1
  have g2 := keepCell hb2 g2
  have g3 := keepCell hb2 g3
  have g4 := keepCell hb2 g4
  have HB2 := hid (vonto HB1.out hb2)
  have HZ2 := hid (HZ1.out.onto hb2)
  clear hb2 CM HB1 HZ1
  cases R with
  | true =>
   have HE := hid (show ftE f T = 0 by unfold ftE; rw [if_pos ⟨by omega,by omega,HM.out⟩,if_pos HRm.out])
   have HFT := hid (show ftT f T = T by unfold ftT; rw [if_pos HE.out,if_pos HRm.out])
   have HFN := hid (show ftN f T = [] by unfold ftN; rw [if_pos HE.out,if_pos HRm.out])
   have CC := hid (vcopy_any (szT T) T (Nat.le_refl _) (by omega) _ _ w2 (HT.out.onto HB2.out))
   simp only [vv] at CC
   go_wp2_with fail
   go_at_call 63
   refine CC.out.mono ?_
   rintro e w3 ⟨X,Y,rfl,hc,hb3⟩
   obtain ⟨o3,n3,c3,o4,n4,c4,rfl,rfl⟩ := hv_slices hc.hv
   obtain ⟨⟨e0,e1,e2,e3,e4⟩,z0⟩ := HZ2.out.onto hb3
   have hrb : w.heap.size + 1 < w2.heap.size := World.block_lt_of_cell? w2 _ HZ2.out.1.1
   have HBF := hid (show Below w.heap.size w (put5 w3 (w.heap.size + 1) 0 (.int .i64 T.kd) (.int .i64 T.nm) (.string T.st) (.slice o3 n3 c3) (.slice o4 n4 c4)) from by
    unfold put5
    repeat (refine vset_belF ?_ (by omega))
    exact vonto HB2.out hb3)
   have HVF := hid (show HV (put5 w3 (w.heap.size + 1) 0 (.int .i64 T.kd) (.int .i64 T.nm) (.string T.st) (.slice o3 n3 c3) (.slice o4 n4 c4)) T (.slice o3 n3 c3) (.slice o4 n4 c4) from
    (hc.onto (fun k k1 k2 => put5_heap _ _ _ _ _ _ _ _ _ (by omega))).hv)
   clear hc hb3 CC
   go_wp2_with fail
   refine bodyPost_ret (v := .tuple #[vv T (.slice o3 n3 c3) (.slice o4 n4 c4),.slice none 0 0,.int .i64 0]) (by simp [results,Tryz.results27,go_sem,vv,e0,e1,e2,e3,e4]) rfl ?_
   exact ⟨.slice o3 n3 c3,.slice o4 n4 c4,.slice none 0 0,by rw [HE.out,HFT.out],by rw [HFT.out]; exact HVF.out,by rw [HFN.out]; exact innt_nil _,HBF.out⟩
  | false =>
  have hwb : Below w2.heap.size w2 (w2.alloc (.cells #[.int .i64 f,.slice none 0 0,.slice none 0 0] 119)) := valloc_bel (Below.refl _ _) _
  have fk0 : Fk w2 w2.heap.size f (.slice none 0 0) (.slice none 0 0) [] [] (w2.alloc (.cells #[.int .i64 f,.slice none 0 0,.slice none 0 0] 119)) :=
   ⟨hwb,Nat.le_refl _,by simp only [World.alloc,Array.getElem?_push_size],World.ownsRow_nil _ _ _ _,World.ownsRow_nil _ _ _ _⟩
  have CR := hid (lroot_any (W := w2) (HG.out.on HB2.out) T (by omega) hpl _ _ _ _ [] [] _ (HT.out.onto HB2.out) fk0 (fun s hs => by cases hs) (by simp; omega) (by simp; omega))
  obtain ⟨U,hU⟩ : ∃ U : VT,rtT f T = U := ⟨_,rfl⟩
  obtain ⟨EN,hEN⟩ : ∃ E : List LN,rtN f T [] = E := ⟨_,rfl⟩
  rw [hU,hEN,List.nil_append] at CR
  have HU := hid hU
  have HEN := hid hEN
  unfold FitP at CR
  simp only [vv] at CR
  have h0 := keepCell hwb g0
  have h1 := keepCell hwb g1
  have h2 := keepCell hwb g2
  have h3 := keepCell hwb g3
  have h4 := keepCell hwb g4
  have hrb : w.heap.size + 1 < w2.heap.size := World.block_lt_of_cell? w2 _ HZ2.out.1.1
  clear hU hEN fk0 hwb g0 g1 g2 g3 g4
  go_upto_region 6 with fail
  refine cewp_gen ?_
  intro w3 hW3
  replace hW3 : w3 = (w2.alloc (.cells #[.int .i64 f,.slice none 0 0,.slice none 0 0] 119)) := hW3
  rw [← hW3] at CR h0 h1 h2 h3 h4
  have hs3 : w3.heap.size = w2.heap.size + 1 := by rw [hW3]; simp
  clear hW3
  go_wp2_with fail
  go_at_call 64
  refine CR.out.mono ?_
  rintro e w4 ⟨x4,y4,nv4,ev4,rfl,hs4,hf4,hm4⟩
  obtain ⟨o3,n3,c3,o4,n4,c4,rfl,rfl⟩ := hv_slices hs4.hv
  obtain ⟨oe,ce,rfl⟩ := own_slice hf4.es
  have hz4 := hm4.sz
  have HB4 := hid (vonto HB2.out hf4.bel)
  have hbx : Below w4.heap.size w4 (w4.alloc (.cells #[.int .i64 U.kd,.int .i64 U.nm,.string U.st,.slice o3 n3 c3,.slice o4 n4 c4] 29)) := valloc_bel (Below.refl _ _) _
  obtain ⟨b0,b1,b2,b3,b4⟩ := tpbox w4 (.int .i64 U.kd) (.int .i64 U.nm) (.string U.st) (.slice o3 n3 c3) (.slice o4 n4 c4)
  have HS5 := hid (hs4.onto (S' := fun k => w2.heap.size < k ∧ k < w4.heap.size) (fun k hk => hbx.block k hk.1.1) (fun k hk => ⟨by have := hk.2; omega,hk.1.1⟩))
  have HO5 := hid (ownsRow_below hf4.es hbx)
  have HC5 := hid (keepCell hbx hf4.cells.2.2.1)
  have HB5 := hid (vonto HB4.out hbx)
  have HZ5 := hid ((HZ2.out.onto hf4.bel).onto hbx)
  have HSZ := hid hbx.size
  clear hs4 hf4 hm4 hbx CR HB2 HB4 HZ2 h0 h1 h2 h3 h4
  go_upto_region 7 with fail
  refine cewp_gen ?_
  intro w5 hW5
  replace hW5 : w5 = (w4.alloc (.cells #[.int .i64 U.kd,.int .i64 U.nm,.string U.st,.slice o3 n3 c3,.slice o4 n4 c4] 29)) := hW5
  rw [← hW5] at b0 b1 b2 b3 b4 HS5 HO5 HC5 HB5 HZ5 HSZ
  clear hW5
  have CM2 := hid (lmay_any f U _ _ w5 HS5.out.hv (HG.out.on HB5.out))
  obtain ⟨R2,hR2⟩ : ∃ R,mayF f U = R := ⟨_,rfl⟩
  rw [hR2] at CM2
  have HR2 := hid hR2
  simp only [vv] at CM2
  clear hR2
  go_wp2_with fail
  go_at_call 28
  refine CM2.out.mono ?_
  rintro e w6 ⟨rfl,hb6⟩
  have b0 := keepCell hb6 b0
  have b1 := keepCell hb6 b1
  have b2 := keepCell hb6 b2
  have b3 := keepCell hb6 b3
  have b4 := keepCell hb6 b4
  have c2 := keepCell hb6 HC5.out
  have HB6 := hid (vonto HB5.out hb6)
  have HZ6 := hid (HZ5.out.onto hb6)
  have HO6 := hid (ownsRow_below HO5.out hb6)
  have HS6 := hid (show HS w6 (fun k => w2.heap.size < k) U (.slice o3 n3 c3) (.slice o4 n4 c4) from HS5.out.onto (fun k hk => hb6.block k (Nat.lt_of_lt_of_le hk.2 HSZ.out)) (fun k hk => hk.1))
  obtain ⟨⟨e0,e1,e2,e3,e4⟩,z0⟩ := HZ6.out
  clear hb6 CM2 HC5 HB5 HZ5 HO5 HS5
  cases R2 with
  | false =>
   have HE := hid (show ftE f T = 2 by unfold ftE; rw [if_pos ⟨by omega,by omega,HM.out⟩,if_neg (by rw [HRm.out]; decide),HU.out,if_neg (by rw [HR2.out]; decide)])
   have HBF := hid (show Below w.heap.size w (put5 w6 (w.heap.size + 1) 0 (.int .i64 0) (.int .i64 0) (.string ⟨#[]⟩) (.slice none 0 0) (.slice none 0 0)) from by
    unfold put5
    repeat (refine vset_belF ?_ (by omega))
    exact HB6.out)
   go_wp2_with fail
   refine bodyPost_ret (v := .tuple #[.agg #[.int .i64 0,.int .i64 0,.string ⟨#[]⟩,.slice none 0 0,.slice none 0 0],.slice none 0 0,.int .i64 2]) (by simp [results,Tryz.results27,go_sem,e0,e1,e2,e3,e4]) rfl ?_
   exact fits_no HE.out (by decide) HBF.out
  | true =>
   have HE := hid (show ftE f T = 0 by unfold ftE; rw [if_pos ⟨by omega,by omega,HM.out⟩,if_neg (by rw [HRm.out]; decide),HU.out,if_pos HR2.out])
   have HFT := hid (show ftT f T = U by unfold ftT; rw [if_pos HE.out,if_neg (by rw [HRm.out]; decide),HU.out])
   have HFN := hid (show ftN f T = EN by unfold ftN; rw [if_pos HE.out,if_neg (by rw [HRm.out]; decide),HEN.out])
   have HBF := hid (show Below w.heap.size w (put5 w6 (w.heap.size + 1) 0 (.int .i64 U.kd) (.int .i64 U.nm) (.string U.st) (.slice o3 n3 c3) (.slice o4 n4 c4)) from by
    unfold put5
    repeat (refine vset_belF ?_ (by omega))
    exact HB6.out)
   have HVF := hid (show HV (put5 w6 (w.heap.size + 1) 0 (.int .i64 U.kd) (.int .i64 U.nm) (.string U.st) (.slice o3 n3 c3) (.slice o4 n4 c4)) U (.slice o3 n3 c3) (.slice o4 n4 c4) from
    (HS6.out.onto (S' := fun _ => True) (fun k hk => put5_heap _ _ _ _ _ _ _ _ _ (by have : w2.heap.size < k := hk; omega)) (fun _ _ => trivial)).hv)
   have HNF := hid (show InNt (put5 w6 (w.heap.size + 1) 0 (.int .i64 U.kd) (.int .i64 U.nm) (.string U.st) (.slice o3 n3 c3) (.slice o4 n4 c4)) EN (.slice oe EN.length ce) from by
    have ho : ∀ q,(Value.slice oe EN.length ce).ownBlock = some q → w2.heap.size ≤ q := fun q hq => (HO6.out.lt q hq).1
    have hn : (Value.slice oe EN.length ce).ownBlock = none ∨ (Value.slice oe EN.length ce).ownBlock ≠ some (w.heap.size + 1) := .inr (fun e => by have := ho _ e; omega)
    exact own_innt (((((HO6.out.kept (set_grownW _ _ _ _) hn).kept (set_grownW _ _ _ _) hn).kept (set_grownW _ _ _ _) hn).kept (set_grownW _ _ _ _) hn).kept (set_grownW _ _ _ _) hn))
   clear HB6 HZ6 HO6 HS6
   go_wp2_with fail
   have hw4 : w2.heap.size < w4.heap.size := by have := hz4; omega
   have hS0 : (w6.drew.cell? ⟨w4.heap.size,0,none⟩ = some (.int .i64 U.kd) ∧ w6.drew.cell? ⟨w4.heap.size,1,none⟩ = some (.int .i64 U.nm) ∧ w6.drew.cell? ⟨w4.heap.size,2,none⟩ = some (.string U.st) ∧ w6.drew.cell? ⟨w4.heap.size,3,none⟩ = some (.slice o3 n3 c3) ∧ w6.drew.cell? ⟨w4.heap.size,4,none⟩ = some (.slice o4 n4 c4) ∧ w6.drew.cell? ⟨w2.heap.size,2,none⟩ = some (.slice oe EN.length ce)) := ⟨b0,b1,b2,b3,b4,c2⟩
   have hpS : ((put5 w6 (w.heap.size + 1) 0 (.int .i64 U.kd) (.int .i64 U.nm) (.string U.st) (.slice o3 n3 c3) (.slice o4 n4 c4)).drew.cell? ⟨w4.heap.size,0,none⟩ = some (.int .i64 U.kd) ∧ (put5 w6 (w.heap.size + 1) 0 (.int .i64 U.kd) (.int .i64 U.nm) (.string U.st) (.slice o3 n3 c3) (.slice o4 n4 c4)).drew.cell? ⟨w4.heap.size,1,none⟩ = some (.int .i64 U.nm) ∧ (put5 w6 (w.heap.size + 1) 0 (.int .i64 U.kd) (.int .i64 U.nm) (.string U.st) (.slice o3 n3 c3) (.slice o4 n4 c4)).drew.cell? ⟨w4.heap.size,2,none⟩ = some (.string U.st) ∧ (put5 w6 (w.heap.size + 1) 0 (.int .i64 U.kd) (.int .i64 U.nm) (.string U.st) (.slice o3 n3 c3) (.slice o4 n4 c4)).drew.cell? ⟨w4.heap.size,3,none⟩ = some (.slice o3 n3 c3) ∧ (put5 w6 (w.heap.size + 1) 0 (.int .i64 U.kd) (.int .i64 U.nm) (.string U.st) (.slice o3 n3 c3) (.slice o4 n4 c4)).drew.cell? ⟨w4.heap.size,4,none⟩ = some (.slice o4 n4 c4) ∧ (put5 w6 (w.heap.size + 1) 0 (.int .i64 U.kd) (.int .i64 U.nm) (.string U.st) (.slice o3 n3 c3) (.slice o4 n4 c4)).drew.cell? ⟨w2.heap.size,2,none⟩ = some (.slice oe EN.length ce)) := by
    have k1 : ∀ (k : Nat),k ≠ w.heap.size + 1 → (put5 w6 (w.heap.size + 1) 0 (.int .i64 U.kd) (.int .i64 U.nm) (.string U.st) (.slice o3 n3 c3) (.slice o4 n4 c4)).heap[k]? = w6.heap[k]? := fun k hk => put5_heap _ _ _ _ _ _ _ _ _ hk
    generalize (put5 w6 (w.heap.size + 1) 0 (.int .i64 U.kd) (.int .i64 U.nm) (.string U.st) (.slice o3 n3 c3) (.slice o4 n4 c4)) = wP at k1 ⊢
    have kk := k1 w4.heap.size (by omega)
    have kf := k1 w2.heap.size (by omega)
    obtain ⟨y0,y1,y2,y3,y4,y5⟩ := hS0
    clear hpl k1
    show _ ∧ _
    exact ⟨(World.cell?_of_block kk).trans y0,(World.cell?_of_block kk).trans y1,(World.cell?_of_block kk).trans y2,(World.cell?_of_block kk).trans y3,(World.cell?_of_block kk).trans y4,(World.cell?_of_block kf).trans y5⟩
   have HPS := hid hpS
   clear hpS
   refine wp_region_h (S := fun X => (X.cell? ⟨w4.heap.size,0,none⟩ = some (.int .i64 U.kd) ∧ X.cell? ⟨w4.heap.size,1,none⟩ = some (.int .i64 U.nm) ∧ X.cell? ⟨w4.heap.size,2,none⟩ = some (.string U.st) ∧ X.cell? ⟨w4.heap.size,3,none⟩ = some (.slice o3 n3 c3) ∧ X.cell? ⟨w4.heap.size,4,none⟩ = some (.slice o4 n4 c4) ∧ X.cell? ⟨w2.heap.size,2,none⟩ = some (.slice oe EN.length ce))) 6 (by kernel_rfl) (by kernel_rfl) ?_
   refine take_h (i := 0) (v := ?_) rfl (by kernel_rfl) (by kernel_rfl) (by kernel_rfl) (fun _ _ _ h => h) (by rfl) ?_ hS0 ?_
   rotate_left
   ·(intro X hX; obtain ⟨y0,y1,y2,y3,y4,y5⟩ := hX; go_simp; try with_reducible rfl)
   try simp only [Act.put,List.setIfInBounds_toArray,List.set_cons_zero,List.set_cons_succ]
   refine take_h (i := 1) (v := ?_) rfl (by kernel_rfl) (by kernel_rfl) (by kernel_rfl) (fun _ _ _ h => h) (by rfl) ?_ hS0 ?_
   rotate_left
   ·(intro X hX; obtain ⟨y0,y1,y2,y3,y4,y5⟩ := hX; go_simp; try with_reducible rfl)
   try simp only [Act.put,List.setIfInBounds_toArray,List.set_cons_zero,List.set_cons_succ]
   refine take_h (i := 2) (v := ?_) rfl (by kernel_rfl) (by kernel_rfl) (by kernel_rfl) (fun _ _ _ h => h) (by rfl) ?_ hS0 ?_
   rotate_left
   ·(intro X hX; obtain ⟨y0,y1,y2,y3,y4,y5⟩ := hX; go_simp; try with_reducible rfl)
   try simp only [Act.put,List.setIfInBounds_toArray,List.set_cons_zero,List.set_cons_succ]
   refine step_h (i := 3) rfl (by kernel_rfl) ?_
   intro KK hKK
   go_simp
   refine hKK.out _ _ HPS.out (fun hS1 => ?_)
   clear hKK KK hS0
   try simp only [Act.put,List.setIfInBounds_toArray,List.set_cons_zero,List.set_cons_succ]
   refine step_h (i := 4) rfl (by kernel_rfl) ?_
   intro KK hKK
   go_simp
   refine hKK.out _ _ HPS.out (fun hS2 => ?_)
   clear hKK KK hS1
   try simp only [Act.put,List.setIfInBounds_toArray,List.set_cons_zero,List.set_cons_succ]
   refine step_h (i := 5) rfl (by kernel_rfl) ?_
   intro KK hKK
   go_simp
   refine hKK.out _ _ HPS.out (fun hS3 => ?_)
   clear hKK KK hS2
   try simp only [Act.put,List.setIfInBounds_toArray,List.set_cons_zero,List.set_cons_succ]
   refine wpAnyH_done (by kernel_rfl) ?_ _
   clear hS3
   go_simp
   go_wp2_with fail
   refine bodyPost_ret (v := .tuple #[vv U (.slice o3 n3 c3) (.slice o4 n4 c4),.slice oe EN.length ce,.int .i64 0]) (by simp [results,Tryz.results27,go_sem,vv,e0,e1,e2,e3,e4]) rfl ?_
   have hbd := (Below.refl (put5 w6 (w.heap.size + 1) 0 (.int .i64 U.kd) (.int .i64 U.nm) (.string U.st) (.slice o3 n3 c3) (.slice o4 n4 c4)).heap.size (put5 w6 (w.heap.size + 1) 0 (.int .i64 U.kd) (.int .i64 U.nm) (.string U.st) (.slice o3 n3 c3) (.slice o4 n4 c4))).drew
   exact ⟨.slice o3 n3 c3,.slice o4 n4 c4,.slice oe EN.length ce,by rw [HE.out,HFT.out],by rw [HFT.out]; exact HVF.out.onto hbd,by rw [HFN.out]; exact HNF.out.onto hbd,vonto HBF.out hbd⟩
end Go.Proofs.YteimbjamnfkapaaGreatDoor
