import Derived.Test.YteimbjamnfkapaaGreatDoorLLoC
/- loss: what becomes of a value without parts. -/
namespace Go.Proofs.YteimbjamnfkapaaGreatDoor
open Go.RowKit
set_option maxRecDepth 100000 in
set_option maxHeartbeats 4000000 in
theorem lleaf_any {W : World} {b : Nat} {f : Int} {nv ev : Value} {now : List PStep} {E : List LN} {w : World} (T : VT) (x y : Value) (h : Fk W b f nv ev now E w) (hg : GlobL W) (hT : HV W T x y) (hn : now.length ≤ 100000) (hk : ∀ s ∈ now,Small s) (hE : E.length ≤ 1000000) (hs : T.st.size ≤ 1000000) (hz : szT T ≤ 1000000) :
  Calls Tryz.prog 168 #[.pointer (some ⟨b,0,none⟩),vv T x y] w (FitP W b f nv ev w now (E ++ leafN f T now) (leafF f T)) := by
 have HWL := hid h.bel.size
 have hTw := hT.onto h.bel
 obtain ⟨o1,n1,c1,o2,n2,c2,rfl,rfl⟩ := hv_slices hT
 have hb0 : Below w.heap.size w ((w.alloc (.cells #[.int .i64 T.kd,.int .i64 T.nm,.string T.st,.slice o1 n1 c1,.slice o2 n2 c2] 29)).alloc (.cells #[.int .i64 0,.int .i64 0,.string ⟨#[]⟩,.slice none 0 0,.slice none 0 0] 29)) := valloc_bel (valloc_bel (Below.refl _ _) _) _
 have CS := hid (lsays_any (h.onto hb0) hg T _ _ (hTw.onto hb0))
 have CC := hid (fun (X : World) (hX : HV X T (.slice o1 n1 c1) (.slice o2 n2 c2)) => vcopy_any (szT T) T (Nat.le_refl _) hz _ _ X hX)
 have HG := hid hg
 have HK := hid hk
 have HF0 := hid (h.onto hb0)
 have HM0 := hid (Mv.of (b := b) (nv := nv) (ev := ev) hb0)
 have HZ0 := hid (show Z5 ((w.alloc (.cells #[.int .i64 T.kd,.int .i64 T.nm,.string T.st,.slice o1 n1 c1,.slice o2 n2 c2] 29)).alloc (.cells #[.int .i64 0,.int .i64 0,.string ⟨#[]⟩,.slice none 0 0,.slice none 0 0] 29)) (w.heap.size + 1) by have := z5_new (w.alloc (.cells #[.int .i64 T.kd,.int .i64 T.nm,.string T.st,.slice o1 n1 c1,.slice o2 n2 c2] 29)); simpa using this)
 have HR0 := hid (show Sx b nv ev ((w.alloc (.cells #[.int .i64 T.kd,.int .i64 T.nm,.string T.st,.slice o1 n1 c1,.slice o2 n2 c2] 29)).alloc (.cells #[.int .i64 0,.int .i64 0,.string ⟨#[]⟩,.slice none 0 0,.slice none 0 0] 29)) (w.heap.size + 1) from h.fresh (Nat.le_succ _) (by simp))
 have HS0 := hid (show Sx b nv ev ((w.alloc (.cells #[.int .i64 T.kd,.int .i64 T.nm,.string T.st,.slice o1 n1 c1,.slice o2 n2 c2] 29)).alloc (.cells #[.int .i64 0,.int .i64 0,.string ⟨#[]⟩,.slice none 0 0,.slice none 0 0] 29)) w.heap.size from h.fresh (Nat.le_refl _) (by simp; omega))
 have HT0 := hid (hTw.onto hb0)
 obtain ⟨f0,f1,f2,f3,f4⟩ := tpbox w (.int .i64 T.kd) (.int .i64 T.nm) (.string T.st) (.slice o1 n1 c1) (.slice o2 n2 c2)
 have hb1 : Below (w.alloc (.cells #[.int .i64 T.kd,.int .i64 T.nm,.string T.st,.slice o1 n1 c1,.slice o2 n2 c2] 29)).heap.size (w.alloc (.cells #[.int .i64 T.kd,.int .i64 T.nm,.string T.st,.slice o1 n1 c1,.slice o2 n2 c2] 29)) ((w.alloc (.cells #[.int .i64 T.kd,.int .i64 T.nm,.string T.st,.slice o1 n1 c1,.slice o2 n2 c2] 29)).alloc (.cells #[.int .i64 0,.int .i64 0,.string ⟨#[]⟩,.slice none 0 0,.slice none 0 0] 29)) := valloc_bel (Below.refl _ _) _
 have g0 := keepCell hb1 f0
 have g1 := keepCell hb1 f1
 have g2 := keepCell hb1 f2
 have g3 := keepCell hb1 f3
 have g4 := keepCell hb1 f4
 clear f0 f1 f2 f3 f4 hb1 hb0 h hg hk hT hTw
 have CU := hid (fun (w2 : World) (F : Fk W b f nv ev now E w2) => lnumber_any (W := W) T.st F HG.out.f.2 hn HK.out hE hs)
 unfold leafN leafF leafW
 obtain ⟨R,hR⟩ : ∃ R,sayF f T = R := ⟨_,rfl⟩
 rw [hR] at CS ⊢
 clear hR
 simp only [vv] at CS CC ⊢
 generalize hw0 : ((w.alloc (.cells #[.int .i64 T.kd,.int .i64 T.nm,.string T.st,.slice o1 n1 c1,.slice o2 n2 c2] 29)).alloc (.cells #[.int .i64 0,.int .i64 0,.string ⟨#[]⟩,.slice none 0 0,.slice none 0 0] 29)) = w0 at *
 cases R with
 | true =>
  rw [if_pos rfl,if_pos rfl,List.append_nil]
  clear CU
  go_enter Tryz.func168,Tryz.ntmps168
  go_upto_region 1 with fail
  refine cewp_gen ?_
  intro W0 hW
  obtain rfl : W0 = w0 := hW
  clear hw0
  go_wp2_with fail
  go_at_call 223
  refine CS.out.mono ?_
  rintro e w1 ⟨rfl,hb1⟩
  have g0 := keepCell hb1 g0
  have g1 := keepCell hb1 g1
  have g2 := keepCell hb1 g2
  have g3 := keepCell hb1 g3
  have g4 := keepCell hb1 g4
  have HF1 := hid (HF0.out.onto hb1)
  have HM1 := hid (HM0.out.trans (Mv.of hb1))
  have HZ1 := hid (HZ0.out.onto hb1)
  have HR1 := hid ((Mv.of hb1).sx HR0.out)
  have HS1 := hid ((Mv.of hb1).sx HS0.out)
  have HT1 := hid (HT0.out.onto hb1)
  clear hb1 CS HF0 HM0 HZ0 HR0 HS0 HT0
  go_wp2_with fail
  go_at_call 63
  refine (CC.out _ HT1.out).mono ?_
  rintro e w2 ⟨X,Y,rfl,hc,hb2⟩
  obtain ⟨o3,n3,c3,o4,n4,c4,rfl,rfl⟩ := hv_slices hc.hv
  obtain ⟨⟨e0,e1,e2,e3,e4⟩,z0⟩ := HZ1.out.onto hb2
  have HFS := hid (fits_of (W := W) (f := f) (w := w) (HF1.out.onto hb2) (HM1.out.trans (Mv.of hb2)) (hc.hs.onto (S' := fun k => Sx b nv ev w2 k ∧ w.heap.size ≤ k ∧ k ≠ w.heap.size + 1) (fun _ _ => rfl) (fun k hk => ⟨HF1.out.fresh hk.1 hk.2,by have := HM1.out.sz; omega,by have := HR1.out.1; omega⟩)) ((Mv.of hb2).sx HR1.out) (Nat.le_succ _) HWL.out)
  clear hb2 hc CC
  go_wp2_with fail
  refine bodyPost_ret (v := vv T (.slice o3 n3 c3) (.slice o4 n4 c4)) (by simp [results,Tryz.results168,go_sem,vv,e0,e1,e2,e3,e4]) rfl ?_
  exact ⟨_,_,_,_,rfl,HFS.out.put _ _ _ _ _⟩
 | false =>
  rw [if_neg (show ¬ (false = true) by decide),if_neg (show ¬ (false = true) by decide)]
  by_cases k0 : T.kd = 0
  ·rw [if_pos k0,if_pos k0]
   rw [k0] at hw0 g0 CS ⊢
   go_enter Tryz.func168,Tryz.ntmps168
   go_upto_region 1 with fail
   refine cewp_gen ?_
   intro W0 hW
   obtain rfl : W0 = w0 := hW
   clear hw0
   go_wp2_with fail
   go_at_call 223
   refine CS.out.mono ?_
   rintro e w1 ⟨rfl,hb1⟩
   have g0 := keepCell hb1 g0
   have g1 := keepCell hb1 g1
   have g2 := keepCell hb1 g2
   have g3 := keepCell hb1 g3
   have g4 := keepCell hb1 g4
   have HF1 := hid (HF0.out.onto hb1)
   have HM1 := hid (HM0.out.trans (Mv.of hb1))
   have HZ1 := hid (HZ0.out.onto hb1)
   have HR1 := hid ((Mv.of hb1).sx HR0.out)
   have HS1 := hid ((Mv.of hb1).sx HS0.out)
   have HT1 := hid (HT0.out.onto hb1)
   clear hb1 CS HF0 HM0 HZ0 HR0 HS0 HT0
   have CN := hid (fun (X : World) (hX : Below w1.heap.size w1 X) => fnote_any (W := W) (b := b) (f := f) (w := X) 4 (HF1.out.onto hX) HG.out.f.2 hn HK.out hE)
   have CT := hid (fun (X : World) => ltext_at nulB X)
   clear CC CU
   go_wp2_with fail
   go_at_call 163
   refine (CN.out _ (Below.refl _ _)).mono ?_
   rintro e w2 ⟨rfl,ev2,hf2,hm2⟩
   have HZ2 := hid (hm2.z5 HZ1.out HR1.out)
   have HR2 := hid (hm2.sx HR1.out)
   have HF2 := hid hf2
   have HM2 := hid (HM1.out.trans hm2)
   have g2 := hm2.cell HS1.out g2
   clear hf2 hm2 CN
   go_wp2_with fail
   go_at_call 224
   refine (CT.out w2).mono ?_
   rintro e w3 ⟨rfl,hb3⟩
   obtain ⟨⟨e0,e1,e2,e3,e4⟩,z0⟩ := HZ2.out.onto hb3
   have HFS := hid (fits_of (W := W) (f := f) (w := w) (T := leafT 4 0 nulB) (x := .slice none 0 0) (y := .slice none 0 0) (HF2.out.onto hb3) (HM2.out.trans (Mv.of hb3)) (hs_leaf _ _ 4 0 nulB (by decide) (by decide) (by decide)) ((Mv.of hb3).sx HR2.out) (Nat.le_succ _) HWL.out)
   clear hb3 CT HZ2 HF2 HM2 HR2
   go_wp2_with fail
   refine bodyPost_ret (v := .agg #[.int .i64 4,.int .i64 0,.string nulB,.slice none 0 0,.slice none 0 0]) (by simp [results,Tryz.results168,go_sem,e0,e1,e2,e3,e4]) rfl ?_
   exact ⟨_,_,_,_,rfl,HFS.out.put _ _ _ _ _⟩
  rw [if_neg k0,if_neg k0]
  obtain ⟨k0a,k0b⟩ := ikey T.kd 0 k0
  by_cases k3 : T.kd = 3
  ·rw [if_pos k3,if_pos k3]
   rw [k3] at hw0 g0 CS ⊢
   obtain ⟨U,hU⟩ : ∃ U : VT,(if 400 < T.st.size + 2 then leafT 4 0 T.st else leafT 3 0 (T.st ++ ⟨#[46,48]⟩)) = U := ⟨_,rfl⟩
   obtain ⟨kk,hkk⟩ : ∃ k : Int,(if 400 < T.st.size + 2 then (6 : Int) else 5) = k := ⟨_,rfl⟩
   simp only [hU,hkk] at CU ⊢
   clear CC hU hkk
   go_enter Tryz.func168,Tryz.ntmps168
   go_upto_region 1 with fail
   refine cewp_gen ?_
   intro W0 hW
   obtain rfl : W0 = w0 := hW
   clear hw0
   go_wp2_with fail
   go_at_call 223
   refine CS.out.mono ?_
   rintro e w1 ⟨rfl,hb1⟩
   have g0 := keepCell hb1 g0
   have g1 := keepCell hb1 g1
   have g2 := keepCell hb1 g2
   have g3 := keepCell hb1 g3
   have g4 := keepCell hb1 g4
   have HF1 := hid (HF0.out.onto hb1)
   have HM1 := hid (HM0.out.trans (Mv.of hb1))
   have HZ1 := hid (HZ0.out.onto hb1)
   have HR1 := hid ((Mv.of hb1).sx HR0.out)
   have HS1 := hid ((Mv.of hb1).sx HS0.out)
   have HT1 := hid (HT0.out.onto hb1)
   clear hb1 CS HF0 HM0 HZ0 HR0 HS0 HT0
   have CU2 := hid (CU.out w1 HF1.out)
   unfold FitP at CU2
   simp only [vv] at CU2
   clear CU
   go_wp2_with fail
   go_at_call 225
   refine CU2.out.mono ?_
   rintro e w2 ⟨x2,y2,nv2,ev2,rfl,hs2,hf2,hm2⟩
   obtain ⟨o3,n3,c3,o4,n4,c4,rfl,rfl⟩ := hv_slices hs2.hv
   obtain ⟨⟨e0,e1,e2,e3,e4⟩,z0⟩ := hm2.z5 HZ1.out HR1.out
   have HFS := hid (fits_of (W := W) (f := f) (w := w) hf2 (HM1.out.trans hm2) (hs2.onto (S' := fun k => Sx b nv2 ev2 w2 k ∧ w.heap.size ≤ k ∧ k ≠ w.heap.size + 1) (fun _ _ => rfl) (fun k hk => ⟨hk.1,by have := HM1.out.sz; omega,by have := HR1.out.1; omega⟩)) (hm2.sx HR1.out) (Nat.le_succ _) HWL.out)
   clear hs2 hf2 hm2 CU2
   go_wp2_with fail
   refine bodyPost_ret (v := vv U (.slice o3 n3 c3) (.slice o4 n4 c4)) (by simp [results,Tryz.results168,go_sem,vv,e0,e1,e2,e3,e4]) rfl ?_
   exact ⟨_,_,_,_,rfl,HFS.out.put _ _ _ _ _⟩
  rw [if_neg k3,if_neg k3]
  obtain ⟨k3a,k3b⟩ := ikey T.kd 3 k3
  go_enter Tryz.func168,Tryz.ntmps168
  go_upto_region 1 with fail
  refine cewp_gen ?_
  intro W0 hW
  obtain rfl : W0 = w0 := hW
  clear hw0
  go_wp2_with fail
  go_at_call 223
  refine CS.out.mono ?_
  rintro e w1 ⟨rfl,hb1⟩
  have g0 := keepCell hb1 g0
  have g1 := keepCell hb1 g1
  have g2 := keepCell hb1 g2
  have g3 := keepCell hb1 g3
  have g4 := keepCell hb1 g4
  have HF1 := hid (HF0.out.onto hb1)
  have HM1 := hid (HM0.out.trans (Mv.of hb1))
  have HZ1 := hid (HZ0.out.onto hb1)
  have HR1 := hid ((Mv.of hb1).sx HR0.out)
  have HS1 := hid ((Mv.of hb1).sx HS0.out)
  have HT1 := hid (HT0.out.onto hb1)
  clear hb1 CS HF0 HM0 HZ0 HR0 HS0 HT0
  have CN := hid (fun (X : World) (hX : Below w1.heap.size w1 X) => fnote_any (W := W) (b := b) (f := f) (w := X) 1 (HF1.out.onto hX) HG.out.f.2 hn HK.out hE)
  have CT := hid (fun (X : World) => ltext_at T.st X)
  clear CC CU
  go_wp2_with fail
  go_at_call 163
  refine (CN.out _ (Below.refl _ _)).mono ?_
  rintro e w2 ⟨rfl,ev2,hf2,hm2⟩
  have HZ2 := hid (hm2.z5 HZ1.out HR1.out)
  have HR2 := hid (hm2.sx HR1.out)
  have HF2 := hid hf2
  have HM2 := hid (HM1.out.trans hm2)
  have g2 := hm2.cell HS1.out g2
  clear hf2 hm2 CN
  go_wp2_with fail
  go_at_call 224
  refine (CT.out w2).mono ?_
  rintro e w3 ⟨rfl,hb3⟩
  obtain ⟨⟨e0,e1,e2,e3,e4⟩,z0⟩ := HZ2.out.onto hb3
  have HFS := hid (fits_of (W := W) (f := f) (w := w) (T := leafT 4 0 T.st) (x := .slice none 0 0) (y := .slice none 0 0) (HF2.out.onto hb3) (HM2.out.trans (Mv.of hb3)) (hs_leaf _ _ 4 0 T.st (by decide) (by decide) (by unfold maxLen; omega)) ((Mv.of hb3).sx HR2.out) (Nat.le_succ _) HWL.out)
  clear hb3 CT HZ2 HF2 HM2 HR2
  go_wp2_with fail
  refine bodyPost_ret (v := .agg #[.int .i64 4,.int .i64 0,.string T.st,.slice none 0 0,.slice none 0 0]) (by simp [results,Tryz.results168,go_sem,e0,e1,e2,e3,e4]) rfl ?_
  exact ⟨_,_,_,_,rfl,HFS.out.put _ _ _ _ _⟩
end Go.Proofs.YteimbjamnfkapaaGreatDoor
/- loss: what becomes of a list, whatever becomes of its elements. -/
namespace Go.Proofs.YteimbjamnfkapaaGreatDoor
open Go.RowKit
def ntL (EN : VT → List PStep → List LN) : List VT → Nat → List PStep → List LN
 | [],_,_ => []
 | t :: r,i,p => EN t (p ++ [lpl i]) ++ ntL EN r (i + 1) p
theorem ntL_snoc (EN : VT → List PStep → List LN) (t : VT) (p : List PStep) : ∀ (A : List VT) (i : Nat),ntL EN (A ++ [t]) i p = ntL EN A i p ++ EN t (p ++ [lpl (i + A.length)])
 | [],i => by simp [ntL]
 | a :: A,i => by
  show EN a _ ++ ntL EN (A ++ [t]) (i + 1) p = _
  rw [ntL_snoc EN t p A (i + 1)]
  show _ = (EN a _ ++ ntL EN A (i + 1) p) ++ _
  rw [List.append_assoc,List.length_cons,show i + 1 + A.length = i + (A.length + 1) by omega]
def ElOk (W : World) (b : Nat) (f : Int) (G : Nat) (EF : VT → VT) (EN : VT → List PStep → List LN) (t : VT) : Prop := ∀ (x y nv ev : Value) (now : List PStep) (E : List LN) (w : World),HV W t x y → Fk W b f nv ev now E w → (∀ s ∈ now,Small s) → now.length + szT t ≤ 10000 → E.length + szT t ≤ 1000000 →
 Calls Tryz.prog G #[.pointer (some ⟨b,0,none⟩),vv t x y] w (FitP W b f nv ev w now (E ++ EN t now) (EF t))
structure Ob (b : Nat) (nv ev : Value) (lo ob : Nat) (bc : Value → Array Value) (ty : TypeId) (sz n : Nat) (xs : List Value) (lv : Value) (A : List (VT × Value × Value)) (w : World) : Prop where
 box : w.heap[ob]? = some (.cells (bc lv) 29 (0,0))
 row : w.ownsRow lo ty sz lv n xs
 els : ∀ a ∈ A,HS w (fun q => Sx b nv ev w q ∧ q ≠ ob ∧ lv.ownBlock ≠ some q ∧ lo ≤ q) a.1 a.2.1 a.2.2
 sx : Sx b nv ev w ob
 low : lo ≤ ob
 rx : ∀ q,lv.ownBlock = some q → Sx b nv ev w q ∧ q ≠ ob
theorem Ob.mv {b : Nat} {nv ev nv' ev' : Value} {lo ob : Nat} {bc : Value → Array Value} {ty : TypeId} {sz n : Nat} {xs : List Value} {lv : Value} {A : List (VT × Value × Value)} {w w' : World} (h : Ob b nv ev lo ob bc ty sz n xs lv A w) (m : Mv b nv ev w nv' ev' w') : Ob b nv' ev' lo ob bc ty sz n xs lv A w' :=
 ⟨(m.at_ h.sx).trans h.box,m.row h.row (fun q hq => (h.rx q hq).1),fun a ha => (h.els a ha).onto (fun _ hk => m.at_ hk.1) (fun _ hk => ⟨m.sx hk.1,hk.2⟩),m.sx h.sx,h.low,fun q hq => ⟨m.sx (h.rx q hq).1,(h.rx q hq).2⟩⟩
structure Mk (W w0 : World) (b : Nat) (f : Int) (nv0 ev0 nv ev : Value) (now : List PStep) (E : List LN) (ob : Nat) (bc : Value → Array Value) (ty : TypeId) (sz n : Nat) (xs : List Value) (lv : Value) (A : List (VT × Value × Value)) (w : World) : Prop where
 fk : Fk W b f nv ev now E w
 mv : Mv b nv0 ev0 w0 nv ev w
 ob : Ob b nv ev w0.heap.size ob bc ty sz n xs lv A w
 wlo : W.heap.size ≤ w0.heap.size
theorem Mk.to {W w0 : World} {b : Nat} {f : Int} {nv0 ev0 nv ev nv' ev' : Value} {now now' : List PStep} {E E' : List LN} {ob : Nat} {bc : Value → Array Value} {ty : TypeId} {sz n : Nat} {xs : List Value} {lv : Value} {A : List (VT × Value × Value)} {w w' : World} (h : Mk W w0 b f nv0 ev0 nv ev now E ob bc ty sz n xs lv A w) (F : Fk W b f nv' ev' now' E' w') (m : Mv b nv ev w nv' ev' w') : Mk W w0 b f nv0 ev0 nv' ev' now' E' ob bc ty sz n xs lv A w' :=
 ⟨F,h.mv.trans m,h.ob.mv m,h.wlo⟩
theorem Mk.onto {W w0 : World} {b : Nat} {f : Int} {nv0 ev0 nv ev : Value} {now : List PStep} {E : List LN} {ob : Nat} {bc : Value → Array Value} {ty : TypeId} {sz n : Nat} {xs : List Value} {lv : Value} {A : List (VT × Value × Value)} {w w' : World} (h : Mk W w0 b f nv0 ev0 nv ev now E ob bc ty sz n xs lv A w) (hb : Below w.heap.size w w') : Mk W w0 b f nv0 ev0 nv ev now E ob bc ty sz n xs lv A w' :=
 h.to (h.fk.onto hb) (Mv.of hb)
theorem Mk.more {W w0 : World} {b : Nat} {f : Int} {nv0 ev0 nv ev : Value} {now : List PStep} {E : List LN} {ob o : Nat} {bc : Value → Array Value} {ty : TypeId} {sz n : Nat} {xs : List Value} {lv lv' : Value} {A : List (VT × Value × Value)} {w Y : World} (h : Mk W w0 b f nv0 ev0 nv ev now E ob bc ty sz n xs lv A w) (a : VT × Value × Value)
  (ha : HS w (fun q => Sx b nv ev w q ∧ q ≠ ob ∧ lv.ownBlock ≠ some q ∧ w0.heap.size ≤ q) a.1 a.2.1 a.2.2) {n' : Nat} {xs' : List Value}
  (h1 : Y.ownsRow w0.heap.size ty sz lv' n' xs') (h2 : w.grownBy Y lv.ownBlock) (h3 : ∀ q,lv'.ownBlock = some q → lv.ownBlock = some q ∨ q = w.heap.size) (hbc : (bc lv).setIfInBounds o lv' = bc lv') :
  Mk W w0 b f nv0 ev0 nv ev now E ob bc ty sz n' xs' lv' (A ++ [a]) (Y.setCell ⟨ob,o,none⟩ lv') := by
 have hbl := h.fk.lt
 have hob := h.ob.sx.1
 have k0 := set_grownW Y ob o lv'
 have hY := h2.size
 have keep : ∀ k,k < w.heap.size → lv.ownBlock ≠ some k → k ≠ ob → (Y.setCell ⟨ob,o,none⟩ lv').heap[k]? = w.heap[k]? := fun k hk e1 e2 =>
  (k0.block k (Nat.lt_of_lt_of_le hk hY) (fun e => e2 (by injection e))).trans (h2.block k hk e1.symm)
 have sx : ∀ {q},Sx b nv ev w q → Sx b nv ev (Y.setCell ⟨ob,o,none⟩ lv') q := fun {q} s => ⟨by rw [World.size_setCell]; exact Nat.lt_of_lt_of_le s.1 hY,s.2⟩
 have hne : lv.ownBlock ≠ some ob := fun e => (h.ob.rx ob e).2 rfl
 have hob' : lv'.ownBlock = none ∨ lv'.ownBlock ≠ some ob := .inr fun e => by
  rcases h3 ob e with h4 | h4
  ·exact hne h4
  ·omega
 have nb : ∀ {v : Value} {B s m : Nat} {e : TypeId} {ys : List Value},w.ownsRow B e s v m ys → (∀ q,v.ownBlock = some q → lv.ownBlock ≠ some q ∧ q ≠ ob) → (Y.setCell ⟨ob,o,none⟩ lv').ownsRow B e s v m ys := fun {v B s m e ys} r hr => by
  rcases r with ⟨r1,⟨rfl,r2⟩ | ⟨g,cap,cur,rfl,r3,r4,r5⟩⟩
  ·exact ⟨r1,.inl ⟨rfl,r2⟩⟩
  ·exact ⟨r1,.inr ⟨g,cap,cur,rfl,r3,(keep g (Array.getElem?_eq_some_iff.1 r4).1 (hr g rfl).1 (hr g rfl).2).trans r4,r5⟩⟩
 have hWlv : ∀ q,lv.ownBlock = some q → W.heap.size ≤ q := fun q hq => by
  rcases Nat.lt_or_ge q W.heap.size with h5 | h5
  ·exfalso
   have h6 := (h.ob.row.lt q hq).1
   have h7 := h.wlo
   omega
  ·exact h5
 refine ⟨⟨?_,h.fk.lo,(keep b hbl (fun e => (h.ob.rx b e).1.2.1 rfl) (fun e => h.ob.sx.2.1 e.symm)).trans h.fk.box,nb h.fk.ns (fun q hq => ⟨fun e => (h.ob.rx q e).1.2.2.1 hq,fun e => by subst e; exact h.ob.sx.2.2.1 hq⟩),nb h.fk.es (fun q hq => ⟨fun e => (h.ob.rx q e).1.2.2.2 hq,fun e => by subst e; exact h.ob.sx.2.2.2 hq⟩)⟩,⟨?_,fun k hk e1 e2 e3 => ?_,h.mv.nn,h.mv.ne⟩,⟨?_,h1.kept k0 hob',fun c hc => ?_,sx h.ob.sx,h.ob.low,fun q hq => ?_⟩,h.wlo⟩
 ·exact vset_belF (h.fk.bel.grown h2 (by have := h.fk.bel.size; omega) hWlv) (by have := h.ob.low; have := h.wlo; omega)
 ·rw [World.size_setCell]; exact Nat.le_trans h.mv.sz hY
 ·refine (keep k (Nat.lt_of_lt_of_le hk h.mv.sz) (fun e => ?_) (fun e => ?_)).trans (h.mv.keep k hk e1 e2 e3)
  ·have := (h.ob.row.lt k e).1; omega
  ·have := h.ob.low; omega
 ·rw [← hbc]
  exact lbox_set ((h2.block ob hob hne.symm).trans h.ob.box) o lv'
 ·have step : ∀ {T : VT} {x y : Value},HS w (fun q => Sx b nv ev w q ∧ q ≠ ob ∧ lv.ownBlock ≠ some q ∧ w0.heap.size ≤ q) T x y → HS (Y.setCell ⟨ob,o,none⟩ lv') (fun q => Sx b nv ev (Y.setCell ⟨ob,o,none⟩ lv') q ∧ q ≠ ob ∧ lv'.ownBlock ≠ some q ∧ w0.heap.size ≤ q) T x y := fun s =>
   s.onto (fun k hk => keep k hk.1.1 hk.2.2.1 hk.2.1) (fun k hk => ⟨sx hk.1,hk.2.1,fun e => by
    rcases h3 k e with h4 | h4
    ·exact hk.2.2.1 h4
    ·have := hk.1.1; omega,hk.2.2.2⟩)
  rcases List.mem_append.1 hc with hc | hc
  ·exact step (h.ob.els c hc)
  ·rw [List.mem_singleton.1 hc]; exact step ha
 ·rcases h3 q hq with h4 | h4
  ·exact ⟨sx (h.ob.rx q h4).1,(h.ob.rx q h4).2⟩
  ·refine ⟨⟨by rw [World.size_setCell]; exact (h1.lt q hq).2,by omega,fun e => ?_,fun e => ?_⟩,by omega⟩
   ·have := (h.fk.ns.lt q e).2; omega
   ·have := (h.fk.es.lt q e).2; omega
end Go.Proofs.YteimbjamnfkapaaGreatDoor
/- loss: what becomes of a list, whatever becomes of its elements. -/
namespace Go.Proofs.YteimbjamnfkapaaGreatDoor
open Go.RowKit
def bcL (lv : Value) : Array Value := #[.int .i64 5,.int .i64 0,.string ⟨#[]⟩,lv,.slice none 0 0]
theorem small_lpl {j : Nat} (h : j ≤ 1000000) : Small (lpl j) := by
 refine ⟨Nat.zero_le _,?_,?_⟩
 ·show -9223372036854775808 ≤ (j : Int)
  omega
 ·show (j : Int) ≤ 9223372036854775807
  omega
theorem ntL_len (EN : VT → List PStep → List LN) (hEN : ∀ t p,(EN t p).length ≤ szT t) : ∀ (L : List VT) (i : Nat) (p : List PStep),(ntL EN L i p).length ≤ szL L
 | [],_,_ => Nat.zero_le _
 | t :: r,i,p => by
  have h1 := hEN t (p ++ [lpl i])
  have h2 := ntL_len EN hEN r (i + 1) p
  simp only [ntL,szL,List.length_append]; omega
set_option maxRecDepth 100000 in
set_option maxHeartbeats 4000000 in
theorem llist_any {W : World} {b : Nat} {f : Int} {nv ev : Value} {now : List PStep} {E : List LN} {w : World} (G : Nat) (eg : ∀ args w,(callFunc G args).run Tryz.prog w = .ok (.enter G args) w) (EF : VT → VT) (EN : VT → List PStep → List LN) (hEN : ∀ t p,(EN t p).length ≤ szT t) (T : VT) (x y : Value) (hT : HV W T x y) (hEl : ∀ t ∈ T.ls,ElOk W b f G EF EN t) (h : Fk W b f nv ev now E w) (hk : ∀ s ∈ now,Small s) (hn : now.length + szT T ≤ 10000) (hE : E.length + szT T ≤ 1000000) (hz : szT T ≤ 1000000) :
  Calls Tryz.prog 165 #[.pointer (some ⟨b,0,none⟩),vv T x y,.func (.func G) #[.pointer (some ⟨b,0,none⟩)] #[]] w (FitP W b f nv ev w now (E ++ ntL EN T.ls 0 now) (.mk 5 0 ⟨#[]⟩ (T.ls.map EF) [] [])) := by
 have HWL := hid h.bel.size
 obtain ⟨al,bl,fl,gl,p,q,oL,oM,cL,cM,rfl,rfl,-,-,hL3,-,-,-,hlL,-,kL,-,-,rL,-,-,-⟩ := hT.parts
 have HkL := hid kL; have HrL := hid rL
 have hlen := len_sz T
 have HEL := hid hEl; have HK := hid hk; have HEN := hid hEN
 obtain ⟨i1,hi',hz0',hz1',hz2'⟩ := info_parts Tryz.infoVal
 obtain ⟨wA,hA⟩ : ∃ X,X = ((w.alloc (.cells #[.int .i64 T.kd,.int .i64 T.nm,.string T.st,.slice oL T.ls.length cL,.slice oM T.vs.length cM] 29)).alloc (.cells #[.int .i64 0,.int .i64 0,.string ⟨#[]⟩,.slice none 0 0,.slice none 0 0] 29)) := ⟨_,rfl⟩
 have hAs : wA.heap.size = w.heap.size + 2 := by rw [hA]; simp
 have hAb : Below w.heap.size w wA := by rw [hA]; exact valloc_bel (valloc_bel (Below.refl _ _) _) _
 have hb1 : Below wA.heap.size wA (wA.alloc (.cells #[.int .i64 5,.int .i64 0,.string ⟨#[]⟩,.slice none 0 0,.slice none 0 0] 29)) := valloc_bel (Below.refl _ _) _
 have hb0 : Below w.heap.size w (wA.alloc (.cells #[.int .i64 5,.int .i64 0,.string ⟨#[]⟩,.slice none 0 0,.slice none 0 0] 29)) := vonto hAb hb1
 have hx1 : (wA.alloc (.cells #[.int .i64 5,.int .i64 0,.string ⟨#[]⟩,.slice none 0 0,.slice none 0 0] 29)).heap[w.heap.size + 2]? = some (.cells #[.int .i64 5,.int .i64 0,.string ⟨#[]⟩,.slice none 0 0,.slice none 0 0] 29) := by rw [← hAs]; simp only [World.alloc,Array.getElem?_push_size]
 have p3 : (wA.alloc (.cells #[.int .i64 5,.int .i64 0,.string ⟨#[]⟩,.slice none 0 0,.slice none 0 0] 29)).cell? ⟨w.heap.size,3,none⟩ = some (.slice oL T.ls.length cL) := keepCell hb1 (by
  rw [hA]
  exact keepCell (valloc_bel (Below.refl _ _) _) (tpbox w _ _ _ _ _).2.2.2.1)
 have HZ0 := hid (show Z5 (wA.alloc (.cells #[.int .i64 5,.int .i64 0,.string ⟨#[]⟩,.slice none 0 0,.slice none 0 0] 29)) (w.heap.size + 1) by
  have h1 : Z5 wA (w.heap.size + 1) := by
   have := z5_new (w.alloc (.cells #[.int .i64 T.kd,.int .i64 T.nm,.string T.st,.slice oL T.ls.length cL,.slice oM T.vs.length cM] 29))
   rw [hA]; simpa using this
  exact h1.onto hb1)
 have sxf : ∀ {k : Nat},w.heap.size ≤ k → k < w.heap.size + 3 → Sx b nv ev (wA.alloc (.cells #[.int .i64 5,.int .i64 0,.string ⟨#[]⟩,.slice none 0 0,.slice none 0 0] 29)) k := fun {k} h1 h2 => h.fresh h1 (by rw [World.size_alloc]; omega)
 have HR0 := hid (sxf (k := w.heap.size + 1) (by omega) (by omega))
 have HM0 := hid (show Mk W wA b f nv ev nv ev now (E ++ ntL EN (T.ls.take 0) 0 now) (w.heap.size + 2) bcL 29 5 0 [] (.slice none 0 0) [] (wA.alloc (.cells #[.int .i64 5,.int .i64 0,.string ⟨#[]⟩,.slice none 0 0,.slice none 0 0] 29)) from
  ⟨by simpa [ntL] using h.onto hb0,Mv.of hb1,⟨hx1,World.ownsRow_nil _ _ _ _,(fun a ha => by cases ha),sxf (by omega) (by omega),by omega,(fun q hq => by cases hq)⟩,by have := HWL.out; omega⟩)
 have HMA := hid (Mv.of (b := b) (nv := nv) (ev := ev) hAb)
 have HA := hid hA
 clear kL rL hEl hk hEN hT hb0 hb1 hx1 sxf h hAb hA
 simp only [vv]
 go_enter Tryz.func165,Tryz.ntmps165
 go_upto_region 2 with fail
 refine cewp_gen ?_
 intro W0 hW
 replace hW : W0 = (wA.alloc (.cells #[.int .i64 5,.int .i64 0,.string ⟨#[]⟩,.slice none 0 0,.slice none 0 0] 29)) := by rw [HA.out]; exact hW
 rw [← hW] at HM0 HZ0 HR0 p3
 clear hW HA
 go_wp2_with fail
 go_loopw [14] (fun i wr => ∃ (j : Nat) (nv2 ev2 lv : Value) (A : List (VT × Value × Value)),i = .int .i64 j ∧ j ≤ T.ls.length ∧ Hid (A.map (·.1) = (T.ls.take j).map EF) ∧ Hid (A.length = j) ∧ Hid (Mk W wA b f nv ev nv2 ev2 now (E ++ ntL EN (T.ls.take j) 0 now) (w.heap.size + 2) bcL 29 5 j (A.flatMap vc) lv A wr) ∧ Hid (Z5 wr (w.heap.size + 1)) ∧ Hid (Sx b nv2 ev2 wr (w.heap.size + 1))) (fun i _ => T.ls.length - (intOf i).toNat)
 case atStart => exact ⟨0,nv,ev,_,[],rfl,Nat.zero_le _,hid (by simp),hid rfl,HM0,HZ0,HR0⟩
 case round =>
  obtain ⟨j,nv2,ev2,lv,A,rfl,hj,HAM,HAL,HS,HZ,HR⟩ := hrel
  by_cases hlt : j < T.ls.length
  ·obtain ⟨t,ht⟩ : ∃ t,T.ls[j]? = some t := ⟨T.ls[j],List.getElem?_eq_getElem hlt⟩
   obtain rfl := hL3 (by omega)
   obtain ⟨d0,d1,d2,d3,d4⟩ := (HkL.out j t ht).onto HS.out.fk.bel
   have hvt := HrL.out j t ht
   obtain ⟨o1,n1,c1,o2,n2,c2,hf,hg⟩ := hv_slices hvt
   rw [hf,hg] at hvt
   rw [hf] at d3
   rw [hg] at d4
   have hsm := szT_ls T j t ht
   have ha1 := ntL_len EN HEN.out (T.ls.take j) 0 now
   have ha2 := szL_take_succ T.ls j t ht
   have ha3 := szL_take_le T.ls (j + 1)
   have hszl : szL T.ls ≤ szT T := by cases T with | mk k n s L K V => simp only [szT,VT.ls]; omega
   have HSN := hid (show ntL EN (T.ls.take (j + 1)) 0 now = ntL EN (T.ls.take j) 0 now ++ EN t (now ++ [lpl j]) by
    rw [List.take_add_one,ht]
    show ntL EN (T.ls.take j ++ [t]) 0 now = _
    rw [ntL_snoc,List.length_take,Nat.min_eq_left hj,Nat.zero_add])
   have HAN := hid (show (T.ls.take (j + 1)).map EF = (T.ls.take j).map EF ++ [EF t] by rw [List.take_add_one,ht,List.map_append]; rfl)
   obtain ⟨ol,cl,rfl⟩ := own_slice HS.out.ob.row
   have hbE : Below wr.heap.size wr (wr.alloc (.cells #[.int .i64 t.kd,.int .i64 t.nm,.string t.st,.slice o1 n1 c1,.slice o2 n2 c2] 29)) := valloc_bel (Below.refl _ _) _
   obtain ⟨b0,b1,b2,b3,b4⟩ := tpbox wr (.int .i64 t.kd) (.int .i64 t.nm) (.string t.st) (.slice o1 n1 c1) (.slice o2 n2 c2)
   have HS1 := hid (HS.out.onto hbE)
   have HZ1 := hid (HZ.out.onto hbE)
   have HR1 := hid ((Mv.of hbE).sx HR.out)
   have HXE := hid (show Sx b nv2 ev2 (wr.alloc (.cells #[.int .i64 t.kd,.int .i64 t.nm,.string t.st,.slice o1 n1 c1,.slice o2 n2 c2] 29)) wr.heap.size from HS.out.fk.fresh (Nat.le_refl _) (by simp))
   have hobs : w.heap.size + 2 < wr.heap.size := HS.out.ob.sx.1
   have CE := hid (fenter_any (W := W) (lpl j) HS1.out.fk (by omega))
   have CEl := hid (fun (nv3 : Value) (w2 : World) (F : Fk W b f nv3 ev2 (now ++ [lpl j]) (E ++ ntL EN (T.ls.take j) 0 now) w2) => HEL.out t (List.mem_of_getElem? ht) _ _ nv3 ev2 (now ++ [lpl j]) _ w2 hvt F (fun s hs => by
    rcases List.mem_append.1 hs with hs | hs
    ·exact HK.out s hs
    ·rw [List.mem_singleton.1 hs]; exact small_lpl (by omega)) (by simp; omega) (by simp; omega))
   have hjm : j ≤ 1000000 := by omega
   have HLX := hid (fun (q : Nat) (hq : (Value.slice ol j cl).ownBlock = some q) => (HS.out.ob.row.lt q hq).2)
   have hEjn : E.length + szT T ≤ 1000000 := hE
   simp only [vv,pv,lpl] at CE CEl
   clear hf hg hvt ht ha1 ha2 ha3 HS HZ HR hsm hbE
   go_upto_region 5 with fail
   refine cewp_gen ?_
   intro w1 hW1
   replace hW1 : w1 = (wr.alloc (.cells #[.int .i64 t.kd,.int .i64 t.nm,.string t.st,.slice o1 n1 c1,.slice o2 n2 c2] 29)) := hW1
   rw [← hW1] at b0 b1 b2 b3 b4 HS1 HZ1 HR1 HXE CE
   clear hW1
   go_wp2_with fail
   go_at_call 221
   refine CE.out.mono ?_
   rintro e w2 ⟨rfl,nv3,hf2,hm2⟩
   have HS2 := hid (HS1.out.to hf2 hm2)
   have HZ2 := hid (hm2.z5 HZ1.out HR1.out)
   have HR2 := hid (hm2.sx HR1.out)
   have HXE2 := hid (hm2.sx HXE.out)
   have b0 := hm2.cell HXE.out b0
   have b1 := hm2.cell HXE.out b1
   have b2 := hm2.cell HXE.out b2
   have b3 := hm2.cell HXE.out b3
   have b4 := hm2.cell HXE.out b4
   clear hf2 hm2 CE HS1 HZ1 HR1 HXE
   have hbd : Below w2.heap.size w2 w2.drew := (Below.refl _ _).drew
   have C2 := hid (CEl.out nv3 w2.drew (HS2.out.fk.onto hbd))
   obtain ⟨u,hu⟩ : ∃ u,EF t = u := ⟨_,rfl⟩
   rw [hu] at C2
   obtain ⟨c3,f3⟩ : w2.cell? ⟨w.heap.size + 2,3,none⟩ = some (.slice ol j cl) ∧ w2.frozen? ⟨w.heap.size + 2,3,none⟩ = false := ⟨by rw [cell_of_row w2 _ 3 _ _ _ HS2.out.ob.box]; rfl,by simp [World.frozen?,HS2.out.ob.box]⟩
   have HU := hid hu
   clear hu CEl f3
   unfold FitP at C2
   simp only [vv] at C2
   go_wp2_with fail
   have hS0 : w2.drew.cell? ⟨w.heap.size + 2,3,none⟩ = some (.slice ol j cl) ∧ w2.drew.cell? ⟨wr.heap.size,0,none⟩ = some (.int .i64 t.kd) ∧ w2.drew.cell? ⟨wr.heap.size,1,none⟩ = some (.int .i64 t.nm) ∧ w2.drew.cell? ⟨wr.heap.size,2,none⟩ = some (.string t.st) ∧ w2.drew.cell? ⟨wr.heap.size,3,none⟩ = some (.slice o1 n1 c1) ∧ w2.drew.cell? ⟨wr.heap.size,4,none⟩ = some (.slice o2 n2 c2) := ⟨c3,b0,b1,b2,b3,b4⟩
   refine wp_region_ends2 (S := fun X => X.cell? ⟨w.heap.size + 2,3,none⟩ = some (.slice ol j cl) ∧ X.cell? ⟨wr.heap.size,0,none⟩ = some (.int .i64 t.kd) ∧ X.cell? ⟨wr.heap.size,1,none⟩ = some (.int .i64 t.nm) ∧ X.cell? ⟨wr.heap.size,2,none⟩ = some (.string t.st) ∧ X.cell? ⟨wr.heap.size,3,none⟩ = some (.slice o1 n1 c1) ∧ X.cell? ⟨wr.heap.size,4,none⟩ = some (.slice o2 n2 c2)) (by simp) (by kernel_rfl) (by kernel_rfl) (by kernel_rfl) (by kernel_rfl) (by kernel_rfl) (by kernel_rfl) ?_
   simp only [List.dropLast,List.getLast_cons_cons,List.getLast_singleton,List.length_cons,List.length_nil]
   refine take_h (i := 0) (v := ?_) rfl (by kernel_rfl) (by kernel_rfl) (by kernel_rfl) (fun _ _ _ h => h) (by rfl) ?_ hS0 ?_
   rotate_left
   ·(intro X hX; obtain ⟨z0,z1,z2,z3,z4,z5⟩ := hX; go_simp; try with_reducible rfl)
   try simp only [Act.put,List.setIfInBounds_toArray,List.set_cons_zero,List.set_cons_succ]
   refine take_h (i := 1) (v := ?_) rfl (by kernel_rfl) (by kernel_rfl) (by kernel_rfl) (fun _ _ _ h => h) (by rfl) ?_ hS0 ?_
   rotate_left
   ·(intro X hX; obtain ⟨z0,z1,z2,z3,z4,z5⟩ := hX; go_simp; try with_reducible rfl)
   try simp only [Act.put,List.setIfInBounds_toArray,List.set_cons_zero,List.set_cons_succ]
   refine take_h (i := 2) (v := ?_) rfl (by kernel_rfl) (by kernel_rfl) (by kernel_rfl) (fun _ _ _ h => h) (by rfl) ?_ hS0 ?_
   rotate_left
   ·(intro X hX; obtain ⟨z0,z1,z2,z3,z4,z5⟩ := hX; go_simp; try with_reducible rfl)
   try simp only [Act.put,List.setIfInBounds_toArray,List.set_cons_zero,List.set_cons_succ]
   refine take_h (i := 3) (v := ?_) rfl (by kernel_rfl) (by kernel_rfl) (by kernel_rfl) (fun _ _ _ h => h) (by rfl) ?_ hS0 ?_
   rotate_left
   ·(intro X hX; obtain ⟨z0,z1,z2,z3,z4,z5⟩ := hX; go_simp; try with_reducible rfl)
   try simp only [Act.put,List.setIfInBounds_toArray,List.set_cons_zero,List.set_cons_succ]
   refine step_h (i := 4) rfl (by kernel_rfl) ?_
   intro KK hKK
   go_simp
   go_at_fn G
   refine C2.out.mono ?_
   rintro e w6 ⟨x6,y6,nv6,ev6,rfl,hs6,hf6,hm6⟩
   obtain ⟨o3,n3,c6,o4,n4,c7,rfl,rfl⟩ := hv_slices hs6.hv
   have hmd : Mv b nv3 ev2 w2 nv6 ev6 w6 := (Mv.of hbd).trans hm6
   have HS6 := hid (HS2.out.to hf6 hmd)
   have HZ6 := hid (hmd.z5 HZ2.out HR2.out)
   have HR6 := hid (hmd.sx HR2.out)
   have HH6 := hid (show HS w6 (fun q => Sx b nv6 ev6 w6 q ∧ q ≠ w.heap.size + 2 ∧ (Value.slice ol j cl).ownBlock ≠ some q ∧ wA.heap.size ≤ q) u (.slice o3 n3 c6) (.slice o4 n4 c7) from
    hs6.onto (fun _ _ => rfl) (fun k hk' => by
     have hk2 : w2.heap.size ≤ k := hk'.2
     have h1 := HS2.out.ob.sx.1
     have h3 := HS2.out.mv.sz
     exact ⟨hk'.1,by omega,fun e => by have := (HS2.out.ob.row.lt k e).2; omega,by omega⟩))
   go_wp2_with fail
   refine hKK.out _ _ ⟨hmd.cell HS2.out.ob.sx c3,hmd.cell HXE2.out b0,hmd.cell HXE2.out b1,hmd.cell HXE2.out b2,hmd.cell HXE2.out b3,hmd.cell HXE2.out b4⟩ (fun hS1 => ?_)
   have HB6 := hid (show w6.cell? ⟨wr.heap.size,0,none⟩ = some (.int .i64 t.kd) ∧ w6.cell? ⟨wr.heap.size,1,none⟩ = some (.int .i64 t.nm) ∧ w6.cell? ⟨wr.heap.size,2,none⟩ = some (.string t.st) ∧ w6.cell? ⟨wr.heap.size,3,none⟩ = some (.slice o1 n1 c1) ∧ w6.cell? ⟨wr.heap.size,4,none⟩ = some (.slice o2 n2 c2) from ⟨hmd.cell HXE2.out b0,hmd.cell HXE2.out b1,hmd.cell HXE2.out b2,hmd.cell HXE2.out b3,hmd.cell HXE2.out b4⟩)
   have HXE6 := hid (hmd.sx HXE2.out)
   clear hKK KK hS0 C2 hs6 hf6 hmd hm6 b0 b1 b2 b3 b4 c3 HZ2 HR2 HXE2 HS2
   try simp only [Act.put,List.setIfInBounds_toArray,List.set_cons_zero,List.set_cons_succ]
   refine step_h (i := 5) rfl (by kernel_rfl) ?_
   intro KK hKK
   go_simp
   have hbx : Below w6.heap.size w6 (w6.alloc (.cells #[.int .i64 u.kd,.int .i64 u.nm,.string u.st,.slice o3 n3 c6,.slice o4 n4 c7] 29)) := valloc_bel (Below.refl _ _) _
   refine hKK.out _ _ ⟨keepCell hbx hS1.1,keepCell hbx hS1.2.1,keepCell hbx hS1.2.2.1,keepCell hbx hS1.2.2.2.1,keepCell hbx hS1.2.2.2.2.1,keepCell hbx hS1.2.2.2.2.2⟩ (fun hS2 => ?_)
   clear hKK KK hS1
   try simp only [Act.put,List.setIfInBounds_toArray,List.set_cons_zero,List.set_cons_succ]
   refine step_h (i := 6) rfl (by kernel_rfl) ?_
   intro KK hKK
   have hM7 := HS6.out.onto hbx
   have hH7 := HH6.out.onto (S' := fun q => Sx b nv6 ev6 (w6.alloc (.cells #[.int .i64 u.kd,.int .i64 u.nm,.string u.st,.slice o3 n3 c6,.slice o4 n4 c7] 29)) q ∧ q ≠ w.heap.size + 2 ∧ (Value.slice ol j cl).ownBlock ≠ some q ∧ wA.heap.size ≤ q) (fun k hk => hbx.block k hk.1.1) (fun k hk => ⟨(Mv.of hbx).sx hk.1,hk.2⟩)
   refine step_append_lies _ (by rfl) _ _ _ (by rfl) wA.heap.size 29 i1 (.agg #[.int .i64 0,.int .i64 0,.string ⟨#[]⟩,.slice none 0 0,.slice none 0 0]) 5 80 Tryz.underlying26 hi' hz0' hz1' hz2' rfl (by decide) _ j _ (by rfl) hM7.ob.row ⟨w6.heap.size,0,none⟩ 1 1 (vc (u,.slice o3 n3 c6,.slice o4 n4 c7)) (by rfl) rfl (new_cells w6 _ 29) (by intro u hu; simp [vc] at hu; rcases hu with rfl | rfl | rfl | rfl | rfl <;> rfl) (by decide) (by unfold maxLen; omega) (by omega) hM7.mv.sz (w6.heap.size + 1) (by simp) ?_
   intro g9 cap9 w9 hown9 hgr9 hat9 hlt9
   have hd := hM7.more (o := 3) (lv' := .slice (some ⟨g9,0,none⟩) (j + 1) cap9) (u,.slice o3 n3 c6,.slice o4 n4 c7) hH7 hown9 hgr9 (fun q hq => by
    rcases hat9 with h | h
    ·left; rw [h]; exact hq
    ·right; rw [World.size_alloc,← h]; simpa [Value.ownBlock] using hq.symm) rfl
   have hor : ∀ q,(Value.slice ol j cl).ownBlock = some q → w.heap.size + 2 ≤ q := fun q hq => by have := (hM7.ob.row.lt q hq).1; omega
   have kp9 : ∀ k,k < w6.heap.size → (Value.slice ol j cl).ownBlock ≠ some k → w9.heap[k]? = w6.heap[k]? := fun k hk e => (hgr9.block k (Nat.lt_of_lt_of_le hk hbx.size) e.symm).trans (hbx.block k hk)
   have hlx : (Value.slice ol j cl).ownBlock ≠ some wr.heap.size := fun e => Nat.lt_irrefl _ (HLX.out _ e)
   have hbo := kp9 (w.heap.size + 2) HS6.out.ob.sx.1 (fun e => (hM7.ob.rx _ e).2 rfl)
   have c93 : w9.cell? ⟨w.heap.size + 2,3,none⟩ = some (.slice ol j cl) := by rw [cell_of_row w9 _ 3 _ _ _ (hbo.trans HS6.out.ob.box)]; rfl
   have f93 : w9.frozen? ⟨w.heap.size + 2,3,none⟩ = false := by simp [World.frozen?,hbo.trans HS6.out.ob.box]
   have hbe := kp9 wr.heap.size HXE6.out.1 hlx
   have cc : ∀ (o : Nat) (v : Value),w6.cell? ⟨wr.heap.size,o,none⟩ = some v → w9.cell? ⟨wr.heap.size,o,none⟩ = some v := fun o v hv => by rw [World.cell?_of_block hbe]; exact hv
   refine hKK.out _ _ ⟨c93,cc _ _ HB6.out.1,cc _ _ HB6.out.2.1,cc _ _ HB6.out.2.2.1,cc _ _ HB6.out.2.2.2.1,cc _ _ HB6.out.2.2.2.2⟩ (fun hS3 => ?_)
   clear hKK KK hS2
   try simp only [Act.put,List.setIfInBounds_toArray,List.set_cons_zero,List.set_cons_succ]
   refine take_h (i := 7) (v := ?_) rfl (by kernel_rfl) (by kernel_rfl) (by kernel_rfl) (fun _ _ _ h => h) (by rfl) ?_ hS3 ?_
   rotate_left
   ·(intro X hX; obtain ⟨z0,z1,z2,z3,z4,z5⟩ := hX; go_simp; try with_reducible rfl)
   try simp only [Act.put,List.setIfInBounds_toArray,List.set_cons_zero,List.set_cons_succ]
   refine wpAnyH_done (by kernel_rfl) ?_ _
   change Oper.wp _ _ _ _ _ _
   have HD := hid hd
   have hbr := kp9 (w.heap.size + 1) HR6.out.1 (fun e => by have := hor _ e; omega)
   have HZ9 := hid (show Z5 (w9.setCell ⟨w.heap.size + 2,3,none⟩ (.slice (some ⟨g9,0,none⟩) (j + 1) cap9)) (w.heap.size + 1) from by
    have e := ((set_grownW w9 (w.heap.size + 2) 3 (.slice (some ⟨g9,0,none⟩) (j + 1) cap9)).block (w.heap.size + 1) (by have := hgr9.size; have := hbx.size; have := HR6.out.1; omega) (fun e => by injection e with e; omega)).trans hbr
    have z := HZ6.out
    refine ⟨⟨by rw [World.cell?_of_block e]; exact z.1.1,by rw [World.cell?_of_block e]; exact z.1.2.1,by rw [World.cell?_of_block e]; exact z.1.2.2.1,by rw [World.cell?_of_block e]; exact z.1.2.2.2.1,by rw [World.cell?_of_block e]; exact z.1.2.2.2.2⟩,fun o => ?_⟩
    have := z.2 o
    simp only [World.frozen?] at this ⊢
    rw [e]; exact this)
   have HR9 := hid (show Sx b nv6 ev6 (w9.setCell ⟨w.heap.size + 2,3,none⟩ (.slice (some ⟨g9,0,none⟩) (j + 1) cap9)) (w.heap.size + 1) from ⟨by rw [World.size_setCell]; have := hgr9.size; have := hbx.size; have := HR6.out.1; omega,HR6.out.2⟩)
   clear hd hgr9 hown9 hS3 hM7 hbx hat9 hlt9 kp9 hbo hbe cc hbr HZ6 HR6 HS6 HH6 hH7 HB6 HXE6
   go_simp
   generalize w9.setCell ⟨w.heap.size + 2,3,none⟩ (.slice (some ⟨g9,0,none⟩) (j + 1) cap9) = w10 at *
   clear c93 f93
   have CL := hid (fleave_any (W := W) HD.out.fk (by omega))
   go_wp2_with fail
   go_at_call 222
   refine CL.out.mono ?_
   rintro e w11 ⟨rfl,nv7,hf7,hm7⟩
   have HS7 := hid (HD.out.to hf7 hm7)
   have HZ7 := hid (hm7.z5 HZ9.out HR9.out)
   have HR7 := hid (hm7.sx HR9.out)
   clear hf7 hm7 CL HD HZ9 HR9
   go_wp2_with fail
   go_roundw
   case rel => exact ⟨j + 1,nv7,ev6,_,A ++ [(u,.slice o3 n3 c6,.slice o4 n4 c7)],val_int (by omega),hlt,hid (by rw [List.map_append,HAM.out,HAN.out,HU.out]; rfl),hid (by rw [List.length_append,HAL.out]; rfl),hid (by rw [HSN.out,← List.append_assoc,List.flatMap_append]; have h := HS7.out; simpa [lpl] using h),HZ7,HR7⟩
   case measure => simp [intOf]; omega
  ·have hjn : j = T.ls.length := by omega
   subst hjn
   have HTK := hid (show T.ls.take T.ls.length = T.ls from List.take_length)
   rw [HTK.out] at HAM HS
   obtain ⟨ol,cl,rfl⟩ := own_slice HS.out.ob.row
   obtain ⟨⟨e0,e1,e2,e3,e4⟩,z0⟩ := HZ.out
   have hbox := HS.out.ob.box
   have q0 : wr.cell? ⟨w.heap.size + 2,0,none⟩ = some (.int .i64 5) := by rw [cell_of_row wr _ 0 _ _ _ hbox]; rfl
   have q1 : wr.cell? ⟨w.heap.size + 2,1,none⟩ = some (.int .i64 0) := by rw [cell_of_row wr _ 1 _ _ _ hbox]; rfl
   have q2 : wr.cell? ⟨w.heap.size + 2,2,none⟩ = some (.string ⟨#[]⟩) := by rw [cell_of_row wr _ 2 _ _ _ hbox]; rfl
   have q3 : wr.cell? ⟨w.heap.size + 2,3,none⟩ = some (.slice ol T.ls.length cl) := by rw [cell_of_row wr _ 3 _ _ _ hbox]; rfl
   have q4 : wr.cell? ⟨w.heap.size + 2,4,none⟩ = some (.slice none 0 0) := by rw [cell_of_row wr _ 4 _ _ _ hbox]; rfl
   have HLS := hid (own_ls (S := fun q => Sx b nv2 ev2 wr q ∧ w.heap.size ≤ q ∧ q ≠ w.heap.size + 1) (by rw [HAL.out]; exact HS.out.ob.row) (fun a ha => (HS.out.ob.els a ha).onto (fun _ _ => rfl) (fun k hk => ⟨hk.1,by have := hk.2.2.2; omega,by have := hk.2.2.2; omega⟩)) (fun g hg => ⟨(HS.out.ob.rx g hg).1,by have := (HS.out.ob.row.lt g hg).1; omega,by have := (HS.out.ob.row.lt g hg).1; omega⟩))
   rw [HAM.out] at HLS
   have HFS := hid (fits_of (W := W) (f := f) (w := w) (T := .mk 5 0 ⟨#[]⟩ (T.ls.map EF) [] []) (y := .slice none 0 0) HS.out.fk (HMA.out.trans HS.out.mv) (hs_of (T := .mk 5 0 ⟨#[]⟩ (T.ls.map EF) [] []) ⟨show (Lit.int .i64 5).wf = true by decide,show (Lit.int .i64 0).wf = true by decide,show (⟨#[]⟩ : ByteArray).size ≤ maxLen by decide⟩ HLS.out (ms_nil _ _)) HR.out (Nat.le_succ _) HWL.out)
   clear HS HZ HR HLS hbox
   go_wp2_with fail
   refine bodyPost_ret (v := .agg #[.int .i64 5,.int .i64 0,.string ⟨#[]⟩,.slice ol T.ls.length cl,.slice none 0 0]) (by simp [results,Tryz.results165,go_sem,e0,e1,e2,e3,e4]) rfl ?_
   exact ⟨_,_,_,_,rfl,HFS.out.put _ _ _ _ _⟩
end Go.Proofs.YteimbjamnfkapaaGreatDoor
