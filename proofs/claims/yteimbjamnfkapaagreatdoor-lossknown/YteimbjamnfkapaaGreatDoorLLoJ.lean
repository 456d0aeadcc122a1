import Derived.Test.YteimbjamnfkapaaGreatDoorLLoF
import Derived.Test.YteimbjamnfkapaaGreatDoorLLoG
import Derived.Test.YteimbjamnfkapaaGreatDoorLFlL
/- loss: what becomes of a part. -/
namespace Go.Proofs.YteimbjamnfkapaaGreatDoor
open Go.RowKit
mutual
def fiT (f : Int) : VT → VT
 | .mk k n s L K V => if k = 5 then .mk 5 0 ⟨#[]⟩ (fiL f L) [] [] else if k = 6 then .mk 6 0 ⟨#[]⟩ [] (kpK (dropF f) V K) (fiV f V) else leafF f (.mk k n s L K V)
def fiL (f : Int) : List VT → List VT
 | [] => []
 | t :: r => fiT f t :: fiL f r
def fiV (f : Int) : List VT → List VT
 | [] => []
 | t :: r => if dropF f t = true then fiV f r else fiT f t :: fiV f r
end
theorem fiL_map (f : Int) : ∀ L,fiL f L = L.map (fiT f)
 | [] => rfl
 | t :: r => by rw [fiL,fiL_map f r]; rfl
theorem fiV_kp (f : Int) : ∀ L,fiV f L = kpV (dropF f) (fiT f) L
 | [] => rfl
 | t :: r => by rw [fiV,kpV,fiV_kp f r]
mutual
def lfnT (f : Int) : VT → List PStep → List LN
 | .mk k n s L K V,p => if k = 5 then lfnL f L 0 p else if k = 6 then lfnM f V K p else leafN f (.mk k n s L K V) p
def lfnL (f : Int) : List VT → Nat → List PStep → List LN
 | [],_,_ => []
 | t :: r,i,p => lfnT f t (p ++ [lpl i]) ++ lfnL f r (i + 1) p
def lfnM (f : Int) : List VT → List ByteArray → List PStep → List LN
 | [],_,_ => []
 | t :: r,K,p => (if dropF f t = true then [(p ++ [lky (K.headD ⟨#[]⟩)],3)] else lfnT f t (p ++ [lky (K.headD ⟨#[]⟩)])) ++ lfnM f r K.tail p
end
theorem lfnL_nt (f : Int) : ∀ (L : List VT) (i : Nat) (p : List PStep),lfnL f L i p = ntL (lfnT f) L i p
 | [],_,_ => rfl
 | t :: r,i,p => by rw [lfnL,ntL,lfnL_nt f r (i + 1) p]
theorem lfnM_nt (f : Int) : ∀ (L : List VT) (K : List ByteArray) (p : List PStep),lfnM f L K p = ntM (dropF f) (lfnT f) L K p
 | [],_,_ => rfl
 | t :: r,K,p => by rw [lfnM,ntM,lfnM_nt f r K.tail p]
theorem fiT_at (f : Int) (T : VT) : fiT f T = if T.kd = 5 then .mk 5 0 ⟨#[]⟩ (T.ls.map (fiT f)) [] [] else if T.kd = 6 then .mk 6 0 ⟨#[]⟩ [] (kpK (dropF f) T.vs T.ks) (kpV (dropF f) (fiT f) T.vs) else leafF f T := by
 cases T with
 | mk k n s L K V => rw [fiT,fiL_map,fiV_kp]; rfl
theorem lfnT_at (f : Int) (T : VT) (p : List PStep) : lfnT f T p = if T.kd = 5 then ntL (lfnT f) T.ls 0 p else if T.kd = 6 then ntM (dropF f) (lfnT f) T.vs T.ks p else leafN f T p := by
 cases T with
 | mk k n s L K V => rw [lfnT,lfnL_nt,lfnM_nt]; rfl
mutual
theorem lfnT_len (f : Int) : ∀ (T : VT) (p : List PStep),(lfnT f T p).length ≤ szT T
 | .mk k n s L K V,p => by
  have h1 := lfnL_len f L 0 p
  have h2 := lfnM_len f V K p
  simp only [lfnT,szT]
  split
  ·omega
  ·split
   ·omega
   ·unfold leafN; split
    ·exact Nat.zero_le _
    ·simp only [List.length_cons,List.length_nil]; omega
theorem lfnL_len (f : Int) : ∀ (L : List VT) (i : Nat) (p : List PStep),(lfnL f L i p).length ≤ szL L
 | [],_,_ => Nat.zero_le _
 | t :: r,i,p => by
  have h1 := lfnT_len f t (p ++ [lpl i])
  have h2 := lfnL_len f r (i + 1) p
  simp only [lfnL,szL,List.length_append]; omega
theorem lfnM_len (f : Int) : ∀ (V : List VT) (K : List ByteArray) (p : List PStep),(lfnM f V K p).length ≤ szL V
 | [],_,_ => Nat.zero_le _
 | t :: r,K,p => by
  have h1 := lfnT_len f t (p ++ [lky (K.headD ⟨#[]⟩)])
  have h2 := lfnM_len f r K.tail p
  have h3 := szT_pos t
  simp only [lfnM,szL,List.length_append]
  split
  ·simp only [List.length_cons,List.length_nil]; omega
  ·omega
end
theorem node_stz {T : VT} (h : nodeB T = true) : T.st.size ≤ 4096 := by
 unfold nodeB nodeC at h
 have hz := size_list T.st
 have he : T.st.toList.isEmpty = true → T.st.size ≤ 4096 := fun h1 => by
  rw [ByteArray.toList_eq,List.isEmpty_iff] at h1
  rw [h1] at hz; simp at hz; omega
 repeat' split at h
 all_goals try simp only [Bool.and_eq_true,beq_iff_eq,Bool.or_eq_true] at h
 all_goals first
  | exact he h.1.1.2
  | (
    have h1 := h.1.1.2.1
    unfold numB at h1
    simp only [Bool.and_eq_true,decide_eq_true_eq] at h1
    have := h1.2
    omega)
  | (
    have h1 := h.1.1.2
    unfold teI at h1
    split at h1
    ·split at h1
     ·cases h1
     ·omega
    ·cases h1)
  | (
    have h1 := h.1.1.2
    unfold stampB at h1
    simp only [Bool.and_eq_true,decide_eq_true_eq] at h1
    omega)
  | exact he h.1.2
  | exact he h.1.1
  | cases h
set_option maxRecDepth 100000 in
set_option maxHeartbeats 4000000 in
theorem lpart_any {W : World} {b : Nat} {f : Int} (hg : GlobL W) : ∀ (N : Nat) (T : VT),szT T ≤ N → szT T ≤ 100000 → plainT T = true → ElOk W b f 115 (fiT f) (lfnT f) T
 | 0,T,h,_,_ => by have := szT_pos T; omega
 | N + 1,T,hN,hz,hp => fun x y nv ev now E w hT h hk hn hE => by
  have ih := fun (t : VT) (h1 : szT t < szT T) (h2 : plainT t = true) => lpart_any (b := b) (f := f) hg N t (by omega) (by omega) h2
  have hnode : nodeB T = true := by rw [plainT_eq] at hp; simp only [Bool.and_eq_true] at hp; exact hp.1.1
  have hst := node_stz hnode
  rw [fiT_at,lfnT_at]
  by_cases k5 : T.kd = 5
  ·rw [if_pos k5,if_pos k5]
   have CL := hid (fun (w2 : World) (F : Fk W b f nv ev now E w2) => llist_any (W := W) (b := b) (f := f) 115 (enters_of Tryz.func115 (by kernel_rfl) rfl) (fiT f) (lfnT f) (lfnT_len f) T x y hT (fun t ht => by
    obtain ⟨i,hi⟩ := List.getElem?_of_mem ht
    exact ih t (szT_ls T i t hi) (plain_ls hp hi)) F hk hn hE (by omega))
   obtain ⟨o1,n1,c1,o2,n2,c2,rfl,rfl⟩ := hv_slices hT
   obtain ⟨U,hU⟩ : ∃ U : VT,.mk 5 0 ⟨#[]⟩ (T.ls.map (fiT f)) [] [] = U := ⟨_,rfl⟩
   rw [hU] at CL ⊢
   clear hU ih
   have HWL := hid h.bel.size
   have hTw := hT.onto h.bel
   have hb0 : Below w.heap.size w ((w.alloc (.cells #[.int .i64 T.kd,.int .i64 T.nm,.string T.st,.slice o1 n1 c1,.slice o2 n2 c2] 29)).alloc (.cells #[.int .i64 0,.int .i64 0,.string ⟨#[]⟩,.slice none 0 0,.slice none 0 0] 29)) := valloc_bel (valloc_bel (Below.refl _ _) _) _
   have HF0 := hid (h.onto hb0)
   have HM0 := hid (Mv.of (b := b) (nv := nv) (ev := ev) hb0)
   have HZ0 := hid (show Z5 ((w.alloc (.cells #[.int .i64 T.kd,.int .i64 T.nm,.string T.st,.slice o1 n1 c1,.slice o2 n2 c2] 29)).alloc (.cells #[.int .i64 0,.int .i64 0,.string ⟨#[]⟩,.slice none 0 0,.slice none 0 0] 29)) (w.heap.size + 1) by have := z5_new (w.alloc (.cells #[.int .i64 T.kd,.int .i64 T.nm,.string T.st,.slice o1 n1 c1,.slice o2 n2 c2] 29)); simpa using this)
   have HR0 := hid (show Sx b nv ev ((w.alloc (.cells #[.int .i64 T.kd,.int .i64 T.nm,.string T.st,.slice o1 n1 c1,.slice o2 n2 c2] 29)).alloc (.cells #[.int .i64 0,.int .i64 0,.string ⟨#[]⟩,.slice none 0 0,.slice none 0 0] 29)) (w.heap.size + 1) from h.fresh (Nat.le_succ _) (by simp))
   have hsz0 : ((w.alloc (.cells #[.int .i64 T.kd,.int .i64 T.nm,.string T.st,.slice o1 n1 c1,.slice o2 n2 c2] 29)).alloc (.cells #[.int .i64 0,.int .i64 0,.string ⟨#[]⟩,.slice none 0 0,.slice none 0 0] 29)).heap.size = w.heap.size + 2 := by simp
   obtain ⟨f0,f1,f2,f3,f4⟩ := tpbox w (.int .i64 T.kd) (.int .i64 T.nm) (.string T.st) (.slice o1 n1 c1) (.slice o2 n2 c2)
   have hb1 : Below (w.alloc (.cells #[.int .i64 T.kd,.int .i64 T.nm,.string T.st,.slice o1 n1 c1,.slice o2 n2 c2] 29)).heap.size (w.alloc (.cells #[.int .i64 T.kd,.int .i64 T.nm,.string T.st,.slice o1 n1 c1,.slice o2 n2 c2] 29)) ((w.alloc (.cells #[.int .i64 T.kd,.int .i64 T.nm,.string T.st,.slice o1 n1 c1,.slice o2 n2 c2] 29)).alloc (.cells #[.int .i64 0,.int .i64 0,.string ⟨#[]⟩,.slice none 0 0,.slice none 0 0] 29)) := valloc_bel (Below.refl _ _) _
   have g0 := keepCell hb1 f0
   have g1 := keepCell hb1 f1
   have g2 := keepCell hb1 f2
   have g3 := keepCell hb1 f3
   have g4 := keepCell hb1 f4
   clear f0 f1 f2 f3 f4 hb1 hb0 h hTw
   generalize hw0 : ((w.alloc (.cells #[.int .i64 T.kd,.int .i64 T.nm,.string T.st,.slice o1 n1 c1,.slice o2 n2 c2] 29)).alloc (.cells #[.int .i64 0,.int .i64 0,.string ⟨#[]⟩,.slice none 0 0,.slice none 0 0] 29)) = w0 at *
   have CC := hid (CL.out w0 HF0.out)
   unfold FitP at CC
   simp only [vv] at CC ⊢
   rw [k5] at CC hw0 g0 ⊢
   go_enter Tryz.func115,Tryz.ntmps115
   go_upto_region 1 with fail
   refine cewp_gen ?_
   intro W0 hW
   obtain rfl : W0 = w0 := by first | exact hW | exact hW.trans hw0
   clear hw0
   go_wp2_with fail
   go_at_call 165
   refine CC.out.mono ?_
   rintro e w2 ⟨x2,y2,nv2,ev2,rfl,hs2,hf2,hm2⟩
   obtain ⟨o3,n3,c3,o4,n4,c4,rfl,rfl⟩ := hv_slices hs2.hv
   obtain ⟨⟨e0,e1,e2,e3,e4⟩,z0⟩ := hm2.z5 HZ0.out HR0.out
   have HFS := hid (fits_of (W := W) (f := f) (w := w) hf2 (HM0.out.trans hm2) (hs2.onto (S' := fun k => Sx b nv2 ev2 w2 k ∧ w.heap.size ≤ k ∧ k ≠ w.heap.size + 1) (fun _ _ => rfl) (fun k hk => ⟨hk.1,by have := hk.2; omega,by have := hk.2; omega⟩)) (hm2.sx HR0.out) (Nat.le_succ _) HWL.out)
   clear hs2 hf2 hm2
   go_wp2_with fail
   refine bodyPost_ret (v := vv U (.slice o3 n3 c3) (.slice o4 n4 c4)) (by simp [results,Tryz.results115,go_sem,vv,e0,e1,e2,e3,e4]) rfl ?_
   exact ⟨_,_,_,_,rfl,HFS.out.put _ _ _ _ _⟩
  rw [if_neg k5,if_neg k5]
  obtain ⟨k5a,k5b⟩ := ikey T.kd 5 k5
  by_cases k6 : T.kd = 6
  ·rw [if_pos k6,if_pos k6]
   have CL := hid (fun (w2 : World) (F : Fk W b f nv ev now E w2) => lpairs_any (W := W) (b := b) (f := f) (fiT f) (lfnT f) (lfnT_len f) T x y hT (fun t ht => by
    obtain ⟨i,hi⟩ := List.getElem?_of_mem ht
    exact ih t (szT_vs T i t hi) (plain_vs hp hi)) hg F hk (fun c hc => by
    obtain ⟨i,hi⟩ := List.getElem?_of_mem hc
    have := key_le hp k6 hi
    omega) hn hE (by omega))
   obtain ⟨o1,n1,c1,o2,n2,c2,rfl,rfl⟩ := hv_slices hT
   obtain ⟨U,hU⟩ : ∃ U : VT,.mk 6 0 ⟨#[]⟩ [] (kpK (dropF f) T.vs T.ks) (kpV (dropF f) (fiT f) T.vs) = U := ⟨_,rfl⟩
   rw [hU] at CL ⊢
   clear hU ih
   have HWL := hid h.bel.size
   have hTw := hT.onto h.bel
   have hb0 : Below w.heap.size w ((w.alloc (.cells #[.int .i64 T.kd,.int .i64 T.nm,.string T.st,.slice o1 n1 c1,.slice o2 n2 c2] 29)).alloc (.cells #[.int .i64 0,.int .i64 0,.string ⟨#[]⟩,.slice none 0 0,.slice none 0 0] 29)) := valloc_bel (valloc_bel (Below.refl _ _) _) _
   have HF0 := hid (h.onto hb0)
   have HM0 := hid (Mv.of (b := b) (nv := nv) (ev := ev) hb0)
   have HZ0 := hid (show Z5 ((w.alloc (.cells #[.int .i64 T.kd,.int .i64 T.nm,.string T.st,.slice o1 n1 c1,.slice o2 n2 c2] 29)).alloc (.cells #[.int .i64 0,.int .i64 0,.string ⟨#[]⟩,.slice none 0 0,.slice none 0 0] 29)) (w.heap.size + 1) by have := z5_new (w.alloc (.cells #[.int .i64 T.kd,.int .i64 T.nm,.string T.st,.slice o1 n1 c1,.slice o2 n2 c2] 29)); simpa using this)
   have HR0 := hid (show Sx b nv ev ((w.alloc (.cells #[.int .i64 T.kd,.int .i64 T.nm,.string T.st,.slice o1 n1 c1,.slice o2 n2 c2] 29)).alloc (.cells #[.int .i64 0,.int .i64 0,.string ⟨#[]⟩,.slice none 0 0,.slice none 0 0] 29)) (w.heap.size + 1) from h.fresh (Nat.le_succ _) (by simp))
   have hsz0 : ((w.alloc (.cells #[.int .i64 T.kd,.int .i64 T.nm,.string T.st,.slice o1 n1 c1,.slice o2 n2 c2] 29)).alloc (.cells #[.int .i64 0,.int .i64 0,.string ⟨#[]⟩,.slice none 0 0,.slice none 0 0] 29)).heap.size = w.heap.size + 2 := by simp
   obtain ⟨f0,f1,f2,f3,f4⟩ := tpbox w (.int .i64 T.kd) (.int .i64 T.nm) (.string T.st) (.slice o1 n1 c1) (.slice o2 n2 c2)
   have hb1 : Below (w.alloc (.cells #[.int .i64 T.kd,.int .i64 T.nm,.string T.st,.slice o1 n1 c1,.slice o2 n2 c2] 29)).heap.size (w.alloc (.cells #[.int .i64 T.kd,.int .i64 T.nm,.string T.st,.slice o1 n1 c1,.slice o2 n2 c2] 29)) ((w.alloc (.cells #[.int .i64 T.kd,.int .i64 T.nm,.string T.st,.slice o1 n1 c1,.slice o2 n2 c2] 29)).alloc (.cells #[.int .i64 0,.int .i64 0,.string ⟨#[]⟩,.slice none 0 0,.slice none 0 0] 29)) := valloc_bel (Below.refl _ _) _
   have g0 := keepCell hb1 f0
   have g1 := keepCell hb1 f1
   have g2 := keepCell hb1 f2
   have g3 := keepCell hb1 f3
   have g4 := keepCell hb1 f4
   clear f0 f1 f2 f3 f4 hb1 hb0 h hTw
   generalize hw0 : ((w.alloc (.cells #[.int .i64 T.kd,.int .i64 T.nm,.string T.st,.slice o1 n1 c1,.slice o2 n2 c2] 29)).alloc (.cells #[.int .i64 0,.int .i64 0,.string ⟨#[]⟩,.slice none 0 0,.slice none 0 0] 29)) = w0 at *
   have CC := hid (CL.out w0 HF0.out)
   unfold FitP at CC
   simp only [vv] at CC ⊢
   rw [k6] at CC hw0 g0 ⊢
   clear k5a k5b
   go_enter Tryz.func115,Tryz.ntmps115
   go_upto_region 1 with fail
   refine cewp_gen ?_
   intro W0 hW
   obtain rfl : W0 = w0 := by first | exact hW | exact hW.trans hw0
   clear hw0
   go_wp2_with fail
   go_at_call 167
   refine CC.out.mono ?_
   rintro e w2 ⟨x2,y2,nv2,ev2,rfl,hs2,hf2,hm2⟩
   obtain ⟨o3,n3,c3,o4,n4,c4,rfl,rfl⟩ := hv_slices hs2.hv
   obtain ⟨⟨e0,e1,e2,e3,e4⟩,z0⟩ := hm2.z5 HZ0.out HR0.out
   have HFS := hid (fits_of (W := W) (f := f) (w := w) hf2 (HM0.out.trans hm2) (hs2.onto (S' := fun k => Sx b nv2 ev2 w2 k ∧ w.heap.size ≤ k ∧ k ≠ w.heap.size + 1) (fun _ _ => rfl) (fun k hk => ⟨hk.1,by have := hk.2; omega,by have := hk.2; omega⟩)) (hm2.sx HR0.out) (Nat.le_succ _) HWL.out)
   clear hs2 hf2 hm2
   go_wp2_with fail
   refine bodyPost_ret (v := vv U (.slice o3 n3 c3) (.slice o4 n4 c4)) (by simp [results,Tryz.results115,go_sem,vv,e0,e1,e2,e3,e4]) rfl ?_
   exact ⟨_,_,_,_,rfl,HFS.out.put _ _ _ _ _⟩
  rw [if_neg k6,if_neg k6]
  obtain ⟨k6a,k6b⟩ := ikey T.kd 6 k6
  have CL := hid (fun (w2 : World) (F : Fk W b f nv ev now E w2) => lleaf_any (W := W) (b := b) (f := f) T x y F hg hT (by omega) hk (by omega) (by omega) (by omega))
  obtain ⟨o1,n1,c1,o2,n2,c2,rfl,rfl⟩ := hv_slices hT
  obtain ⟨U,hU⟩ : ∃ U : VT,leafF f T = U := ⟨_,rfl⟩
  rw [hU] at CL ⊢
  clear hU ih
  have HWL := hid h.bel.size
  have hTw := hT.onto h.bel
  have hb0 : Below w.heap.size w ((w.alloc (.cells #[.int .i64 T.kd,.int .i64 T.nm,.string T.st,.slice o1 n1 c1,.slice o2 n2 c2] 29)).alloc (.cells #[.int .i64 0,.int .i64 0,.string ⟨#[]⟩,.slice none 0 0,.slice none 0 0] 29)) := valloc_bel (valloc_bel (Below.refl _ _) _) _
  have HF0 := hid (h.onto hb0)
  have HM0 := hid (Mv.of (b := b) (nv := nv) (ev := ev) hb0)
  have HZ0 := hid (show Z5 ((w.alloc (.cells #[.int .i64 T.kd,.int .i64 T.nm,.string T.st,.slice o1 n1 c1,.slice o2 n2 c2] 29)).alloc (.cells #[.int .i64 0,.int .i64 0,.string ⟨#[]⟩,.slice none 0 0,.slice none 0 0] 29)) (w.heap.size + 1) by have := z5_new (w.alloc (.cells #[.int .i64 T.kd,.int .i64 T.nm,.string T.st,.slice o1 n1 c1,.slice o2 n2 c2] 29)); simpa using this)
  have HR0 := hid (show Sx b nv ev ((w.alloc (.cells #[.int .i64 T.kd,.int .i64 T.nm,.string T.st,.slice o1 n1 c1,.slice o2 n2 c2] 29)).alloc (.cells #[.int .i64 0,.int .i64 0,.string ⟨#[]⟩,.slice none 0 0,.slice none 0 0] 29)) (w.heap.size + 1) from h.fresh (Nat.le_succ _) (by simp))
  have hsz0 : ((w.alloc (.cells #[.int .i64 T.kd,.int .i64 T.nm,.string T.st,.slice o1 n1 c1,.slice o2 n2 c2] 29)).alloc (.cells #[.int .i64 0,.int .i64 0,.string ⟨#[]⟩,.slice none 0 0,.slice none 0 0] 29)).heap.size = w.heap.size + 2 := by simp
  obtain ⟨f0,f1,f2,f3,f4⟩ := tpbox w (.int .i64 T.kd) (.int .i64 T.nm) (.string T.st) (.slice o1 n1 c1) (.slice o2 n2 c2)
  have hb1 : Below (w.alloc (.cells #[.int .i64 T.kd,.int .i64 T.nm,.string T.st,.slice o1 n1 c1,.slice o2 n2 c2] 29)).heap.size (w.alloc (.cells #[.int .i64 T.kd,.int .i64 T.nm,.string T.st,.slice o1 n1 c1,.slice o2 n2 c2] 29)) ((w.alloc (.cells #[.int .i64 T.kd,.int .i64 T.nm,.string T.st,.slice o1 n1 c1,.slice o2 n2 c2] 29)).alloc (.cells #[.int .i64 0,.int .i64 0,.string ⟨#[]⟩,.slice none 0 0,.slice none 0 0] 29)) := valloc_bel (Below.refl _ _) _
  have g0 := keepCell hb1 f0
  have g1 := keepCell hb1 f1
  have g2 := keepCell hb1 f2
  have g3 := keepCell hb1 f3
  have g4 := keepCell hb1 f4
  clear f0 f1 f2 f3 f4 hb1 hb0 h hTw
  generalize hw0 : ((w.alloc (.cells #[.int .i64 T.kd,.int .i64 T.nm,.string T.st,.slice o1 n1 c1,.slice o2 n2 c2] 29)).alloc (.cells #[.int .i64 0,.int .i64 0,.string ⟨#[]⟩,.slice none 0 0,.slice none 0 0] 29)) = w0 at *
  have CC := hid (CL.out w0 HF0.out)
  unfold FitP at CC
  simp only [vv] at CC ⊢
  go_enter Tryz.func115,Tryz.ntmps115
  go_upto_region 1 with fail
  refine cewp_gen ?_
  intro W0 hW
  obtain rfl : W0 = w0 := by first | exact hW | exact hW.trans hw0
  clear hw0
  go_wp2_with fail
  go_at_call 168
  refine CC.out.mono ?_
  rintro e w2 ⟨x2,y2,nv2,ev2,rfl,hs2,hf2,hm2⟩
  obtain ⟨o3,n3,c3,o4,n4,c4,rfl,rfl⟩ := hv_slices hs2.hv
  obtain ⟨⟨e0,e1,e2,e3,e4⟩,z0⟩ := hm2.z5 HZ0.out HR0.out
  have HFS := hid (fits_of (W := W) (f := f) (w := w) hf2 (HM0.out.trans hm2) (hs2.onto (S' := fun k => Sx b nv2 ev2 w2 k ∧ w.heap.size ≤ k ∧ k ≠ w.heap.size + 1) (fun _ _ => rfl) (fun k hk => ⟨hk.1,by have := hk.2; omega,by have := hk.2; omega⟩)) (hm2.sx HR0.out) (Nat.le_succ _) HWL.out)
  clear hs2 hf2 hm2
  go_wp2_with fail
  refine bodyPost_ret (v := vv U (.slice o3 n3 c3) (.slice o4 n4 c4)) (by simp [results,Tryz.results115,go_sem,vv,e0,e1,e2,e3,e4]) rfl ?_
  exact ⟨_,_,_,_,rfl,HFS.out.put _ _ _ _ _⟩
end Go.Proofs.YteimbjamnfkapaaGreatDoor
/- loss: what becomes of CSV's elements, of TOML's root. -/
namespace Go.Proofs.YteimbjamnfkapaaGreatDoor
open Go.RowKit
def emT : VT := .mk 6 0 ⟨#[]⟩ [] [] []
def roT (T : VT) : VT := if T.kd = 6 then (if T.vs.length = 0 then wrapT zeroT else T) else wrapT T
def roN (T : VT) (p : List PStep) : List LN := if T.kd = 6 then (if T.vs.length = 0 then [(p,8)] else []) else [(p,2)]
theorem roN_len (T : VT) (p : List PStep) : (roN T p).length ≤ szT T := by
 have := szT_pos T
 unfold roN
 split
 ·split
  ·exact this
  ·exact Nat.zero_le _
 ·exact this
theorem lnull_any (w : World) : Calls Tryz.prog 188 #[] w fun e w' => e = .returned (.agg #[.int .i64 0,.int .i64 0,.string ⟨#[]⟩,.slice none 0 0,.slice none 0 0]) ∧ Below w.heap.size w w' := by
 go_enter Tryz.func188,Tryz.ntmps188
 go_wp2_with fail
 refine bodyPost_ret (v := .agg #[.int .i64 0,.int .i64 0,.string ⟨#[]⟩,.slice none 0 0,.slice none 0 0]) (by simp [results,Tryz.results188,go_sem]) rfl ?_
 exact ⟨rfl,valloc_bel (Below.refl _ _) _⟩
theorem lwrap_at (T : VT) (o1 : Option Addr) (n1 c1 : Nat) (o2 : Option Addr) (n2 c2 : Nat) (w : World) :
  Calls Tryz.prog 164 #[.agg #[.int .i64 T.kd,.int .i64 T.nm,.string T.st,.slice o1 n1 c1,.slice o2 n2 c2]] w fun e w' => ∃ nb,e = .returned (.agg #[.int .i64 6,.int .i64 0,.string ⟨#[]⟩,.slice none 0 0,.slice (some ⟨nb,0,none⟩) 1 1]) ∧ Below w.heap.size w w' ∧ w.heap.size ≤ nb ∧ nb < w'.heap.size ∧ (∀ (i : Nat) (u : Value),(pc (valB,T,.slice o1 n1 c1,.slice o2 n2 c2))[i]? = some u → w'.cell? ⟨nb,i,none⟩ = some u) := lwrap_any T o1 n1 c1 o2 n2 c2 w
set_option maxRecDepth 100000 in
set_option maxHeartbeats 4000000 in
theorem lrow_any {W : World} {b : Nat} {f : Int} (hg : GlobL W) (T : VT) (hz : szT T ≤ 100000) : ElOk W b f 166 roT roN T := fun x y nv ev now E w hT h hk hn hE => by
 have hpos := szT_pos T
 have CC0 := hid (fun (X : World) (hX : HV X T x y) => vcopy_any (szT T) T (Nat.le_refl _) (by omega) x y X hX)
 have CNN := hid (fun (k : Int) (w2 : World) (F : Fk W b f nv ev now E w2) => fnote_any (W := W) k F hg.f.2 (by omega) hk (by omega))
 have HTW := hid hT
 have hvl := len_sz T
 obtain ⟨-,-,-,-,-,-,o1,o2,c1,c2,rfl,rfl,-⟩ := hT.parts
 unfold roT roN
 have HWL := hid h.bel.size
 have hTw := hT.onto h.bel
 have hb0 : Below w.heap.size w ((w.alloc (.cells #[.int .i64 T.kd,.int .i64 T.nm,.string T.st,.slice o1 T.ls.length c1,.slice o2 T.vs.length c2] 29)).alloc (.cells #[.int .i64 0,.int .i64 0,.string ⟨#[]⟩,.slice none 0 0,.slice none 0 0] 29)) := valloc_bel (valloc_bel (Below.refl _ _) _) _
 have HF0 := hid (h.onto hb0)
 have HM0 := hid (Mv.of (b := b) (nv := nv) (ev := ev) hb0)
 have HZ0 := hid (show Z5 ((w.alloc (.cells #[.int .i64 T.kd,.int .i64 T.nm,.string T.st,.slice o1 T.ls.length c1,.slice o2 T.vs.length c2] 29)).alloc (.cells #[.int .i64 0,.int .i64 0,.string ⟨#[]⟩,.slice none 0 0,.slice none 0 0] 29)) (w.heap.size + 1) by have := z5_new (w.alloc (.cells #[.int .i64 T.kd,.int .i64 T.nm,.string T.st,.slice o1 T.ls.length c1,.slice o2 T.vs.length c2] 29)); simpa using this)
 have HR0 := hid (show Sx b nv ev ((w.alloc (.cells #[.int .i64 T.kd,.int .i64 T.nm,.string T.st,.slice o1 T.ls.length c1,.slice o2 T.vs.length c2] 29)).alloc (.cells #[.int .i64 0,.int .i64 0,.string ⟨#[]⟩,.slice none 0 0,.slice none 0 0] 29)) (w.heap.size + 1) from h.fresh (Nat.le_succ _) (by simp))
 have HX0 := hid (show Sx b nv ev ((w.alloc (.cells #[.int .i64 T.kd,.int .i64 T.nm,.string T.st,.slice o1 T.ls.length c1,.slice o2 T.vs.length c2] 29)).alloc (.cells #[.int .i64 0,.int .i64 0,.string ⟨#[]⟩,.slice none 0 0,.slice none 0 0] 29)) w.heap.size from h.fresh (Nat.le_refl _) (by simp; omega))
 have hsz0 : ((w.alloc (.cells #[.int .i64 T.kd,.int .i64 T.nm,.string T.st,.slice o1 T.ls.length c1,.slice o2 T.vs.length c2] 29)).alloc (.cells #[.int .i64 0,.int .i64 0,.string ⟨#[]⟩,.slice none 0 0,.slice none 0 0] 29)).heap.size = w.heap.size + 2 := by simp
 obtain ⟨f0,f1,f2,f3,f4⟩ := tpbox w (.int .i64 T.kd) (.int .i64 T.nm) (.string T.st) (.slice o1 T.ls.length c1) (.slice o2 T.vs.length c2)
 have hb1 : Below (w.alloc (.cells #[.int .i64 T.kd,.int .i64 T.nm,.string T.st,.slice o1 T.ls.length c1,.slice o2 T.vs.length c2] 29)).heap.size (w.alloc (.cells #[.int .i64 T.kd,.int .i64 T.nm,.string T.st,.slice o1 T.ls.length c1,.slice o2 T.vs.length c2] 29)) ((w.alloc (.cells #[.int .i64 T.kd,.int .i64 T.nm,.string T.st,.slice o1 T.ls.length c1,.slice o2 T.vs.length c2] 29)).alloc (.cells #[.int .i64 0,.int .i64 0,.string ⟨#[]⟩,.slice none 0 0,.slice none 0 0] 29)) := valloc_bel (Below.refl _ _) _
 have g0 := keepCell hb1 f0
 have g1 := keepCell hb1 f1
 have g2 := keepCell hb1 f2
 have g3 := keepCell hb1 f3
 have g4 := keepCell hb1 f4
 clear f0 f1 f2 f3 f4 hb1 hb0 h hTw
 generalize hw0 : ((w.alloc (.cells #[.int .i64 T.kd,.int .i64 T.nm,.string T.st,.slice o1 T.ls.length c1,.slice o2 T.vs.length c2] 29)).alloc (.cells #[.int .i64 0,.int .i64 0,.string ⟨#[]⟩,.slice none 0 0,.slice none 0 0] 29)) = w0 at *
 by_cases k6 : T.kd = 6
 case neg =>
  rw [if_neg k6,if_neg k6]
  obtain ⟨k6a,k6b⟩ := ikey T.kd 6 k6
  have CN := hid (CNN.out 2 w0 HF0.out)
  simp only [vv] at CC0 ⊢
  go_enter Tryz.func166,Tryz.ntmps166
  go_upto_region 1 with fail
  refine cewp_gen ?_
  intro W0 hW
  obtain rfl : W0 = w0 := by first | exact hW | exact hW.trans hw0
  clear hw0
  go_wp2_with fail
  go_at_call 163
  refine CN.out.mono ?_
  rintro e w1 ⟨rfl,ev1,hf,hm⟩
  have HF1 := hid hf
  have HM1 := hid (HM0.out.trans hm)
  have HZ1 := hid (hm.z5 HZ0.out HR0.out)
  have HR1 := hid (hm.sx HR0.out)
  have g0 := hm.cell HX0.out g0
  have g1 := hm.cell HX0.out g1
  have g2 := hm.cell HX0.out g2
  have g3 := hm.cell HX0.out g3
  have g4 := hm.cell HX0.out g4
  have HX1 := hid (hm.sx HX0.out)
  clear hf hm CN
  go_wp2_with fail
  go_at_call 63
  refine (CC0.out w1 (HTW.out.onto HF1.out.bel)).mono ?_
  rintro e w2 ⟨X,Y,rfl,hc,hb2⟩
  obtain ⟨o3,n3,c3,o4,n4,c4,rfl,rfl⟩ := hv_slices hc.hv
  have CWX := hid (lwrap_at T o3 n3 c3 o4 n4 c4 w2)
  clear CC0
  go_wp2_with fail
  go_at_call 164
  refine CWX.out.mono ?_
  rintro e w3 ⟨nb,rfl,hb3,hn1,hn2,hcc⟩
  have hb23 : Below w1.heap.size w1 w3 := vonto hb2 hb3
  obtain ⟨⟨e0,e1,e2,e3,e4⟩,z0⟩ := HZ1.out.onto hb23
  have hbs := hb2.size
  have HFS := hid (fits_of (W := W) (f := f) (w := w) (T := wrapT T) (x := .slice none 0 0) (y := .slice (some ⟨nb,0,none⟩) 1 1) (HF1.out.onto hb23) (HM1.out.trans (Mv.of hb23)) (hs_wrap (S := fun k => Sx b nv ev1 w3 k ∧ w.heap.size ≤ k ∧ k ≠ w.heap.size + 1) hcc ⟨HF1.out.fresh (by omega) hn2,by have := HM1.out.sz; omega,by have := HR1.out.1; omega⟩ (hc.hs.onto (fun k hk => hb3.block k hk.2) (fun k hk => ⟨HF1.out.fresh hk.1 (by have := hb3.size; omega),by have := HM1.out.sz; omega,by have := HR1.out.1; omega⟩))) ((Mv.of hb23).sx HR1.out) (Nat.le_succ _) HWL.out)
  clear hb2 hb3 hb23 hc hcc
  clear CWX
  go_wp2_with fail
  refine bodyPost_ret (v := .agg #[.int .i64 6,.int .i64 0,.string ⟨#[]⟩,.slice none 0 0,.slice (some ⟨nb,0,none⟩) 1 1]) (by simp [results,Tryz.results166,go_sem,e0,e1,e2,e3,e4]) rfl ?_
  exact ⟨_,_,_,_,rfl,HFS.out.put _ _ _ _ _⟩
 rw [if_pos k6,if_pos k6]
 by_cases k0 : T.vs.length = 0
 ·rw [if_pos k0,if_pos k0]
  have CN := hid (CNN.out 8 w0 HF0.out)
  rw [k0] at hw0 g4 ⊢
  rw [k6] at hw0 g0
  simp only [vv]
  rw [k6]
  clear CC0
  go_enter Tryz.func166,Tryz.ntmps166
  go_upto_region 1 with fail
  refine cewp_gen ?_
  intro W0 hW
  obtain rfl : W0 = w0 := by first | exact hW | exact hW.trans hw0
  clear hw0
  go_wp2_with fail
  go_at_call 163
  refine CN.out.mono ?_
  rintro e w1 ⟨rfl,ev1,hf,hm⟩
  have HF1 := hid hf
  have HM1 := hid (HM0.out.trans hm)
  have HZ1 := hid (hm.z5 HZ0.out HR0.out)
  have HR1 := hid (hm.sx HR0.out)
  have g0 := hm.cell HX0.out g0
  have g1 := hm.cell HX0.out g1
  have g2 := hm.cell HX0.out g2
  have g3 := hm.cell HX0.out g3
  have g4 := hm.cell HX0.out g4
  have HX1 := hid (hm.sx HX0.out)
  clear hf hm CN
  go_wp2_with fail
  go_at_call 188
  refine (lnull_any w1).mono ?_
  rintro e w2 ⟨rfl,hb2⟩
  have CWX := hid (lwrap_at zeroT none 0 0 none 0 0 w2)
  simp only [zeroT,VT.kd,VT.nm,VT.st] at CWX
  go_wp2_with fail
  go_at_call 164
  refine CWX.out.mono ?_
  rintro e w3 ⟨nb,rfl,hb3,hn1,hn2,hcc⟩
  have hb23 : Below w1.heap.size w1 w3 := vonto hb2 hb3
  obtain ⟨⟨e0,e1,e2,e3,e4⟩,z0⟩ := HZ1.out.onto hb23
  have hbs := hb2.size
  have HFS := hid (fits_of (W := W) (f := f) (w := w) (T := wrapT zeroT) (x := .slice none 0 0) (y := .slice (some ⟨nb,0,none⟩) 1 1) (HF1.out.onto hb23) (HM1.out.trans (Mv.of hb23)) (hs_wrap (S := fun k => Sx b nv ev1 w3 k ∧ w.heap.size ≤ k ∧ k ≠ w.heap.size + 1) hcc ⟨HF1.out.fresh (by omega) hn2,by have := HM1.out.sz; omega,by have := HR1.out.1; omega⟩ (hs_leaf w3 _ 0 0 ⟨#[]⟩ (by decide) (by decide) (by decide))) ((Mv.of hb23).sx HR1.out) (Nat.le_succ _) HWL.out)
  clear hb2 hb3 hb23 hcc
  clear CWX
  go_wp2_with fail
  refine bodyPost_ret (v := .agg #[.int .i64 6,.int .i64 0,.string ⟨#[]⟩,.slice none 0 0,.slice (some ⟨nb,0,none⟩) 1 1]) (by simp [results,Tryz.results166,go_sem,e0,e1,e2,e3,e4]) rfl ?_
  exact ⟨_,_,_,_,rfl,HFS.out.put _ _ _ _ _⟩
 ·rw [if_neg k0,if_neg k0,List.append_nil]
  clear CNN
  simp only [vv] at CC0 ⊢
  rw [k6] at CC0 hw0 g0 ⊢
  go_enter Tryz.func166,Tryz.ntmps166
  go_upto_region 1 with fail
  refine cewp_gen ?_
  intro W0 hW
  obtain rfl : W0 = w0 := by first | exact hW | exact hW.trans hw0
  clear hw0
  go_wp2_with fail
  go_at_call 63
  refine (CC0.out _ (HTW.out.onto HF0.out.bel)).mono ?_
  rintro e w2 ⟨X,Y,rfl,hc,hb2⟩
  obtain ⟨o3,n3,c3,o4,n4,c4,rfl,rfl⟩ := hv_slices hc.hv
  obtain ⟨⟨e0,e1,e2,e3,e4⟩,z0⟩ := HZ0.out.onto hb2
  have HFS := hid (fits_of (W := W) (f := f) (w := w) (HF0.out.onto hb2) (HM0.out.trans (Mv.of hb2)) (hc.hs.onto (S' := fun k => Sx b nv ev w2 k ∧ w.heap.size ≤ k ∧ k ≠ w.heap.size + 1) (fun _ _ => rfl) (fun k hk => ⟨HF0.out.fresh hk.1 hk.2,by have := hk.1; omega,by have := hk.1; omega⟩)) ((Mv.of hb2).sx HR0.out) (Nat.le_succ _) HWL.out)
  clear hb2 hc CC0
  go_wp2_with fail
  refine bodyPost_ret (v := .agg #[.int .i64 6,.int .i64 T.nm,.string T.st,.slice o3 n3 c3,.slice o4 n4 c4]) (by simp [results,Tryz.results166,go_sem,e0,e1,e2,e3,e4]) rfl ?_
  exact ⟨.slice o3 n3 c3,.slice o4 n4 c4,_,_,by simp only [vv,k6],HFS.out.put _ _ _ _ _⟩
end Go.Proofs.YteimbjamnfkapaaGreatDoor
/- loss: what becomes of a root. -/
namespace Go.Proofs.YteimbjamnfkapaaGreatDoor
open Go.RowKit
def tbT (f : Int) (T : VT) : VT := if T.kd = 6 then fiT f T else if T.kd = 0 then emT else wrapT (fiT f T)
def tbN (f : Int) (T : VT) (p : List PStep) : List LN := if T.kd = 6 then lfnT f T p else if T.kd = 0 then [(p,2),(p,3)] else (p,2) :: lfnT f T p
theorem ls_one {w : World} {S : Nat → Prop} {nb : Nat} {T : VT} {x y : Value} (hc : ∀ (i : Nat) (u : Value),(vc (T,x,y))[i]? = some u → w.cell? ⟨nb,i,none⟩ = some u) (hS : S nb) (hT : HS w S T x y) : LS w S [T] (.slice (some ⟨nb,0,none⟩) 1 1) := by
 refine ⟨⟨nb,0,none⟩,fun _ => x,fun _ => y,⟨_,_,rfl,Nat.le_refl _,by decide,fun _ => rfl⟩,fun _ => hS,fun i t h => ?_,fun i t h => ?_⟩
 ·have := lt_of_some h
  simp at this
  subst this
  simp at h; subst h
  rw [add_at]
  exact ⟨hc 0 _ rfl,hc 1 _ rfl,hc 2 _ rfl,hc 3 _ rfl,hc 4 _ rfl⟩
 ·have := lt_of_some h
  simp at this
  subst this
  simp at h; subst h
  exact hT
set_option maxRecDepth 100000 in
set_option maxHeartbeats 4000000 in
theorem ltable_any {W : World} {b : Nat} {f : Int} (hg : GlobL W) (T : VT) (hz : szT T ≤ 100000) (hp : plainT T = true) (x y nv ev : Value) (now : List PStep) (E : List LN) (w : World) (hT : HV W T x y) (h : Fk W b f nv ev now E w) (hk : ∀ s ∈ now,Small s) (hn : now.length + szT T ≤ 10000) (hE : E.length + szT T + 2 ≤ 1000000) :
  Calls Tryz.prog 113 #[.pointer (some ⟨b,0,none⟩),vv T x y] w (FitP W b f nv ev w now (E ++ tbN f T now) (tbT f T)) := by
 have CP := hid (fun (ev2 : Value) (E2 : List LN) (w2 : World) (hE2 : E2.length ≤ E.length + 1) (F : Fk W b f nv ev2 now E2 w2) => lpart_any (b := b) (f := f) hg (szT T) T (Nat.le_refl _) hz hp x y nv ev2 now E2 w2 hT F hk hn (by omega))
 have CNN := hid (fun (k : Int) (ev2 : Value) (E2 : List LN) (w2 : World) (hE2 : E2.length ≤ E.length + 1) (F : Fk W b f nv ev2 now E2 w2) => fnote_any (W := W) k F hg.f.2 (by omega) hk (by omega))
 obtain ⟨-,-,-,-,-,-,o1,o2,c1,c2,rfl,rfl,-⟩ := hT.parts
 unfold tbT tbN
 have HWL := hid h.bel.size
 have hTw := hT.onto h.bel
 have hb0 : Below w.heap.size w ((w.alloc (.cells #[.int .i64 T.kd,.int .i64 T.nm,.string T.st,.slice o1 T.ls.length c1,.slice o2 T.vs.length c2] 29)).alloc (.cells #[.int .i64 0,.int .i64 0,.string ⟨#[]⟩,.slice none 0 0,.slice none 0 0] 29)) := valloc_bel (valloc_bel (Below.refl _ _) _) _
 have HF0 := hid (h.onto hb0)
 have HM0 := hid (Mv.of (b := b) (nv := nv) (ev := ev) hb0)
 have HZ0 := hid (show Z5 ((w.alloc (.cells #[.int .i64 T.kd,.int .i64 T.nm,.string T.st,.slice o1 T.ls.length c1,.slice o2 T.vs.length c2] 29)).alloc (.cells #[.int .i64 0,.int .i64 0,.string ⟨#[]⟩,.slice none 0 0,.slice none 0 0] 29)) (w.heap.size + 1) by have := z5_new (w.alloc (.cells #[.int .i64 T.kd,.int .i64 T.nm,.string T.st,.slice o1 T.ls.length c1,.slice o2 T.vs.length c2] 29)); simpa using this)
 have HR0 := hid (show Sx b nv ev ((w.alloc (.cells #[.int .i64 T.kd,.int .i64 T.nm,.string T.st,.slice o1 T.ls.length c1,.slice o2 T.vs.length c2] 29)).alloc (.cells #[.int .i64 0,.int .i64 0,.string ⟨#[]⟩,.slice none 0 0,.slice none 0 0] 29)) (w.heap.size + 1) from h.fresh (Nat.le_succ _) (by simp))
 have HX0 := hid (show Sx b nv ev ((w.alloc (.cells #[.int .i64 T.kd,.int .i64 T.nm,.string T.st,.slice o1 T.ls.length c1,.slice o2 T.vs.length c2] 29)).alloc (.cells #[.int .i64 0,.int .i64 0,.string ⟨#[]⟩,.slice none 0 0,.slice none 0 0] 29)) w.heap.size from h.fresh (Nat.le_refl _) (by simp; omega))
 have hsz0 : ((w.alloc (.cells #[.int .i64 T.kd,.int .i64 T.nm,.string T.st,.slice o1 T.ls.length c1,.slice o2 T.vs.length c2] 29)).alloc (.cells #[.int .i64 0,.int .i64 0,.string ⟨#[]⟩,.slice none 0 0,.slice none 0 0] 29)).heap.size = w.heap.size + 2 := by simp
 obtain ⟨f0,f1,f2,f3,f4⟩ := tpbox w (.int .i64 T.kd) (.int .i64 T.nm) (.string T.st) (.slice o1 T.ls.length c1) (.slice o2 T.vs.length c2)
 have hb1 : Below (w.alloc (.cells #[.int .i64 T.kd,.int .i64 T.nm,.string T.st,.slice o1 T.ls.length c1,.slice o2 T.vs.length c2] 29)).heap.size (w.alloc (.cells #[.int .i64 T.kd,.int .i64 T.nm,.string T.st,.slice o1 T.ls.length c1,.slice o2 T.vs.length c2] 29)) ((w.alloc (.cells #[.int .i64 T.kd,.int .i64 T.nm,.string T.st,.slice o1 T.ls.length c1,.slice o2 T.vs.length c2] 29)).alloc (.cells #[.int .i64 0,.int .i64 0,.string ⟨#[]⟩,.slice none 0 0,.slice none 0 0] 29)) := valloc_bel (Below.refl _ _) _
 have g0 := keepCell hb1 f0
 have g1 := keepCell hb1 f1
 have g2 := keepCell hb1 f2
 have g3 := keepCell hb1 f3
 have g4 := keepCell hb1 f4
 clear f0 f1 f2 f3 f4 hb1 hb0 h hTw
 generalize hw0 : ((w.alloc (.cells #[.int .i64 T.kd,.int .i64 T.nm,.string T.st,.slice o1 T.ls.length c1,.slice o2 T.vs.length c2] 29)).alloc (.cells #[.int .i64 0,.int .i64 0,.string ⟨#[]⟩,.slice none 0 0,.slice none 0 0] 29)) = w0 at *
 by_cases k6 : T.kd = 6
 ·rw [if_pos k6,if_pos k6]
  have CC := hid (CP.out ev E w0 (by omega) HF0.out)
  obtain ⟨U,hU⟩ : ∃ U : VT,fiT f T = U := ⟨_,rfl⟩
  rw [hU] at CC ⊢
  unfold FitP at CC
  simp only [vv] at CC ⊢
  rw [k6] at CC hw0 g0 ⊢
  clear hU CP CNN
  go_enter Tryz.func113,Tryz.ntmps113
  go_upto_region 1 with fail
  refine cewp_gen ?_
  intro W0 hW
  obtain rfl : W0 = w0 := by first | exact hW | exact hW.trans hw0
  clear hw0
  go_wp2_with fail
  go_at_call 115
  refine CC.out.mono ?_
  rintro e w2 ⟨x2,y2,nv2,ev2,rfl,hs2,hf2,hm2⟩
  obtain ⟨o3,n3,c3,o4,n4,c4,rfl,rfl⟩ := hv_slices hs2.hv
  obtain ⟨⟨e0,e1,e2,e3,e4⟩,z0⟩ := hm2.z5 HZ0.out HR0.out
  have HFS := hid (fits_of (W := W) (f := f) (w := w) hf2 (HM0.out.trans hm2) (hs2.onto (S' := fun k => Sx b nv2 ev2 w2 k ∧ w.heap.size ≤ k ∧ k ≠ w.heap.size + 1) (fun _ _ => rfl) (fun k hk => ⟨hk.1,by have := hk.2; omega,by have := hk.2; omega⟩)) (hm2.sx HR0.out) (Nat.le_succ _) HWL.out)
  clear hs2 hf2 hm2
  go_wp2_with fail
  refine bodyPost_ret (v := vv U (.slice o3 n3 c3) (.slice o4 n4 c4)) (by simp [results,Tryz.results113,go_sem,vv,e0,e1,e2,e3,e4]) rfl ?_
  exact ⟨_,_,_,_,rfl,HFS.out.put _ _ _ _ _⟩
 rw [if_neg k6,if_neg k6]
 obtain ⟨k6a,k6b⟩ := ikey T.kd 6 k6
 have CN := hid (CNN.out 2 ev E w0 (by omega) HF0.out)
 by_cases k0 : T.kd = 0
 ·rw [if_pos k0,if_pos k0]
  rw [k0] at hw0 g0
  simp only [vv]
  rw [k0]
  clear CP k6a k6b k6
  go_enter Tryz.func113,Tryz.ntmps113
  go_upto_region 1 with fail
  refine cewp_gen ?_
  intro W0 hW
  obtain rfl : W0 = w0 := by first | exact hW | exact hW.trans hw0
  clear hw0
  go_wp2_with fail
  go_at_call 163
  refine CN.out.mono ?_
  rintro e w1 ⟨rfl,ev1,hf,hm⟩
  have HF1 := hid hf
  have HM1 := hid (HM0.out.trans hm)
  have HZ1 := hid (hm.z5 HZ0.out HR0.out)
  have HR1 := hid (hm.sx HR0.out)
  have g0 := hm.cell HX0.out g0
  have g1 := hm.cell HX0.out g1
  have g2 := hm.cell HX0.out g2
  have g3 := hm.cell HX0.out g3
  have g4 := hm.cell HX0.out g4
  have HX1 := hid (hm.sx HX0.out)
  clear hf hm CN
  have CN := hid (CNN.out 3 ev1 _ w1 (by simp) HF1.out)
  clear CNN
  go_wp2_with fail
  go_at_call 163
  refine CN.out.mono ?_
  rintro e w2 ⟨rfl,ev2,hf,hm⟩
  have HF2 := hid hf
  have HM2 := hid (HM1.out.trans hm)
  have HZ2 := hid (hm.z5 HZ1.out HR1.out)
  have HR2 := hid (hm.sx HR1.out)
  have g0 := hm.cell HX1.out g0
  have g1 := hm.cell HX1.out g1
  have g2 := hm.cell HX1.out g2
  have g3 := hm.cell HX1.out g3
  have g4 := hm.cell HX1.out g4
  have HX2 := hid (hm.sx HX1.out)
  clear hf hm CN
  obtain ⟨⟨e0,e1,e2,e3,e4⟩,z0⟩ := HZ2.out
  have HFS := hid (fits_of (W := W) (f := f) (w := w) (T := emT) (x := .slice none 0 0) (y := .slice none 0 0) HF2.out HM2.out (hs_leaf w2 _ 6 0 ⟨#[]⟩ (by decide) (by decide) (by decide)) HR2.out (Nat.le_succ _) HWL.out)
  go_wp2_with fail
  refine bodyPost_ret (v := .agg #[.int .i64 6,.int .i64 0,.string ⟨#[]⟩,.slice none 0 0,.slice none 0 0]) (by simp [results,Tryz.results113,go_sem,e0,e1,e2,e3,e4]) rfl ?_
  have hfin := HFS.out.put (.int .i64 6) (.int .i64 0) (.string ⟨#[]⟩) (.slice none 0 0) (.slice none 0 0)
  rw [List.append_assoc] at hfin
  exact ⟨_,_,_,_,rfl,hfin⟩
 ·rw [if_neg k0,if_neg k0]
  obtain ⟨k0a,k0b⟩ := ikey T.kd 0 k0
  obtain ⟨U,hU⟩ : ∃ U : VT,fiT f T = U := ⟨_,rfl⟩
  rw [hU] at CP ⊢
  clear hU CNN
  simp only [vv]
  go_enter Tryz.func113,Tryz.ntmps113
  go_upto_region 1 with fail
  refine cewp_gen ?_
  intro W0 hW
  obtain rfl : W0 = w0 := by first | exact hW | exact hW.trans hw0
  clear hw0
  go_wp2_with fail
  go_at_call 163
  refine CN.out.mono ?_
  rintro e w1 ⟨rfl,ev1,hf,hm⟩
  have HF1 := hid hf
  have HM1 := hid (HM0.out.trans hm)
  have HZ1 := hid (hm.z5 HZ0.out HR0.out)
  have HR1 := hid (hm.sx HR0.out)
  have g0 := hm.cell HX0.out g0
  have g1 := hm.cell HX0.out g1
  have g2 := hm.cell HX0.out g2
  have g3 := hm.cell HX0.out g3
  have g4 := hm.cell HX0.out g4
  have HX1 := hid (hm.sx HX0.out)
  clear hf hm CN
  have CC := hid (CP.out ev1 _ w1 (by simp) HF1.out)
  unfold FitP at CC
  simp only [vv] at CC
  clear CP
  go_wp2_with fail
  go_at_call 115
  refine CC.out.mono ?_
  rintro e w2 ⟨x2,y2,nv2,ev2,rfl,hs2,hf2,hm2⟩
  obtain ⟨o3,n3,c3,o4,n4,c4,rfl,rfl⟩ := hv_slices hs2.hv
  have CWX := hid (lwrap_at U o3 n3 c3 o4 n4 c4 w2)
  clear CC
  go_wp2_with fail
  go_at_call 164
  refine CWX.out.mono ?_
  rintro e w3 ⟨nb,rfl,hb3,hn1,hn2,hcc⟩
  obtain ⟨⟨e0,e1,e2,e3,e4⟩,z0⟩ := (hm2.z5 HZ1.out HR1.out).onto hb3
  have hms := hm2.sz
  have HFS := hid (fits_of (W := W) (f := f) (w := w) (T := wrapT U) (x := .slice none 0 0) (y := .slice (some ⟨nb,0,none⟩) 1 1) (hf2.onto hb3) ((HM1.out.trans hm2).trans (Mv.of hb3)) (hs_wrap (S := fun k => Sx b nv2 ev2 w3 k ∧ w.heap.size ≤ k ∧ k ≠ w.heap.size + 1) hcc ⟨hf2.fresh hn1 hn2,by have := HM1.out.sz; omega,by have := HR1.out.1; omega⟩ (hs2.onto (fun k hk => hb3.block k hk.1.1) (fun k hk => ⟨(Mv.of hb3).sx hk.1,by have := HM1.out.sz; have := hk.2; omega,by have := HR1.out.1; have := hk.2; omega⟩))) ((Mv.of hb3).sx (hm2.sx HR1.out)) (Nat.le_succ _) HWL.out)
  clear hb3 hcc hs2 hf2 hm2
  clear CWX
  go_wp2_with fail
  refine bodyPost_ret (v := .agg #[.int .i64 6,.int .i64 0,.string ⟨#[]⟩,.slice none 0 0,.slice (some ⟨nb,0,none⟩) 1 1]) (by simp [results,Tryz.results113,go_sem,e0,e1,e2,e3,e4]) rfl ?_
  have hfin := HFS.out.put (.int .i64 6) (.int .i64 0) (.string ⟨#[]⟩) (.slice none 0 0) (.slice (some ⟨nb,0,none⟩) 1 1)
  rw [List.append_assoc] at hfin
  exact ⟨_,_,_,_,rfl,hfin⟩
end Go.Proofs.YteimbjamnfkapaaGreatDoor
