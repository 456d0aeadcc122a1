import Derived.Test.YteimbjamnfkapaaGreatDoorLVSameT
import Derived.Test.YteimbjamnfkapaaGreatDoorLOrders
import Derived.Deep.LoopGhost
import Derived.Test.YteimbjamnfkapaaGreatDoorLDecOne
import Derived.Test.YteimbjamnfkapaaGreatDoorLVBase
import Derived.Test.YteimbjamnfkapaaGreatDoorLVTextAll
import Derived.Test.YteimbjamnfkapaaGreatDoorLVCopyAll
/- value.Same and value.Equal, walked. -/
/- value's makers of single values and of lists, walked; Get. -/
/- value.Get, walked. -/
namespace Go.Proofs.YteimbjamnfkapaaGreatDoor
open Go.RowKit
set_option maxRecDepth 100000 in
set_option maxHeartbeats 2000000 in
theorem alike_any (G : Nat) (lo : Bool) (eg : ∀ args w,(callFunc G args).run Tryz.prog w = .ok (.enter G args) w) (hF : ∀ (s t : ByteArray) (X : World),s.size ≤ maxLen → t.size ≤ maxLen → Calls Tryz.prog G #[.string s,.string t] X fun e w' => e = .returned (.bool (strB lo 3 s t)) ∧ Below X.heap.size X w') : ∀ (N : Nat) (T U : VT) (x y x' y' : Value) (w : World),szT T ≤ N → HV w T x y → HV w U x' y' →
  Calls Tryz.prog 295 #[vv T x y,vv U x' y',.func (.func G) #[] #[]] w fun e w' => e = .returned (.bool (sameT lo T U)) ∧ Below w.heap.size w w' := by
 have HFF := hid hF
 clear hF
 intro N
 induction N with
 | zero => intro T U x y x' y' w h; have := szT_pos T; omega
 | succ N ih =>
 intro T U x y x' y' w hN hT hU
 have HTL := hid (fun i t h => szT_ls T i t h)
 have HTV := hid (fun i t h => szT_vs T i t h)
 have HE := hid (sameT_eq lo T U)
 obtain ⟨a,b,f,g,p,q,oL,oM,capL,capM,rfl,rfl,hl1,hl2,hL3,hM3,hK,hs,-,-,cL,cK,cM,rL,rM,-,-⟩ := hT.parts
 obtain ⟨a',b',f',g',p',q',oL',oM',capL',capM',rfl,rfl,hl1',hl2',hL3',hM3',hK',hs',-,-,cL',cK',cM',rL',rM',-,-⟩ := hU.parts
 clear hT hU
 obtain ⟨k,hk⟩ : ∃ k,T.kd = k := ⟨_,rfl⟩
 obtain ⟨n,hn⟩ : ∃ n,T.nm = n := ⟨_,rfl⟩
 obtain ⟨s,hst⟩ : ∃ s,T.st = s := ⟨_,rfl⟩
 obtain ⟨k',hk'⟩ : ∃ k,U.kd = k := ⟨_,rfl⟩
 obtain ⟨n',hn'⟩ : ∃ n,U.nm = n := ⟨_,rfl⟩
 obtain ⟨s',hst'⟩ : ∃ s,U.st = s := ⟨_,rfl⟩
 obtain ⟨L,hL⟩ : ∃ L,T.ls = L := ⟨_,rfl⟩
 obtain ⟨V,hV⟩ : ∃ L,T.vs = L := ⟨_,rfl⟩
 obtain ⟨K,hKK⟩ : ∃ L,T.ks = L := ⟨_,rfl⟩
 obtain ⟨L',hL'⟩ : ∃ L,U.ls = L := ⟨_,rfl⟩
 obtain ⟨V',hV'⟩ : ∃ L,U.vs = L := ⟨_,rfl⟩
 obtain ⟨K',hKK'⟩ : ∃ L,U.ks = L := ⟨_,rfl⟩
 simp only [vv]
 rw [hk,hn,hst,hk',hn',hst',hL,hV,hKK,hL',hV',hKK'] at HE
 rw [hL] at hl1 hL3 cL rL HTL ⊢
 rw [hV] at hl2 hM3 hK cM rM HTV ⊢
 rw [hKK] at hK cK
 rw [hL'] at hl1' hL3' cL' rL' ⊢
 rw [hV'] at hl2' hM3' hK' cM' rM' ⊢
 rw [hKK'] at hK' cK'
 rw [hst] at hs
 rw [hst'] at hs'
 rw [hk,hn,hst,hk',hn',hst']
 generalize sameT lo T U = res at HE ⊢
 generalize szT T = zz at HTL HTV hN
 clear hk hn hst hk' hn' hst' hL hV hKK hL' hV' hKK'
 by_cases hlab : k = k' ∧ n = n' ∧ L.length = L'.length ∧ V.length = V'.length
 ·obtain ⟨rfl,rfl,e3,e4⟩ := hlab
  have HR := hid (show res = (strB lo k s s' && sameL lo L L' && decide (K = K') && sameL lo V V') by
   rw [HE.out,decide_eq_true (show k = k ∧ n = n ∧ L.length = L'.length ∧ V.length = V'.length from ⟨rfl,rfl,e3,e4⟩)]; rfl)
  have t3 : ((L.length : Int) != (L'.length : Int)) = false := by rw [e3]; simp
  have t4 : ((V.length : Int) != (V'.length : Int)) = false := by rw [e4]; simp
  have E3 := hid e3
  have E4 := hid e4
  have hs9 : s.size ≤ maxLen := hs
  have hs9' : s'.size ≤ maxLen := hs'
  have HS := hid hs9
  have HS' := hid hs9'
  have hbase : Below w.heap.size w ((w.alloc (.cells #[.int .i64 k,.int .i64 n,.string s,.slice oL L.length capL,.slice oM V.length capM] 29)).alloc (.cells #[.int .i64 k,.int .i64 n,.string s',.slice oL' L'.length capL',.slice oM' V'.length capM'] 29)) := ((Below.refl _ _).alloc (Nat.le_refl _) _).alloc (by simp) _
  clear e3 e4 hs hs' hs9 hs9' HE
  go_enter Tryz.func295,Tryz.ntmps295
  go_upto_region 3 with fail
  go_cut [62] from 9 (fun v wx => v = .bool (!strB lo k s s') ∧ Hid (Below (w.heap.size + 2) ((w.alloc (.cells #[.int .i64 k,.int .i64 n,.string s,.slice oL L.length capL,.slice oM V.length capM] 29)).alloc (.cells #[.int .i64 k,.int .i64 n,.string s',.slice oL' L'.length capL',.slice oM' V'.length capM'] 29)) wx))
  case first =>
   by_cases h3 : k = 3
   ·have t2 : (k == 3) = true := by rw [h3]; rfl
    have t3' : (k != 3) = false := by rw [h3]; rfl
    have HS3 := hid (show strB lo k s s' = strB lo 3 s s' by rw [h3])
    have hst := hid (fun X => HFF.out s s' X HS.out HS'.out)
    clear h3
    generalize strB lo 3 s s' = r3 at HS3 hst
    cases r3
    all_goals
     go_wp2_with fail
     go_at_fn G
     refine (hst.out _).mono ?_
     rintro e w1 ⟨rfl,hb1⟩
     have c0 : w1.cell? ⟨w.heap.size,0,none⟩ = some (.int .i64 k) := keepCell hb1 (by simp)
     go_wp2_with fail
     go_meet
     exact ⟨by rw [HS3.out]; rfl,hb1.mono (by simp)⟩
   ·have t2 : (k == 3) = false := by simpa using h3
    have t3' : (k != 3) = true := by simpa using h3
    by_cases h1 : s = s'
    ·have t1 : (s.toList == s'.toList) = true := by rw [h1]; simp
     have H := hid (show strB lo k s s' = true by unfold strB; rw [decide_eq_true h1]; rfl)
     clear h1 h3
     go_wp2_with fail
     go_meet
     exact ⟨by rw [H.out]; rfl,Below.refl _ _⟩
    ·have t1 := str_ne s s' h1
     have H := hid (show strB lo k s s' = false by unfold strB; rw [decide_eq_false h1,decide_eq_false h3]; simp)
     clear h1 h3
     go_wp2_with fail
     go_meet
     exact ⟨by rw [H.out]; rfl,Below.refl _ _⟩
  case rest =>
  obtain ⟨rfl,HB0⟩ := hcut
  have hbc : Below w.heap.size w wc := hbase.trans (HB0.out.mono (by omega))
  have hC0 := box2_cell w wc _ _ _ _ _ _ _ HB0.out 3 _ rfl
  cases hstr : strB lo k s s' with
  | false =>
   have HF := hid (show res = false by rw [HR.out,hstr]; rfl)
   go_wp2_with fail
   go_ret
   exact ⟨ret_bool HF.out.symm,hbc⟩
  | true =>
  go_wp2_with fail
  go_loopw [66] (fun i wr => ∃ j : Nat,j ≤ L.length ∧ i = .int .i64 j ∧ Hid (∀ (i : Nat) (t u : VT),i < j → L[i]? = some t → L'[i]? = some u → sameT lo t u = true) ∧ Below (w.heap.size + 2) ((w.alloc (.cells #[.int .i64 k,.int .i64 n,.string s,.slice oL L.length capL,.slice oM V.length capM] 29)).alloc (.cells #[.int .i64 k,.int .i64 n,.string s',.slice oL' L'.length capL',.slice oM' V'.length capM'] 29)) wr) (fun i _ => L.length - (intOf i).toNat)
  case atStart => exact ⟨0,Nat.zero_le _,rfl,fun i t u h => absurd h (by omega),HB0.out⟩
  case round =>
   clear hC0
   obtain ⟨j,hj,rfl,HJ,hbel⟩ := hrel
   have hbw : Below w.heap.size w wr := hbase.trans (hbel.mono (by omega))
   have hB3 := box2_cell w wr _ _ _ _ _ _ _ hbel 3 _ rfl
   have hB4 := box2_cell w wr _ _ _ _ _ _ _ hbel 4 _ rfl
   by_cases hlt : j < L.length
   ·obtain ⟨t,ht⟩ : ∃ t,L[j]? = some t := ⟨L[j],List.getElem?_eq_getElem hlt⟩
    have hlt' : j < L'.length := by have := E3.out; omega
    obtain ⟨u,hu⟩ : ∃ t,L'[j]? = some t := ⟨L'[j],List.getElem?_eq_getElem hlt'⟩
    obtain rfl := hL3 (by omega)
    obtain rfl := hL3' (by omega)
    have hC3 := box2_next w wr _ _ _ _ _ _ _ hbel 3 _ rfl
    have A1 := above_cell hB3
    have A2 := above_cell hC3
    obtain ⟨d0,d1,d2,d3,d4⟩ := (cL j t ht).onto hbw
    obtain ⟨e0,e1,e2,e3,e4⟩ := (cL' j u hu).onto hbw
    have D0 := above_cell d0; have D1 := above_cell d1; have D2 := above_cell d2; have D3 := above_cell d3; have D4 := above_cell d4
    have F0 := above_cell e0; have F1 := above_cell e1; have F2 := above_cell e2; have F3 := above_cell e3; have F4 := above_cell e4
    have HT' := hid ((rL j t ht).onto hbw)
    have HU' := hid ((rL' j u hu).onto hbw)
    have hzt := HTL.out j t ht
    have HSTEP := hid (fun X : Abv wr => ih t u (f j) (g j) (f' j) (g' j) X.u (by omega) (HT'.out.onto X.h) (HU'.out.onto X.h))
    simp only [vv] at HSTEP
    cases hq : sameT lo t u with
    | true =>
     rw [hq] at HSTEP
     go_wp2_with fail
     have hinh := abv_some wr
     refine wp_region_above (by kernel_rfl) (by kernel_rfl) ?_
     repeat (go_big_quiet_step ((go_at_call 295; exact above_of (HSTEP.out _))))
     refine wpQuiet_nil ?_
     intro _ hw'
     obtain ⟨X,hX⟩ := hw'
     subst hX
     go_wp2_with fail
     refine ⟨?_,?_⟩
     ·repeat apply Exists.intro
      exact ⟨⟨j + 1,hlt,val_int (by omega),fun i t' u' hi h1 h2 => by
       by_cases hij : i = j
       ·subst hij
        rw [ht] at h1; rw [hu] at h2; cases h1; cases h2; exact hq
       ·exact HJ.out i t' u' (by omega) h1 h2,hbel.trans (X.h.mono (by have := hbel.size; simp at this; omega))⟩,rfl⟩
     ·simp [intOf]; omega
    | false =>
     rw [hq] at HSTEP
     have HF := hid (show res = false by
      rw [HR.out]
      have : sameL lo L L' = false := by
       rw [Bool.eq_false_iff]; intro hc
       have := (sameL_get lo L L' E3.out).1 hc j t u ht hu
       rw [hq] at this; cases this
      rw [this]; simp)
     go_wp2_with fail
     have hinh := abv_some wr
     refine wp_region_above (by kernel_rfl) (by kernel_rfl) ?_
     repeat (go_big_quiet_step ((go_at_call 295; exact above_of (HSTEP.out _))))
     refine wpQuiet_nil ?_
     intro _ hw'
     obtain ⟨X,hX⟩ := hw'
     subst hX
     go_wp2_with fail
     go_ret
     exact ⟨ret_bool HF.out.symm,hbw.trans (X.h.mono hbw.size)⟩
   ·have HLL := hid (show sameL lo L L' = true from (sameL_get lo L L' E3.out).2 fun i t u h1 h2 => HJ.out i t u (by
     have : i < L.length := by
      apply Classical.byContradiction; intro hc
      rw [List.getElem?_eq_none (by omega)] at h1; cases h1
     omega) h1 h2)
    clear HJ
    go_wp2_with fail
    clear hB3 hB4
    go_loopw [86] (fun i wr => ∃ j : Nat,j ≤ V.length ∧ i = .int .i64 j ∧ Hid (∀ (i : Nat),i < j → K[i]? = K'[i]? ∧ ∀ (t u : VT),V[i]? = some t → V'[i]? = some u → sameT lo t u = true) ∧ Below (w.heap.size + 2) ((w.alloc (.cells #[.int .i64 k,.int .i64 n,.string s,.slice oL L.length capL,.slice oM V.length capM] 29)).alloc (.cells #[.int .i64 k,.int .i64 n,.string s',.slice oL' L'.length capL',.slice oM' V'.length capM'] 29)) wr) (fun i _ => V.length - (intOf i).toNat)
    case atStart => exact ⟨0,Nat.zero_le _,rfl,fun i h => absurd h (by omega),hbel⟩
    case round =>
     clear hbw hbel hj hlt
     obtain ⟨j,hj,rfl,HJ,hbel⟩ := hrel
     have hbw : Below w.heap.size w wr := hbase.trans (hbel.mono (by omega))
     have hB4 := box2_cell w wr _ _ _ _ _ _ _ hbel 4 _ rfl
     by_cases hlt : j < V.length
     ·obtain ⟨t,ht⟩ : ∃ t,V[j]? = some t := ⟨V[j],List.getElem?_eq_getElem hlt⟩
      have hlt' : j < V'.length := by have := E4.out; omega
      obtain ⟨u,hu⟩ : ∃ t,V'[j]? = some t := ⟨V'[j],List.getElem?_eq_getElem hlt'⟩
      obtain ⟨c,hc⟩ : ∃ t,K[j]? = some t := ⟨K[j]'(by omega),List.getElem?_eq_getElem (by omega)⟩
      obtain ⟨c',hc'⟩ : ∃ t,K'[j]? = some t := ⟨K'[j]'(by omega),List.getElem?_eq_getElem (by omega)⟩
      obtain rfl := hM3 (by omega)
      obtain rfl := hM3' (by omega)
      have hC4 := box2_next w wr _ _ _ _ _ _ _ hbel 4 _ rfl
      have A1 := above_cell hB4
      have A2 := above_cell hC4
      have k0 := above_cell (keepCell hbw (cK j c hc).1)
      have k1 := above_cell (keepCell hbw (cK' j c' hc').1)
      have hnode := (cM j t ht).onto hbw
      have hnode' := (cM' j u hu).onto hbw
      simp only [Node,nx] at hnode hnode'
      obtain ⟨d0,d1,d2,d3,d4⟩ := hnode
      obtain ⟨e0,e1,e2,e3,e4⟩ := hnode'
      have D0 := above_cell d0; have D1 := above_cell d1; have D2 := above_cell d2; have D3 := above_cell d3; have D4 := above_cell d4
      have F0 := above_cell e0; have F1 := above_cell e1; have F2 := above_cell e2; have F3 := above_cell e3; have F4 := above_cell e4
      by_cases hcc : c = c'
      ·have tc : (c.toList == c'.toList) = true := by rw [hcc]; simp
       have HT' := hid ((rM j t ht).onto hbw)
       have HU' := hid ((rM' j u hu).onto hbw)
       have hzt := HTV.out j t ht
       have HSTEP := hid (fun X : Abv wr => ih t u (p j) (q j) (p' j) (q' j) X.u (by omega) (HT'.out.onto X.h) (HU'.out.onto X.h))
       simp only [vv] at HSTEP
       have HCC := hid hcc
       clear hcc
       cases hq : sameT lo t u with
       | true =>
        rw [hq] at HSTEP
        go_wp2_with fail
        have hinh := abv_some wr
        refine wp_region_above (by kernel_rfl) (by kernel_rfl) ?_
        repeat (go_big_quiet_step ((go_at_call 295; exact above_of (HSTEP.out _))))
        refine wpQuiet_nil ?_
        intro _ hw'
        obtain ⟨X,hX⟩ := hw'
        subst hX
        go_wp2_with fail
        refine ⟨?_,?_⟩
        ·repeat apply Exists.intro
         exact ⟨⟨j + 1,hlt,val_int (by omega),fun i hi => by
          by_cases hij : i = j
          ·subst hij
           refine ⟨by rw [hc,hc',HCC.out],fun t' u' h1 h2 => ?_⟩
           rw [ht] at h1; rw [hu] at h2; cases h1; cases h2; exact hq
          ·exact HJ.out i (by omega),hbel.trans (X.h.mono (by have := hbel.size; simp at this; omega))⟩,rfl⟩
        ·simp [intOf]; omega
       | false =>
        rw [hq] at HSTEP
        have HF := hid (show res = false by
         rw [HR.out]
         have : sameL lo V V' = false := by
          rw [Bool.eq_false_iff]; intro hc
          have := (sameL_get lo V V' E4.out).1 hc j t u ht hu
          rw [hq] at this; cases this
         rw [this]; simp)
        go_wp2_with fail
        have hinh := abv_some wr
        refine wp_region_above (by kernel_rfl) (by kernel_rfl) ?_
        repeat (go_big_quiet_step ((go_at_call 295; exact above_of (HSTEP.out _))))
        refine wpQuiet_nil ?_
        intro _ hw'
        obtain ⟨X,hX⟩ := hw'
        subst hX
        go_wp2_with fail
        go_ret
        exact ⟨ret_bool HF.out.symm,hbw.trans (X.h.mono hbw.size)⟩
      ·have tc := str_ne c c' hcc
       have HF := hid (show res = false by
        rw [HR.out]
        have : decide (K = K') = false := by
         rw [decide_eq_false_iff_not]; intro hKe
         rw [hKe,hc'] at hc; cases hc; exact hcc rfl
        rw [this]; simp)
       clear hcc
       go_wp2_with fail
       have hinh := abv_some wr
       refine wp_region_above (by kernel_rfl) (by kernel_rfl) ?_
       repeat (go_big_quiet_step (fail))
       refine wpQuiet_nil ?_
       intro _ hw'
       obtain ⟨X,hX⟩ := hw'
       subst hX
       go_wp2_with fail
       go_ret
       exact ⟨ret_bool HF.out.symm,hbw.trans (X.h.mono hbw.size)⟩
     ·have HF := hid (show res = true by
       rw [HR.out,hstr,HLL.out]
       have h1 : sameL lo V V' = true := (sameL_get lo V V' E4.out).2 fun i t u g1 g2 => (HJ.out i (by
        have : i < V.length := by
         apply Classical.byContradiction; intro hc
         rw [List.getElem?_eq_none (by omega)] at g1; cases g1
        omega)).2 t u g1 g2
       have h2 : K = K' := by
        apply List.ext_getElem?
        intro i
        by_cases hi : i < j
        ·exact (HJ.out i hi).1
        ·have := E4.out
         rw [List.getElem?_eq_none (by omega),List.getElem?_eq_none (by omega)]
       rw [h1,decide_eq_true h2]; rfl)
      clear HJ
      go_wp2_with fail
      go_ret
      exact ⟨ret_bool HF.out.symm,hbw⟩
 ·have HF := hid (show res = false by rw [HE.out,decide_eq_false hlab]; rfl)
  by_cases h1 : k = k'
  ·have t1 : (k != k') = false := by simpa using h1
   by_cases h2 : n = n'
   ·have t2 : (n != n') = false := by simpa using h2
    by_cases h3 : L.length = L'.length
    ·have t3 : ((L.length : Int) != (L'.length : Int)) = false := by rw [h3]; simp
     have t4 : ((V.length : Int) != (V'.length : Int)) = true := by
      rw [bne_iff_ne]; intro hc; exact hlab ⟨h1,h2,h3,by omega⟩
     clear hlab h1 h2 h3
     go_enter Tryz.func295,Tryz.ntmps295
     go_wp2_with fail
     go_ret
     exact ⟨ret_bool HF.out.symm,((Below.refl _ _).alloc (Nat.le_refl _) _).alloc (by simp) _⟩
    ·have t3 : ((L.length : Int) != (L'.length : Int)) = true := by rw [bne_iff_ne]; omega
     clear hlab h1 h2 h3
     go_enter Tryz.func295,Tryz.ntmps295
     go_wp2_with fail
     go_ret
     exact ⟨ret_bool HF.out.symm,((Below.refl _ _).alloc (Nat.le_refl _) _).alloc (by simp) _⟩
   ·have t2 : (n != n') = true := by simpa using h2
    clear hlab h1 h2
    go_enter Tryz.func295,Tryz.ntmps295
    go_wp2_with fail
    go_ret
    exact ⟨ret_bool HF.out.symm,((Below.refl _ _).alloc (Nat.le_refl _) _).alloc (by simp) _⟩
  ·have t1 : (k != k') = true := by simpa using h1
   clear hlab h1
   go_enter Tryz.func295,Tryz.ntmps295
   go_wp2_with fail
   go_ret
   exact ⟨ret_bool HF.out.symm,((Below.refl _ _).alloc (Nat.le_refl _) _).alloc (by simp) _⟩
set_option maxRecDepth 100000 in
set_option maxHeartbeats 400000 in
theorem lit_same (s t : ByteArray) (X : World) (_ : s.size ≤ maxLen) (_ : t.size ≤ maxLen) : Calls Tryz.prog 296 #[.string s,.string t] X fun e w' => e = .returned (.bool (strB false 3 s t)) ∧ Below X.heap.size X w' := by
 have H := hid (show strB false 3 s t = (s.toList == t.toList) by
  unfold strB
  by_cases h : s = t
  ·rw [decide_eq_true h,h]; simp
  ·rw [decide_eq_false h,str_ne s t h]; rfl)
 go_enter Tryz.func296,Tryz.ntmps296
 go_wp2_with fail
 go_ret
 exact ⟨ret_bool H.out.symm,Below.refl _ _⟩
set_option maxRecDepth 100000 in
set_option maxHeartbeats 400000 in
theorem vsame_any (T U : VT) (x y x' y' : Value) (w : World) (hT : HV w T x y) (hU : HV w U x' y') :
  Calls Tryz.prog 262 #[vv T x y,vv U x' y'] w fun e w' => e = .returned (.bool (sameT false T U)) ∧ Below w.heap.size w w' := by
 have HSTEP : Hid (∀ X : World,Below w.heap.size w X → _) := fun X hX => call_above hX (alike_any 296 false (enters_of Tryz.func296 (by kernel_rfl) rfl) lit_same (szT T) T U x y x' y' X (Nat.le_refl _) (hT.onto hX) (hU.onto hX))
 obtain ⟨o1,n1,c1,o2,n2,c2,rfl,rfl⟩ := hv_slices hT
 obtain ⟨p1,m1,k1,p2,m2,k2,rfl,rfl⟩ := hv_slices hU
 clear hT hU
 simp only [vv] at HSTEP ⊢
 go_enter Tryz.func262,Tryz.ntmps262
 go_wp2_with (go_at_call 295; go_must (refine (HSTEP.out _ ?_).mono ?_; (repeat (first | exact Below.refl _ _ | apply valloc_bel | (refine vset_bel ?_ (by simp)))); rintro e w1 ⟨rfl,hb1⟩))
 go_ret
 exact ⟨rfl,hb1⟩
def leafT (k n : Int) (s : ByteArray) : VT := .mk k n s [] [] []
theorem hv_leaf (w : World) (k n : Int) (s : ByteArray) (hk : (Lit.int .i64 k).wf = true) (hn : (Lit.int .i64 n).wf = true) (hs : s.size ≤ maxLen) : HV w (leafT k n s) (.slice none 0 0) (.slice none 0 0) :=
 (hf_of (lo := 0) (m := 0) (hi := 0) hk hn hs (Nat.le_refl _) (Nat.le_refl _) (lf_nil w 0 0) (mf_nil w 0 0)).hv
theorem intV_wf (l : List UInt8) : (Lit.int .i64 (intV l)).wf = true := by
 have h : -9223372036854775808 ≤ intV l ∧ intV l ≤ 9223372036854775807 := by
  unfold intV
  cases hb : intB l with
  | false => simp
  | true =>
   unfold intB at hb
   simp only [Bool.and_eq_true] at hb
   have h5 := hb.2
   cases hn : pNeg l with
   | true => rw [hn] at h5; simp at h5 ⊢; omega
   | false => rw [hn] at h5; simp at h5 ⊢; omega
 simp [Lit.wf,IntKind.min,IntKind.max,IntKind.signed,IntKind.bits]; omega
def numR (s : ByteArray) : VT := if numB s.data.toList then (if intB s.data.toList then leafT 2 (intV s.data.toList) ⟨#[]⟩ else leafT 3 0 s) else zeroT
def numE (s : ByteArray) : Int := if numB s.data.toList then 0 else 1
def strR (s : ByteArray) : VT := if teI s = 0 then leafT 4 0 s else zeroT
def stampR (s : ByteArray) : VT := if stampB s then leafT 7 0 s else zeroT
def stampE (s : ByteArray) : Int := if stampB s then 0 else 1
theorem box_row {w w1 : World} {c : Array Value} {t : TypeId} (h : Below (w.alloc (.cells c t)).heap.size (w.alloc (.cells c t)) w1) : Row w1 w.heap.size t c.size := (Row.new w c t).onto (h.block _ (by simp))
theorem dint_above {P : Program} {f : FuncId} {args : Array Value} {w x : World} {v : Ending} {b m : Nat} {t : TypeId} (hx : Below w.heap.size w x) (hr : Row x b t m) (h : Below w.heap.size w x → Calls P f args x fun e w' => e = v ∧ Below x.heap.size x w') : Calls P f args x fun e w' => e = v ∧ Below w.heap.size w w' ∧ Row w' b t m :=
 (h hx).mono fun _ _ ⟨he,hb⟩ => ⟨he,vonto hx hb,hr.onto (hb.block _ hr.lt)⟩
set_option maxRecDepth 100000 in
set_option maxHeartbeats 400000 in
theorem vint_any (n : Int) (w : World) :
  Calls Tryz.prog 193 #[.int .i64 n] w fun e w' => e = .returned (vv (leafT 2 n ⟨#[]⟩) (.slice none 0 0) (.slice none 0 0)) ∧ Below w.heap.size w w' := by
 go_enter Tryz.func193,Tryz.ntmps193
 go_wp2_with fail
 refine bodyPost_ret (v := vv (leafT 2 n ⟨#[]⟩) (.slice none 0 0) (.slice none 0 0)) (by simp [results,Tryz.results193,go_sem,vv,leafT,VT.kd,VT.nm,VT.st]) rfl ⟨rfl,?_⟩
 repeat (first | exact Below.refl _ _ | apply valloc_bel | (refine vset_bel ?_ (by simp)))
set_option maxRecDepth 100000 in
set_option maxHeartbeats 400000 in
theorem vnull_any (w : World) :
  Calls Tryz.prog 188 #[] w fun e w' => e = .returned (vv zeroT (.slice none 0 0) (.slice none 0 0)) ∧ Below w.heap.size w w' := by
 go_enter Tryz.func188,Tryz.ntmps188
 go_wp2_with fail
 refine bodyPost_ret (v := vv zeroT (.slice none 0 0) (.slice none 0 0)) (by simp [results,Tryz.results188,go_sem,vv,zeroT,VT.kd,VT.nm,VT.st]) rfl ⟨rfl,?_⟩
 repeat (first | exact Below.refl _ _ | apply valloc_bel | (refine vset_bel ?_ (by simp)))
set_option maxRecDepth 100000 in
set_option maxHeartbeats 400000 in
theorem vtrue_any (w : World) :
  Calls Tryz.prog 189 #[.bool true] w fun e w' => e = .returned (vv (leafT 1 1 ⟨#[]⟩) (.slice none 0 0) (.slice none 0 0)) ∧ Below w.heap.size w w' := by
 go_enter Tryz.func189,Tryz.ntmps189
 go_wp2_with fail
 refine bodyPost_ret (v := vv (leafT 1 1 ⟨#[]⟩) (.slice none 0 0) (.slice none 0 0)) (by simp [results,Tryz.results189,go_sem,vv,leafT,VT.kd,VT.nm,VT.st]) rfl ⟨rfl,?_⟩
 repeat (first | exact Below.refl _ _ | apply valloc_bel | (refine vset_bel ?_ (by simp)))
set_option maxRecDepth 100000 in
set_option maxHeartbeats 400000 in
theorem vstr_any (s : ByteArray) (w : World) (hs : s.size ≤ maxLen) :
  Calls Tryz.prog 141 #[.string s] w fun e w' => e = .returned (.tuple #[vv (strR s) (.slice none 0 0) (.slice none 0 0),.int .i64 (teI s)]) ∧ Below w.heap.size w w' := by
 have te := hid (fun X => terr_any s X hs)
 have HR := hid (show strR s = if teI s = 0 then leafT 4 0 s else zeroT from rfl)
 generalize strR s = R at HR ⊢
 generalize teI s = z at te HR ⊢
 by_cases hz : z = 0
 ·have tz : (z != 0) = false := by simpa using hz
  rw [if_pos hz] at HR
  have HZ := hid hz
  clear hz
  go_enter Tryz.func141,Tryz.ntmps141
  go_wp2_with (go_at_call 197; go_must (refine (te.out _).mono ?_; rintro e w1 ⟨rfl,rfl⟩))
  refine bodyPost_ret (v := .tuple #[vv (leafT 4 0 s) (.slice none 0 0) (.slice none 0 0),.int .i64 0]) (by simp [results,Tryz.results141,go_sem,vv,leafT,VT.kd,VT.nm,VT.st]) rfl ⟨by rw [HR.out,HZ.out],?_⟩
  repeat (first | exact Below.refl _ _ | apply valloc_bel | (refine vset_bel ?_ (by simp)))
 ·have tz : (z != 0) = true := by simpa using hz
  rw [if_neg hz] at HR
  clear hz
  go_enter Tryz.func141,Tryz.ntmps141
  go_wp2_with (go_at_call 197; go_must (refine (te.out _).mono ?_; rintro e w1 ⟨rfl,rfl⟩))
  refine bodyPost_ret (v := .tuple #[vv zeroT (.slice none 0 0) (.slice none 0 0),.int .i64 z]) (by simp [results,Tryz.results141,go_sem,vv,zeroT,VT.kd,VT.nm,VT.st]) rfl ⟨by rw [HR.out],?_⟩
  repeat (first | exact Below.refl _ _ | apply valloc_bel | (refine vset_bel ?_ (by simp)))
set_option maxRecDepth 100000 in
set_option maxHeartbeats 400000 in
theorem vstamp_any (s : ByteArray) (w : World) (hs : s.size ≤ maxLen) :
  Calls Tryz.prog 196 #[.string s] w fun e w' => e = .returned (.tuple #[vv (stampR s) (.slice none 0 0) (.slice none 0 0),.int .i64 (stampE s)]) ∧ Below w.heap.size w w' := by
 have gs := hid (fun X => gstamp_any s X hs)
 have HR := hid (show stampR s = (if stampB s then leafT 7 0 s else zeroT) ∧ stampE s = (if stampB s then 0 else 1) from ⟨rfl,rfl⟩)
 generalize stampR s = R at HR ⊢
 generalize stampE s = E at HR ⊢
 generalize stampB s = z at gs HR
 cases z
 all_goals
  simp only [if_true,if_false,Bool.false_eq_true] at HR
  go_enter Tryz.func196,Tryz.ntmps196
  go_wp2_with fail
  go_at_call 199
  refine (gs.out _).mono ?_
  rintro e w1 ⟨rfl,hb1⟩
  have R0 := hid (box_row hb1)
  have HB1 := hid (vonto (valloc_bel (Below.refl w.heap.size w) _) hb1)
  clear hb1
  obtain ⟨u0,e0⟩ := R0.out.cell (o := 0) (by decide)
  obtain ⟨u1,e1⟩ := R0.out.cell (o := 1) (by decide)
  obtain ⟨u2,e2⟩ := R0.out.cell (o := 2) (by decide)
  obtain ⟨u3,e3⟩ := R0.out.cell (o := 3) (by decide)
  obtain ⟨u4,e4⟩ := R0.out.cell (o := 4) (by decide)
  have z0 := R0.out.frozen
  go_wp2_with fail
 ·refine bodyPost_ret (v := .tuple #[vv zeroT (.slice none 0 0) (.slice none 0 0),.int .i64 1]) (by simp [results,Tryz.results196,go_sem,vv,zeroT,VT.kd,VT.nm,VT.st,e0,e1,e2,e3,e4]) rfl ⟨by rw [HR.out.1,HR.out.2],?_⟩
  repeat (first | exact HB1.out | (refine vset_bel ?_ (by simp)))
 ·refine bodyPost_ret (v := .tuple #[vv (leafT 7 0 s) (.slice none 0 0) (.slice none 0 0),.int .i64 0]) (by simp [results,Tryz.results196,go_sem,vv,leafT,VT.kd,VT.nm,VT.st,e0,e1,e2,e3,e4]) rfl ⟨by rw [HR.out.1,HR.out.2],?_⟩
  repeat (first | exact HB1.out | (refine vset_bel ?_ (by simp)))
set_option maxRecDepth 100000 in
set_option maxHeartbeats 2000000 in
theorem vnum_any (s : ByteArray) (w : World) (hg : Glob w) (hs : s.size ≤ maxLen) :
  Calls Tryz.prog 137 #[.string s] w fun e w' => e = .returned (.tuple #[vv (numR s) (.slice none 0 0) (.slice none 0 0),.int .i64 (numE s)]) ∧ Below w.heap.size w w' := by
 have dg := hid (fun X => dgood_max s X hs)
 have di := hid (fun X (hX : Below w.heap.size w X) => dint_max s X (hg.on hX) hs)
 have vi := hid (fun n X => vint_any n X)
 simp only [vv] at vi
 have HR := hid (show numR s = (if numB s.data.toList then (if intB s.data.toList then leafT 2 (intV s.data.toList) ⟨#[]⟩ else leafT 3 0 s) else zeroT) ∧ numE s = (if numB s.data.toList then 0 else 1) from ⟨rfl,rfl⟩)
 generalize numR s = R at HR ⊢
 generalize numE s = E at HR ⊢
 generalize numB s.data.toList = a at dg HR
 generalize intB s.data.toList = b at di HR
 generalize intV s.data.toList = v at di HR
 clear hg
 cases a with
 | false =>
  simp only [if_false,Bool.false_eq_true] at HR
  go_enter Tryz.func137,Tryz.ntmps137
  go_wp2_with fail
  go_at_call 136
  refine (dg.out _).mono ?_
  rintro e w1 ⟨rfl,hb1⟩
  have R0 := hid (box_row hb1)
  have HB1 := hid (vonto (valloc_bel (Below.refl w.heap.size w) _) hb1)
  clear hb1
  obtain ⟨u0,e0⟩ := R0.out.cell (o := 0) (by decide)
  obtain ⟨u1,e1⟩ := R0.out.cell (o := 1) (by decide)
  obtain ⟨u2,e2⟩ := R0.out.cell (o := 2) (by decide)
  obtain ⟨u3,e3⟩ := R0.out.cell (o := 3) (by decide)
  obtain ⟨u4,e4⟩ := R0.out.cell (o := 4) (by decide)
  have z0 := R0.out.frozen
  go_wp2_with fail
  refine bodyPost_ret (v := .tuple #[vv zeroT (.slice none 0 0) (.slice none 0 0),.int .i64 1]) (by simp [results,Tryz.results137,go_sem,vv,zeroT,VT.kd,VT.nm,VT.st,e0,e1,e2,e3,e4]) rfl ⟨by rw [HR.out.1,HR.out.2],?_⟩
  repeat (first | exact HB1.out | (refine vset_bel ?_ (by simp)))
 | true =>
  cases b with
  | false =>
   simp only [if_true,if_false,Bool.false_eq_true] at HR
   go_enter Tryz.func137,Tryz.ntmps137
   go_wp2_with fail
   go_at_call 136
   refine (dg.out _).mono ?_
   rintro e w1 ⟨rfl,hb1⟩
   have R1 := hid (box_row hb1)
   have HB1 := hid (vonto (valloc_bel (Below.refl w.heap.size w) _) hb1)
   clear hb1
   go_wp2_with fail
   go_at_call 192
   refine (dint_above HB1.out R1.out (di.out _)).mono ?_
   rintro e w2 ⟨rfl,hb2,R0⟩
   obtain ⟨u0,e0⟩ := R0.cell (o := 0) (by decide)
   obtain ⟨u1,e1⟩ := R0.cell (o := 1) (by decide)
   obtain ⟨u2,e2⟩ := R0.cell (o := 2) (by decide)
   obtain ⟨u3,e3⟩ := R0.cell (o := 3) (by decide)
   obtain ⟨u4,e4⟩ := R0.cell (o := 4) (by decide)
   have z0 := R0.frozen
   go_wp2_with fail
   refine bodyPost_ret (v := .tuple #[vv (leafT 3 0 s) (.slice none 0 0) (.slice none 0 0),.int .i64 0]) (by simp [results,Tryz.results137,go_sem,vv,leafT,VT.kd,VT.nm,VT.st,e0,e1,e2,e3,e4]) rfl ⟨by rw [HR.out.1,HR.out.2],?_⟩
   repeat (first | exact hb2 | (refine vset_bel ?_ (by simp)))
  | true =>
   simp only [if_true] at HR
   go_enter Tryz.func137,Tryz.ntmps137
   go_wp2_with fail
   go_at_call 136
   refine (dg.out _).mono ?_
   rintro e w1 ⟨rfl,hb1⟩
   have R1 := hid (box_row hb1)
   have HB1 := hid (vonto (valloc_bel (Below.refl w.heap.size w) _) hb1)
   clear hb1
   go_wp2_with fail
   go_at_call 192
   refine (dint_above HB1.out R1.out (di.out _)).mono ?_
   rintro e w2 ⟨rfl,hb2,R2⟩
   have HR2 := hid R2
   have HB2 := hid hb2
   clear R2 hb2
   go_wp2_with fail
   go_at_call 193
   refine (vi.out _ _).mono ?_
   rintro e w3 ⟨rfl,hb3⟩
   have R0 := hid (HR2.out.onto (hb3.block _ HR2.out.lt))
   have HB3 := hid (vonto HB2.out hb3)
   clear hb3
   obtain ⟨u0,e0⟩ := R0.out.cell (o := 0) (by decide)
   obtain ⟨u1,e1⟩ := R0.out.cell (o := 1) (by decide)
   obtain ⟨u2,e2⟩ := R0.out.cell (o := 2) (by decide)
   obtain ⟨u3,e3⟩ := R0.out.cell (o := 3) (by decide)
   obtain ⟨u4,e4⟩ := R0.out.cell (o := 4) (by decide)
   have z0 := R0.out.frozen
   go_wp2_with fail
   refine bodyPost_ret (v := .tuple #[vv (leafT 2 v ⟨#[]⟩) (.slice none 0 0) (.slice none 0 0),.int .i64 0]) (by simp [results,Tryz.results137,go_sem,vv,leafT,VT.kd,VT.nm,VT.st,e0,e1,e2,e3,e4]) rfl ⟨by rw [HR.out.1,HR.out.2],?_⟩
   repeat (first | exact HB3.out | (refine vset_bel ?_ (by simp)))
theorem list_wf : (Lit.int .i64 5).wf = true ∧ (Lit.int .i64 6).wf = true ∧ (Lit.int .i64 0).wf = true := by decide
set_option maxRecDepth 100000 in
set_option maxHeartbeats 1000000 in
theorem vlist_any (L : List VT) (x : Value) (w : World) (hx : InL w L x) (hl : szL L ≤ 999999) :
  Calls Tryz.prog 190 #[x] w fun e w' => ∃ X,e = .returned (vv (.mk 5 0 ⟨#[]⟩ L [] []) X (.slice none 0 0)) ∧ HF w' w.heap.size w'.heap.size (.mk 5 0 ⟨#[]⟩ L [] []) X (.slice none 0 0) ∧ Below w.heap.size w w' := by
 have hC : ∀ (i : Nat) (t : VT),L[i]? = some t → CopyOk t := fun i t h => vcopy_any (szT t) t (Nat.le_refl _) (by have := szL_get L i t h; omega)
 have hlen : L.length ≤ 1000000 := by have := len_szL L; omega
 have HLL := hid (fun (X : World) (hX : Below w.heap.size w X) => copylist_of L x X hC (hx.onto hX) hlen)
 obtain ⟨o,n,c,rfl⟩ : ∃ o n c,x = .slice o n c := by obtain ⟨a,f,g,⟨o,cap,rfl,-⟩,-⟩ := hx; exact ⟨_,_,_,rfl⟩
 clear hC hx
 go_enter Tryz.func190,Tryz.ntmps190
 go_wp2_with fail
 go_at_call 111
 refine (HLL.out _ (valloc_bel (Below.refl _ _) _)).mono ?_
 rintro e w1 ⟨X,rfl,hX,hb1⟩
 obtain ⟨pX,nX,cX,rfl⟩ := hX.slice
 have HX := hid hX
 have R0 := hid (box_row hb1)
 have HB1 := hid (vonto (valloc_bel (Below.refl w.heap.size w) _) hb1)
 have hs1 : w.heap.size + 1 ≤ w1.heap.size := by have := hb1.size; simpa using this
 clear hb1 hX
 obtain ⟨u0,e0⟩ := R0.out.cell (o := 0) (by decide)
 obtain ⟨u1,e1⟩ := R0.out.cell (o := 1) (by decide)
 obtain ⟨u2,e2⟩ := R0.out.cell (o := 2) (by decide)
 obtain ⟨u3,e3⟩ := R0.out.cell (o := 3) (by decide)
 obtain ⟨u4,e4⟩ := R0.out.cell (o := 4) (by decide)
 have z0 := R0.out.frozen
 go_wp2_with fail
 refine bodyPost_ret (v := vv (.mk 5 0 ⟨#[]⟩ L [] []) (.slice pX nX cX) (.slice none 0 0)) (by simp [results,Tryz.results190,go_sem,vv,VT.kd,VT.nm,VT.st,e0,e1,e2,e3,e4]) rfl ⟨_,rfl,?_,?_⟩
 ·change HF (put5 w1 w.heap.size 0 (.int .i64 5) (.int .i64 0) (.string ⟨#[]⟩) (.slice pX nX cX) (.slice none 0 0)) w.heap.size (put5 w1 w.heap.size 0 (.int .i64 5) (.int .i64 0) (.string ⟨#[]⟩) (.slice pX nX cX) (.slice none 0 0)).heap.size _ _ _
  rw [put5_size]
  have hLF := HX.out
  simp only [World.size_alloc] at hLF
  refine hf_of (m := w1.heap.size) list_wf.1 list_wf.2.2 (by decide) (by omega) (Nat.le_refl _) ?_ (mf_nil _ _ _)
  exact (hLF.onto (fun k g1 g2 => put5_heap _ _ _ _ _ _ _ _ _ (by omega))).wide (by omega) (Nat.le_refl _)
 ·exact vset_bel (vset_bel (vset_bel (vset_bel (vset_bel HB1.out (by simp)) (by simp)) (by simp)) (by simp)) (by simp)
end Go.Proofs.YteimbjamnfkapaaGreatDoor
