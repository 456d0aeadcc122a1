/- value.Good, walked, with its counter. -/
import Derived.Test.YteimbjamnfkapaaGreatDoorLFlA
import Derived.Test.YteimbjamnfkapaaGreatDoorLVBase
import Derived.Test.YteimbjamnfkapaaGreatDoorLTpC
import Derived.Test.YteimbjamnfkapaaGreatDoorLPathTwo
import Derived.Test.YteimbjamnfkapaaGreatDoorLPathDoc
import Derived.Test.YteimbjamnfkapaaGreatDoorLPathEvery
/- tprint.May. -/
/- Plain mathematics of paths: their order is one; what is written is read back. -/
namespace Go.Proofs.YteimbjamnfkapaaGreatDoor
open Go.RowKit
theorem HV.over {w w' : World} {T : VT} {x y : Value} (h : HV w T x y) (hb : Below w.heap.size w w') : HV w' T x y := h.onto hb
set_option maxRecDepth 100000 in
set_option maxHeartbeats 2000000 in
theorem wgood_any : ∀ (N : Nat) (T : VT) (x y : Value) (bw : Nat) (c d : Int) (w0 w : World),szT T ≤ N → HV w0 T x y → Glob w0 → Below w0.heap.size w0 w → w0.heap.size ≤ bw → Row w bw 137 1 → w.cell? ⟨bw,0,none⟩ = some (.int .i64 c) → 0 ≤ c ∧ c ≤ 1000000 → 1 ≤ d ∧ d ≤ 1000000 →
  Calls Tryz.prog 82 #[.pointer (some ⟨bw,0,none⟩),vv T x y,.int .i64 d] w fun e w' => e = .returned (.bool (mayB c d T)) ∧ Chg bw (bw + 1) w w' ∧ Row w' bw 137 1 ∧ (mayB c d T = true → w'.cell? ⟨bw,0,none⟩ = some (.int .i64 (c + szT T))) := by
 intro N
 induction N with
 | zero => intro T x y bw c d w0 w h; have := szT_pos T; omega
 | succ N ih =>
 intro T x y bw c d w0 w hN hT hg hb hbw hrow hcell hc hd
 have HTL := hid (fun i t h => szT_ls T i t h)
 have HTV := hid (fun i t h => szT_vs T i t h)
 have HT := hid hT
 have HG := hid hg
 have HB := hid hb
 obtain ⟨a,b,f,g,p,q,oL,oM,capL,capM,rfl,rfl,hl1,hl2,hL3,hM3,hK,hs,-,-,cL,cK,cM,rL,rM,-,-⟩ := hT.parts
 clear hT hb hg
 have hlt : bw < w.heap.size := hrow.lt
 have hfr := hrow.frozen
 have HROW := hid hrow
 have gn := hid (fun X (hX : Below w0.heap.size w0 X) => gnode_any T _ _ X (HG.out.on hX) (HT.out.onto hX))
 simp only [vv] at gn ⊢
 have HY := hid (fun h => good_node (c := c) (d := d) (T := T) h)
 have HYL := hid (fun h => good_ls (c := c) (d := d) (T := T) h)
 have HYV := hid (fun h => good_vs (c := c) (d := d) (T := T) h)
 have HYA := hid (fun h1 h2 h3 h4 h5 => good_all (c := c) (d := d) (T := T) h1 h2 h3 h4 h5)
 have HSZ := hid (sz_both T)
 generalize hres : mayB c d T = res at HY HYL HYV HYA ⊢
 clear hres
 generalize hL : T.ls = L at *
 generalize hV : T.vs = V at *
 generalize hKK : T.ks = K at *
 generalize szT T = zz at *
 generalize T.kd = k at *
 generalize T.nm = n at *
 generalize T.st = s at *
 clear hL hV hKK hs
 generalize hnb : nodeB T = nb at *
 clear hnb HT
 have HW1 : Hid (∀ o u,Below w0.heap.size w0 ((w.setCell ⟨bw,0,none⟩ u).alloc o)) := fun o u => (HB.out.setCell hbw u).alloc (by have := HB.out.size; simpa using this) o
 have HCH : Hid (∀ o u,Chg bw (bw + 1) w ((w.setCell ⟨bw,0,none⟩ u).alloc o)) := fun o u => ((Chg.refl bw (bw + 1) w).setCell (p := ⟨bw,0,none⟩) (Or.inl (show bw ≤ bw ∧ bw < bw + 1 by omega)) u).alloc o
 have HRW : Hid (∀ o u,Row ((w.setCell ⟨bw,0,none⟩ u).alloc o) bw 137 1) := fun o u => (HROW.out.set _ _).onto (Below.heap_alloc _ _ _ (by simpa using hlt))
 have HCW : Hid (∀ o u,((w.setCell ⟨bw,0,none⟩ u).alloc o).cell? ⟨bw,0,none⟩ = some u) := fun o u => by
  rw [World.cell?_alloc_lt _ _ _ (by simpa using hlt)]
  exact set_same HROW.out (by decide) u
 have hne : ¬ bw = w.heap.size := by omega
 by_cases h1 : c + 1 > 4096
 ·have HR := hid (show res = false by
   cases res with
   | false => rfl
   | true => have := (HY.out rfl).1; omega)
  go_enter Tryz.func82,Tryz.ntmps82
  go_wp2_with fail
  go_ret
  exact ⟨ret_bool HR.out.symm,HCH.out _ _,HRW.out _ _,fun h => by rw [HR.out] at h; cases h⟩
 by_cases h2 : d > 32
 ·have HR := hid (show res = false by
   cases res with
   | false => rfl
   | true => have := (HY.out rfl).2.1; omega)
  go_enter Tryz.func82,Tryz.ntmps82
  go_wp2_with fail
  go_ret
  exact ⟨ret_bool HR.out.symm,HCH.out _ _,HRW.out _ _,fun h => by rw [HR.out] at h; cases h⟩
 cases nb with
 | false =>
  have HR := hid (show res = false by
   cases res with
   | false => rfl
   | true => exact absurd (HY.out rfl).2.2 (by decide))
  go_enter Tryz.func82,Tryz.ntmps82
  go_wp2_with (go_at_call 142; go_must (refine (gn.out _ (HW1.out _ _)).mono ?_; rintro e w1 ⟨rfl,hb1⟩))
  go_ret
  exact ⟨ret_bool HR.out.symm,(HCH.out _ _).trans (Chg.of hb1),(HRW.out _ _).onto (hb1.block _ (by simp; omega)),fun h => by rw [HR.out] at h; cases h⟩
 | true =>
  go_enter Tryz.func82,Tryz.ntmps82
  go_wp2_with fail
  go_at_call 142
  refine (gn.out _ (HW1.out _ _)).mono ?_
  rintro e w1 ⟨rfl,hb1⟩
  have HB1 := hid hb1
  obtain ⟨W1,hW1⟩ : ∃ W1,W1 = (w.setCell ⟨bw,0,none⟩ (.int .i64 (c + 1))).alloc (.cells #[.int .i64 k,.int .i64 n,.string s,.slice oL L.length capL,.slice oM V.length capM] 29) := ⟨_,rfl⟩
  have HCHW := hid (HCH.out (.cells #[.int .i64 k,.int .i64 n,.string s,.slice oL L.length capL,.slice oM V.length capM] 29) (.int .i64 (c + 1)))
  have HRWW := hid (HRW.out (.cells #[.int .i64 k,.int .i64 n,.string s,.slice oL L.length capL,.slice oM V.length capM] 29) (.int .i64 (c + 1)))
  have HCWW := hid (HCW.out (.cells #[.int .i64 k,.int .i64 n,.string s,.slice oL L.length capL,.slice oM V.length capM] 29) (.int .i64 (c + 1)))
  have HWW := hid (HW1.out (.cells #[.int .i64 k,.int .i64 n,.string s,.slice oL L.length capL,.slice oM V.length capM] 29) (.int .i64 (c + 1)))
  have HBX3 := hid (show W1.cell? ⟨w.heap.size,3,none⟩ = some (.slice oL L.length capL) by
   have hnew := World.cell?_alloc_new (w.setCell ⟨bw,0,none⟩ (.int .i64 (c + 1))) #[.int .i64 k,.int .i64 n,.string s,.slice oL L.length capL,.slice oM V.length capM] 29 3
   rw [World.size_setCell] at hnew
   rw [hW1]; exact hnew)
  have HBX4 := hid (show W1.cell? ⟨w.heap.size,4,none⟩ = some (.slice oM V.length capM) by
   have hnew := World.cell?_alloc_new (w.setCell ⟨bw,0,none⟩ (.int .i64 (c + 1))) #[.int .i64 k,.int .i64 n,.string s,.slice oL L.length capL,.slice oM V.length capM] 29 4
   rw [World.size_setCell] at hnew
   rw [hW1]; exact hnew)
  have hWs : W1.heap.size = w.heap.size + 1 := by rw [hW1]; simp
  rw [← hW1] at HCHW HRWW HCWW HWW HB1
  clear hb1 hW1 HW1 HCH HRW HCW
  have hx3 := keepCell HB1.out HBX3.out
  have HZ : Hid (∀ X,Chg bw (bw + 1) W1 X → Below w0.heap.size w0 X) := fun X hX => HWW.out.trans (hX.below hbw HWW.out.size)
  go_wp2_with fail
  go_loopw [35] (fun i wr => ∃ j : Nat,j ≤ L.length ∧ i = .int .i64 j ∧ Hid (Chg bw (bw + 1) W1 wr) ∧ Hid (Row wr bw 137 1) ∧ Hid (wr.cell? ⟨bw,0,none⟩ = some (.int .i64 (c + 1 + szL (L.take j)))) ∧ Hid (∀ (i : Nat) (t : VT),i < j → L[i]? = some t → d + 1 + hgT t ≤ 33 ∧ plainT t = true) ∧ c + 1 + szL (L.take j) ≤ 4096) (fun i _ => L.length - (intOf i).toNat)
  case atStart =>
   exact ⟨0,Nat.zero_le _,rfl,Chg.of HB1.out,HRWW.out.onto (HB1.out.block _ HRWW.out.lt),(keepCell HB1.out HCWW.out).trans (by simp [szL]),fun i t h => absurd h (Nat.not_lt_zero _),by simp [szL]; omega⟩
  case round =>
   obtain ⟨j,hj,rfl,HCg,HRw,HCl,HJ,hcj⟩ := hrel
   have hbw0 := HZ.out _ HCg.out
   by_cases hlt2 : j < L.length
   ·obtain ⟨t,ht⟩ : ∃ t,L[j]? = some t := ⟨L[j],List.getElem?_eq_getElem hlt2⟩
    obtain rfl := hL3 (by omega)
    obtain ⟨d0,d1,d2,d3,d4⟩ := (cL j t ht).onto hbw0
    obtain ⟨o1,n1,c1,o2,n2,c2,hp,hq⟩ := hv_slices (rL j t ht)
    have HR := hid (rL j t ht)
    rw [hp,hq] at HR
    rw [hp] at d3
    rw [hq] at d4
    have hszs := szL_take_succ L j t ht
    have hstz := HTL.out j t ht
    have HSTEP : Hid (∀ X : World,Below wr.heap.size wr X → Calls Tryz.prog 82 #[.pointer (some ⟨bw,0,none⟩),vv t (.slice o1 n1 c1) (.slice o2 n2 c2),.int .i64 (d + 1)] X fun e w' => e = .returned (.bool (mayB (c + 1 + szL (L.take j)) (d + 1) t)) ∧ Chg bw (bw + 1) wr w' ∧ Row w' bw 137 1 ∧ (mayB (c + 1 + szL (L.take j)) (d + 1) t = true → w'.cell? ⟨bw,0,none⟩ = some (.int .i64 (c + 1 + szL (L.take j) + szT t)))) :=
     fun X hX => (ih t _ _ bw _ (d + 1) w0 X (by omega) HR.out HG.out (hbw0.trans (hX.mono hbw0.size)) hbw (HRw.out.onto (hX.block _ HRw.out.lt)) (keepCell hX HCl.out) ⟨by omega,by omega⟩ ⟨by omega,by omega⟩).mono fun e w' ⟨h1,h2,h3,h4⟩ => ⟨h1,(Chg.of hX).trans h2,h3,h4⟩
    simp only [vv] at HSTEP
    clear hp hq
    cases hm : mayB (c + 1 + szL (L.take j)) (d + 1) t with
    | true =>
     rw [hm] at HSTEP
     have HM := hid (good_sz hm)
     clear hm
     go_wp2_with (go_at_call 82; go_must (refine (HSTEP.out _ ?_).mono ?_; (repeat (first | exact Below.refl _ _ | apply valloc_bel | (refine vset_bel ?_ (by simp)))); rintro e w2 ⟨rfl,hc2,hr2,hcl2⟩))
     go_roundw
     case rel => exact ⟨j + 1,hlt2,val_int (by omega),HCg.out.trans hc2,hr2,(hcl2 (by first | rfl | trivial)).trans (by rw [hszs]; congr 2; omega),fun i t' hi ht' => by
      by_cases hij : i = j
      ·subst hij; rw [ht] at ht'; cases ht'; exact ⟨HM.out.2.1,HM.out.2.2⟩
      ·exact HJ.out i t' (by omega) ht',by have := HM.out.1; omega⟩
     case measure => simp [intOf]; omega
    | false =>
     rw [hm] at HSTEP
     have HR0 := hid (show res = false by
      cases res with
      | false => rfl
      | true => have := HYL.out rfl j t ht; rw [hm] at this; cases this)
     clear hm
     go_wp2_with (go_at_call 82; go_must (refine (HSTEP.out _ ?_).mono ?_; (repeat (first | exact Below.refl _ _ | apply valloc_bel | (refine vset_bel ?_ (by simp)))); rintro e w2 ⟨rfl,hc2,hr2,hcl2⟩))
     go_ret
     exact ⟨ret_bool HR0.out.symm,HCHW.out.trans (HCg.out.trans hc2),hr2,fun h => by rw [HR0.out] at h; cases h⟩
   ·have hjL : j = L.length := by omega
    subst hjL
    rw [List.take_length] at hcj HCl
    have hx4 := (HCg.out.cell (p := ⟨w.heap.size,4,none⟩) (by rw [hWs]; exact Nat.lt_succ_self _) (by show ¬ (bw ≤ w.heap.size ∧ w.heap.size < bw + 1); omega)).trans HBX4.out
    go_wp2_with fail
    clear hx4 hx3
    go_loopw [49] (fun i wr => ∃ j : Nat,j ≤ V.length ∧ i = .int .i64 j ∧ Hid (Chg bw (bw + 1) W1 wr) ∧ Hid (Row wr bw 137 1) ∧ Hid (wr.cell? ⟨bw,0,none⟩ = some (.int .i64 (c + 1 + szL L + szL (V.take j)))) ∧ Hid (∀ (i : Nat) (t : VT),i < j → V[i]? = some t → d + 1 + hgT t ≤ 33 ∧ plainT t = true) ∧ c + 1 + szL L + szL (V.take j) ≤ 4096) (fun i _ => V.length - (intOf i).toNat)
    case atStart => exact ⟨0,Nat.zero_le _,rfl,HCg.out,HRw.out,HCl.out.trans (by simp [szL]),fun i t h => absurd h (Nat.not_lt_zero _),by simp [szL]; omega⟩
    case round =>
     have HJL := HJ
     clear hbw0 HCg HRw HCl HJ hj hlt2
     have HCJ := hid hcj
     clear hcj
     obtain ⟨j,hj,rfl,HCg,HRw,HCl,HJ,hcj⟩ := hrel
     have hbw0 := HZ.out _ HCg.out
     by_cases hlt2 : j < V.length
     ·obtain ⟨t,ht⟩ : ∃ t,V[j]? = some t := ⟨V[j],List.getElem?_eq_getElem hlt2⟩
      obtain ⟨ck,hck⟩ : ∃ c,K[j]? = some c := ⟨K[j],List.getElem?_eq_getElem (by omega)⟩
      obtain rfl := hM3 (by omega)
      have hnode := (cM j t ht).onto hbw0
      simp only [Node,nx] at hnode
      obtain ⟨d0,d1,d2,d3,d4⟩ := hnode
      have k0 := keepCell hbw0 (cK j ck hck).1
      obtain ⟨o1,n1,c1,o2,n2,c2,hp,hq⟩ := hv_slices (rM j t ht)
      have HR := hid (rM j t ht)
      rw [hp,hq] at HR
      rw [hp] at d3
      rw [hq] at d4
      have hszs := szL_take_succ V j t ht
      have hstz := HTV.out j t ht
      have HSTEP : Hid (∀ X : World,Below wr.heap.size wr X → Calls Tryz.prog 82 #[.pointer (some ⟨bw,0,none⟩),vv t (.slice o1 n1 c1) (.slice o2 n2 c2),.int .i64 (d + 1)] X fun e w' => e = .returned (.bool (mayB (c + 1 + szL L + szL (V.take j)) (d + 1) t)) ∧ Chg bw (bw + 1) wr w' ∧ Row w' bw 137 1 ∧ (mayB (c + 1 + szL L + szL (V.take j)) (d + 1) t = true → w'.cell? ⟨bw,0,none⟩ = some (.int .i64 (c + 1 + szL L + szL (V.take j) + szT t)))) :=
       fun X hX => (ih t _ _ bw _ (d + 1) w0 X (by omega) HR.out HG.out (hbw0.trans (hX.mono hbw0.size)) hbw (HRw.out.onto (hX.block _ HRw.out.lt)) (keepCell hX HCl.out) ⟨by omega,by omega⟩ ⟨by omega,by omega⟩).mono fun e w' ⟨h1,h2,h3,h4⟩ => ⟨h1,(Chg.of hX).trans h2,h3,h4⟩
      simp only [vv] at HSTEP
      clear hp hq
      cases hm : mayB (c + 1 + szL L + szL (V.take j)) (d + 1) t with
      | true =>
       rw [hm] at HSTEP
       have HM := hid (good_sz hm)
       clear hm
       go_wp2_with (go_at_call 82; go_must (refine (HSTEP.out _ ?_).mono ?_; (repeat (first | exact Below.refl _ _ | apply valloc_bel | (refine vset_bel ?_ (by simp)))); rintro e w2 ⟨rfl,hc2,hr2,hcl2⟩))
       go_roundw
       case rel => exact ⟨j + 1,hlt2,val_int (by omega),HCg.out.trans hc2,hr2,(hcl2 (by first | rfl | trivial)).trans (by rw [hszs]; congr 2; omega),fun i t' hi ht' => by
        by_cases hij : i = j
        ·subst hij; rw [ht] at ht'; cases ht'; exact ⟨HM.out.2.1,HM.out.2.2⟩
        ·exact HJ.out i t' (by omega) ht',by have := HM.out.1; omega⟩
       case measure => simp [intOf]; omega
      | false =>
       rw [hm] at HSTEP
       have HR0 := hid (show res = false by
        cases res with
        | false => rfl
        | true => have := HYV.out rfl j t ht; rw [hm] at this; cases this)
       clear hm
       go_wp2_with (go_at_call 82; go_must (refine (HSTEP.out _ ?_).mono ?_; (repeat (first | exact Below.refl _ _ | apply valloc_bel | (refine vset_bel ?_ (by simp)))); rintro e w2 ⟨rfl,hc2,hr2,hcl2⟩))
       go_ret
       exact ⟨ret_bool HR0.out.symm,HCHW.out.trans (HCg.out.trans hc2),hr2,fun h => by rw [HR0.out] at h; cases h⟩
     ·have hjV : j = V.length := by omega
      subst hjV
      rw [List.take_length] at hcj HCl
      have HR1 := hid (show res = true from HYA.out (by omega) hcj (by first | rfl | trivial) (fun i t h => HJL.out i t (lt_of_some h) h) (fun i t h => HJ.out i t (lt_of_some h) h))
      go_wp2_with fail
      go_ret
      exact ⟨ret_bool HR1.out.symm,HCHW.out.trans HCg.out,HRw.out,fun _ => HCl.out.trans (by rw [HSZ.out]; congr 2; omega)⟩
set_option maxRecDepth 100000 in
set_option maxHeartbeats 1000000 in
theorem vgood_any (T : VT) (x y : Value) (w : World) (hg : Glob w) (hT : HV w T x y) :
  Calls Tryz.prog 43 #[vv T x y] w fun e w' => e = .returned (.bool (mayB 0 1 T)) ∧ Below w.heap.size w w' := by
 have HT := hid hT
 have HG := hid hg
 obtain ⟨oL,nL,cL,oM,nM,cM,rfl,rfl⟩ := hv_slices hT
 have HSTEP : Hid (∀ X : World,Below w.heap.size w X → Row X (w.heap.size + 1) 137 1 → X.cell? ⟨w.heap.size + 1,0,none⟩ = some (.int .i64 0) → Calls Tryz.prog 82 #[.pointer (some ⟨w.heap.size + 1,0,none⟩),vv T (.slice oL nL cL) (.slice oM nM cM),.int .i64 1] X fun e w' => e = .returned (.bool (mayB 0 1 T)) ∧ Below w.heap.size w w') :=
  fun X hX hr hc => (wgood_any (szT T) T _ _ (w.heap.size + 1) 0 1 w X (Nat.le_refl _) HT.out HG.out hX (by omega) hr hc (by omega) (by omega)).mono fun e w' ⟨h1,h2,_,_⟩ => ⟨h1,hX.trans (h2.below (by omega) hX.size)⟩
 clear hT hg
 simp only [vv] at HSTEP ⊢
 have HNW : Hid (∀ o,Row ((w.alloc o).alloc (.cells #[.int .i64 0] 137)) (w.heap.size + 1) 137 1) := fun o => by
  have := Row.new (w.alloc o) #[.int .i64 0] 137
  rw [World.size_alloc] at this
  exact this
 go_enter Tryz.func43,Tryz.ntmps43
 go_wp2_with (go_at_call 82; go_must (refine (HSTEP.out _ (valloc_bel (valloc_bel (Below.refl _ _) _) _) (HNW.out _) (by simp)).mono ?_; rintro e w1 ⟨rfl,hb1⟩))
 go_ret
 exact ⟨rfl,hb1⟩
def tomB (T : VT) : Bool := decide (T.kd = 6) && (mayB 0 1 T && syT T)
set_option maxRecDepth 100000 in
set_option maxHeartbeats 2000000 in
theorem tpmay_any (T : VT) (x y : Value) (w : World) (hg : GlobN w) (hT : HV w T x y) :
  Calls Tryz.prog 66 #[vv T x y] w fun e w' => e = .returned (.bool (tomB T)) ∧ Below w.heap.size w w' := by
 have CG := hid (fun (X : World) (hX : Below w.heap.size w X) => vgood_any T x y X (hg.on hX).t.g (hT.onto hX))
 have CS := hid (fun (hp : plainT T = true) (X : World) (hX : Below w.heap.size w X) => tpsay_all (szT T) T x y X (Nat.le_refl _) (hT.onto hX) hp (hg.on hX))
 obtain ⟨o1,n1,c1,o2,n2,c2,rfl,rfl⟩ := hv_slices hT
 have hpl : mayB 0 1 T = true → plainT T = true := fun h => by unfold mayB at h; rw [Bool.and_eq_true] at h; exact h.2
 unfold tomB
 simp only [vv] at CG CS ⊢
 generalize mayB 0 1 T = M at *
 generalize syT T = S at *
 have HB0 := hid (valloc_bel (Below.refl w.heap.size w) (.cells #[.int .i64 T.kd,.int .i64 T.nm,.string T.st,.slice o1 n1 c1,.slice o2 n2 c2] 29))
 obtain ⟨f0,f1,f2,f3,f4⟩ := tpbox w (.int .i64 T.kd) (.int .i64 T.nm) (.string T.st) (.slice o1 n1 c1) (.slice o2 n2 c2)
 clear hg hT
 by_cases k6 : T.kd = 6
 ·rw [decide_eq_true k6,Bool.true_and]
  rw [k6] at CG CS HB0 f0 f1 f2 f3 f4 ⊢
  cases M with
  | true =>
   have CS2 := hid (CS.out (hpl rfl))
   clear CS hpl
   go_enter Tryz.func66,Tryz.ntmps66
   go_wp2_with fail
   go_at_call 43
   refine (CG.out _ HB0.out).mono ?_
   rintro e w1 ⟨rfl,hb1⟩
   have HB1 := hid (vonto HB0.out hb1)
   replace f0 := keepCell hb1 f0
   replace f1 := keepCell hb1 f1
   replace f2 := keepCell hb1 f2
   replace f3 := keepCell hb1 f3
   replace f4 := keepCell hb1 f4
   have C2 := hid (CS2.out w1 HB1.out)
   clear hb1 CG CS2
   go_wp2_with fail
   go_at_call 119
   refine C2.out.mono ?_
   rintro e w2 ⟨rfl,hb2⟩
   have HB2 := hid (vonto HB1.out hb2)
   clear hb2 C2
   go_wp2_with fail
   go_ret
   exact ⟨rfl,HB2.out⟩
  | false =>
   clear CS hpl
   go_enter Tryz.func66,Tryz.ntmps66
   go_wp2_with fail
   go_at_call 43
   refine (CG.out _ HB0.out).mono ?_
   rintro e w1 ⟨rfl,hb1⟩
   have HB1 := hid (vonto HB0.out hb1)
   clear hb1 CG
   go_wp2_with fail
   go_ret
   exact ⟨rfl,HB1.out⟩
 ·rw [decide_eq_false k6,Bool.false_and]
  obtain ⟨k6a,k6b⟩ := ikey T.kd 6 k6
  clear CS CG hpl
  go_enter Tryz.func66,Tryz.ntmps66
  go_wp2_with fail
  go_ret
  exact ⟨rfl,HB0.out⟩
/-! The order. -/
theorem cb_val : ∀ a b : List UInt8,Lib.compareBytes a b = -1 ∨ Lib.compareBytes a b = 0 ∨ Lib.compareBytes a b = 1
 | [],[] => Or.inr (Or.inl rfl)
 | [],_ :: _ => Or.inl rfl
 | _ :: _,[] => Or.inr (Or.inr rfl)
 | a :: l,b :: m => by
  rw [Lib.compareBytes]
  split
  ·exact Or.inl rfl
  ·split
   ·exact Or.inr (Or.inr rfl)
   ·exact cb_val l m
theorem cb_anti : ∀ a b : List UInt8,Lib.compareBytes b a = -Lib.compareBytes a b
 | [],[] => rfl
 | [],_ :: _ => rfl
 | _ :: _,[] => rfl
 | a :: l,b :: m => by
  rw [Lib.compareBytes,Lib.compareBytes]
  by_cases h1 : a < b
  ·rw [if_neg (fun h2 => UInt8.lt_asymm h1 h2),if_pos h1,if_pos h1]; rfl
  ·by_cases h2 : b < a
   ·rw [if_pos h2,if_neg h1,if_pos h2]
   ·rw [if_neg h2,if_neg h1,if_neg h1,if_neg h2,cb_anti l m]
theorem cb_refl : ∀ a : List UInt8,Lib.compareBytes a a = 0
 | [] => rfl
 | a :: l => by
  have h : ¬ a < a := UInt8.lt_irrefl a
  rw [Lib.compareBytes,if_neg h,if_neg h,cb_refl l]
theorem cb_eq : ∀ a b : List UInt8,Lib.compareBytes a b = 0 → a = b
 | [],[],_ => rfl
 | [],_ :: _,h => by cases h
 | _ :: _,[],h => by cases h
 | a :: l,b :: m,h => by
  rw [Lib.compareBytes] at h
  by_cases h1 : a < b
  ·rw [if_pos h1] at h; cases h
  ·rw [if_neg h1] at h
   by_cases h2 : b < a
   ·rw [if_pos h2] at h; cases h
   ·rw [if_neg h2] at h
    have hab : a = b := UInt8.le_antisymm (by simpa using h2) (by simpa using h1)
    rw [cb_eq l m h,hab]
theorem cb_less : ∀ a b : List UInt8,(decide (Lib.compareBytes a b < 0)) = ltB a b
 | [],[] => rfl
 | [],_ :: _ => rfl
 | _ :: _,[] => rfl
 | a :: l,b :: m => by
  rw [ltB_cons,Lib.compareBytes]
  by_cases h1 : a < b
  ·rw [if_pos h1,decide_eq_true h1]; rfl
  ·rw [if_neg h1,decide_eq_false h1]
   by_cases h2 : b < a
   ·have h3 : (a == b) = false := by rw [beq_eq_false_iff_ne]; rintro rfl; exact h1 h2
    rw [if_pos h2,h3]; rfl
   ·have h3 : a = b := UInt8.le_antisymm (by simpa using h2) (by simpa using h1)
    rw [if_neg h2,cb_less l m,h3]; simp
theorem cb_lt {a b : List UInt8} : Lib.compareBytes a b = -1 ↔ ltB a b = true := by
 have h := cb_less a b
 rcases cb_val a b with e | e | e <;> rw [e] at h ⊢ <;> rw [← h] <;> decide
theorem cb_trans {a b c : List UInt8} {x : Int} (h1 : Lib.compareBytes a b = x) (h2 : Lib.compareBytes b c = x) : Lib.compareBytes a c = x := by
 rcases cb_val a b with e | e | e
 ·have hx : x = -1 := by omega
  subst hx
  exact cb_lt.2 (ltB_trans _ _ _ (cb_lt.1 h1) (cb_lt.1 h2))
 ·rw [cb_eq _ _ e]; exact h2
 ·have hx : x = 1 := by omega
  subst hx
  have g1 : Lib.compareBytes b a = -1 := by rw [cb_anti,h1]
  have g2 : Lib.compareBytes c b = -1 := by rw [cb_anti,h2]
  rw [cb_anti,cb_lt.2 (ltB_trans _ _ _ (cb_lt.1 g2) (cb_lt.1 g1))]
  rfl
theorem cz_anti (a b : Int) : cmpZ b a = -cmpZ a b := by unfold cmpZ; split <;> split <;> (try split) <;> first | rfl | omega
theorem cz_eq {a b : Int} (h : cmpZ a b = 0) : a = b := by
 unfold cmpZ at h
 by_cases h1 : a < b
 ·rw [if_pos h1] at h; cases h
 ·rw [if_neg h1] at h
  by_cases h2 : b < a
  ·rw [if_pos h2] at h; cases h
  ·omega
theorem cz_refl (a : Int) : cmpZ a a = 0 := by unfold cmpZ; rw [if_neg (by omega),if_neg (by omega)]
theorem cz_trans {a b c x : Int} (h1 : cmpZ a b = x) (h2 : cmpZ b c = x) : cmpZ a c = x := by
 unfold cmpZ at *
 split at h1 <;> split at h2 <;> (try split at h1) <;> (try split at h2) <;> split <;> (try split) <;> omega
def Frm (s : PStep) : Prop := (s.place = true ∧ s.key = ⟨#[]⟩ ∧ 0 ≤ s.at_ ∧ s.at_ ≤ 1000000000) ∨ (s.place = false ∧ s.at_ = 0)
theorem ba_eq {a b : ByteArray} (h : a.data.toList = b.data.toList) : a = b := by
 rw [mkS_of a _ rfl,mkS_of b _ rfl,h]
theorem cs_anti (a b : PStep) : cstep b a = -cstep a b := by
 obtain ⟨ka,na,pa⟩ := a
 obtain ⟨kb,nb,pb⟩ := b
 unfold cstep
 cases pa <;> cases pb <;> simp [cz_anti na nb,cb_anti ka.data.toList kb.data.toList]
theorem cs_eq {a b : PStep} (ha : Frm a) (hb : Frm b) (h : cstep a b = 0) : a = b := by
 obtain ⟨ka,na,pa⟩ := a
 obtain ⟨kb,nb,pb⟩ := b
 unfold cstep at h
 unfold Frm at ha hb
 cases pa <;> cases pb <;> simp at h ha hb
 ·obtain rfl := ba_eq (cb_eq _ _ h); rw [ha,hb]
 ·obtain ⟨rfl,-⟩ := ha; obtain ⟨rfl,-⟩ := hb; rw [cz_eq h]
theorem cs_refl (a : PStep) : cstep a a = 0 := by
 obtain ⟨ka,na,pa⟩ := a
 unfold cstep
 cases pa <;> simp [cz_refl,cb_refl]
theorem cs_trans {a b c : PStep} {x : Int} (h1 : cstep a b = x) (h2 : cstep b c = x) : cstep a c = x := by
 obtain ⟨ka,na,pa⟩ := a
 obtain ⟨kb,nb,pb⟩ := b
 obtain ⟨kc,nc,pc⟩ := c
 unfold cstep at *
 cases pa <;> cases pb <;> cases pc <;> simp at h1 h2 ⊢
 ·exact cb_trans h1 h2
 ·exact h2
 ·omega
 ·exact h1
 ·exact h1
 ·omega
 ·exact h2
 ·exact cz_trans h1 h2
theorem cp_anti : ∀ a b : List PStep,cmpP b a = -cmpP a b
 | [],[] => rfl
 | [],_ :: _ => rfl
 | _ :: _,[] => rfl
 | a :: p,b :: q => by
  rw [cmpP,cmpP,cs_anti a b]
  by_cases h : cstep a b = 0
  ·rw [if_pos h,if_pos (by omega),cp_anti p q]
  ·rw [if_neg h,if_neg (by omega)]
theorem cp_refl : ∀ a : List PStep,cmpP a a = 0
 | [] => rfl
 | a :: p => by rw [cmpP,if_pos (cs_refl a),cp_refl p]
theorem cp_eq : ∀ {a b : List PStep},(∀ s ∈ a,Frm s) → (∀ s ∈ b,Frm s) → cmpP a b = 0 → a = b
 | [],[],_,_,_ => rfl
 | [],_ :: _,_,_,h => by cases h
 | _ :: _,[],_,_,h => by cases h
 | a :: p,b :: q,ha,hb,h => by
  rw [cmpP] at h
  by_cases hc : cstep a b = 0
  ·rw [if_pos hc] at h
   rw [cs_eq (ha a (by simp)) (hb b (by simp)) hc,cp_eq (fun s hs => ha s (by simp [hs])) (fun s hs => hb s (by simp [hs])) h]
  ·rw [if_neg hc] at h; exact absurd h hc
theorem cp_trans : ∀ {a b c : List PStep} {x : Int},(∀ s ∈ a,Frm s) → (∀ s ∈ b,Frm s) → (∀ s ∈ c,Frm s) → cmpP a b = x → cmpP b c = x → cmpP a c = x
 | [],[],c,x,_,_,_,_,h2 => h2
 | [],b :: q,[],x,_,_,_,h1,h2 => by
  have e1 : (-1 : Int) = x := h1
  have e2 : (1 : Int) = x := h2
  omega
 | [],b :: q,c :: r,x,_,_,_,h1,h2 => h1
 | a :: p,[],[],x,_,_,_,h1,h2 => h1
 | a :: p,[],c :: r,x,_,_,_,h1,h2 => by
  have e1 : (1 : Int) = x := h1
  have e2 : (-1 : Int) = x := h2
  omega
 | a :: p,b :: q,[],x,_,_,_,h1,h2 => h2
 | a :: p,b :: q,c :: r,x,ha,hb,hc,h1,h2 => by
  rw [cmpP] at h1 h2 ⊢
  by_cases g1 : cstep a b = 0
  ·obtain rfl := cs_eq (ha a (by simp)) (hb b (by simp)) g1
   rw [if_pos g1] at h1
   by_cases g2 : cstep a c = 0
   ·rw [if_pos g2] at h2 ⊢
    exact cp_trans (fun s hs => ha s (by simp [hs])) (fun s hs => hb s (by simp [hs])) (fun s hs => hc s (by simp [hs])) h1 h2
   ·rw [if_neg g2] at h2 ⊢; exact h2
  ·rw [if_neg g1] at h1
   by_cases g2 : cstep b c = 0
   ·obtain rfl := cs_eq (hb b (by simp)) (hc c (by simp)) g2
    rw [if_neg g1]; exact h1
   ·rw [if_neg g2] at h2
    have := cs_trans h1 h2
    rw [if_neg (by omega)]; exact this
/-! Written, and read back. -/
end Go.Proofs.YteimbjamnfkapaaGreatDoor
/- Plain mathematics of columns: where a path belongs among sorted ones; a path laid among them. -/
namespace Go.Proofs.YteimbjamnfkapaaGreatDoor
def posC : List (List PStep) → List PStep → Nat
 | [],_ => 0
 | c :: r,p => if cmpP c p < 0 then posC r p + 1 else 0
theorem posC_le : ∀ (C : List (List PStep)) (p : List PStep),posC C p ≤ C.length
 | [],_ => Nat.zero_le _
 | c :: r,p => by
  have := posC_le r p
  simp only [posC,List.length_cons]
  split <;> omega
theorem posC_lt : ∀ (C : List (List PStep)) (p : List PStep) (i : Nat) (c : List PStep),i < posC C p → C[i]? = some c → cmpP c p < 0
 | [],_,i,_,h,_ => by simp [posC] at h
 | a :: r,p,i,c,h,hc => by
  simp only [posC] at h
  split at h
  ·rename_i ha
   cases i with
   | zero => simp at hc; subst hc; exact ha
   | succ i => exact posC_lt r p i c (by omega) (by simpa using hc)
  ·omega
theorem posC_ge : ∀ (C : List (List PStep)) (p : List PStep) (c : List PStep),C[posC C p]? = some c → 0 ≤ cmpP c p
 | [],_,_,h => by simp at h
 | a :: r,p,c,h => by
  by_cases ha : cmpP a p < 0
  ·simp only [posC,if_pos ha] at h
   exact posC_ge r p c (by simpa using h)
  ·simp only [posC,if_neg ha] at h
   simp at h
   subst h; omega
def Mono (C : List (List PStep)) (p : List PStep) : Prop := ∀ (i j : Nat) (a b : List PStep),i ≤ j → C[i]? = some a → C[j]? = some b → cmpP b p < 0 → cmpP a p < 0
theorem posC_is {C : List (List PStep)} {p : List PStep} {k : Nat} (hk : k ≤ C.length) (h1 : ∀ i c,i < k → C[i]? = some c → cmpP c p < 0) (h2 : ∀ c,C[k]? = some c → 0 ≤ cmpP c p) : posC C p = k := by
 rcases Nat.lt_trichotomy (posC C p) k with h | h | h
 ·exfalso
  have hl : posC C p < C.length := by omega
  have a1 := posC_ge C p _ (List.getElem?_eq_getElem hl)
  have a2 := h1 _ _ h (List.getElem?_eq_getElem hl)
  omega
 ·exact h
 ·exfalso
  have hl : k < C.length := by have := posC_le C p; omega
  have a1 := h2 _ (List.getElem?_eq_getElem hl)
  have a2 := posC_lt C p k _ h (List.getElem?_eq_getElem hl)
  omega
def hasC (C : List (List PStep)) (p : List PStep) : Bool := match C[posC C p]? with
 | some c => decide (cmpP c p = 0)
 | none => false
theorem hasC_some {C : List (List PStep)} {p c : List PStep} (h : C[posC C p]? = some c) : hasC C p = decide (cmpP c p = 0) := by unfold hasC; rw [h]
theorem hasC_none {C : List (List PStep)} {p : List PStep} (h : C[posC C p]? = none) : hasC C p = false := by unfold hasC; rw [h]
def putC (C : List (List PStep)) (p : List PStep) : List (List PStep) := if hasC C p = true then C else C.take (posC C p) ++ p :: C.drop (posC C p)
end Go.Proofs.YteimbjamnfkapaaGreatDoor
/- Plain mathematics of columns: sorted, each once; all paths of all leaves. -/
namespace Go.Proofs.YteimbjamnfkapaaGreatDoor
theorem cz_val (a b : Int) : cmpZ a b = -1 ∨ cmpZ a b = 0 ∨ cmpZ a b = 1 := by unfold cmpZ; split <;> (try split) <;> simp
theorem cs_val (a b : PStep) : cstep a b = -1 ∨ cstep a b = 0 ∨ cstep a b = 1 := by
 unfold cstep
 split
 ·exact cz_val _ _
 ·split
  ·exact .inl rfl
  ·split
   ·exact .inr (.inr rfl)
   ·exact cb_val _ _
theorem cpV_val : ∀ a b : List PStep,cmpP a b = -1 ∨ cmpP a b = 0 ∨ cmpP a b = 1
 | [],[] => .inr (.inl rfl)
 | [],_ :: _ => .inl rfl
 | _ :: _,[] => .inr (.inr rfl)
 | a :: p,b :: q => by
  have h := cs_val a b
  have ih := cpV_val p q
  simp only [cmpP]
  split
  ·exact ih
  ·exact h
def FrmP (p : List PStep) : Prop := ∀ s ∈ p,Frm s
def Srt (C : List (List PStep)) : Prop := C.Pairwise (fun a b => cmpP a b = -1)
theorem srt_mono {C : List (List PStep)} {p : List PStep} (h : Srt C) (hC : ∀ c ∈ C,FrmP c) (hp : FrmP p) : Mono C p := by
 intro i j a b hij ha hb hlt
 rcases Nat.lt_or_ge i j with h1 | h1
 ·obtain ⟨hj,rfl⟩ := List.getElem?_eq_some_iff.1 hb
  obtain ⟨hi,rfl⟩ := List.getElem?_eq_some_iff.1 ha
  have hab := (List.pairwise_iff_getElem.1 h) i j hi hj h1
  have hbp : cmpP C[j] p = -1 := by rcases cpV_val C[j] p with h | h | h <;> omega
  have := cp_trans (hC _ (List.getElem_mem hi)) (hC _ (List.getElem_mem hj)) hp hab hbp
  omega
 ·have : i = j := by omega
  subst this
  rw [ha] at hb; cases hb; exact hlt
theorem put_len (C : List (List PStep)) (p : List PStep) : C.length ≤ (putC C p).length ∧ (putC C p).length ≤ C.length + 1 := by
 have := posC_le C p
 unfold putC
 split
 ·omega
 ·simp; omega
theorem hasC_mem {C : List (List PStep)} {p : List PStep} (hC : ∀ c ∈ C,FrmP c) (hp : FrmP p) (h : hasC C p = true) : p ∈ C := by
 unfold hasC at h
 split at h
 ·rename_i c hc
  have hm := List.mem_of_getElem? hc
  rw [decide_eq_true_iff] at h
  rw [← cp_eq (hC c hm) hp h]; exact hm
 ·cases h
theorem put_mem {C : List (List PStep)} {p q : List PStep} (hC : ∀ c ∈ C,FrmP c) (hp : FrmP p) : q ∈ putC C p ↔ q ∈ C ∨ q = p := by
 unfold putC
 split
 ·rename_i h
  have := hasC_mem hC hp h
  constructor
  ·exact .inl
  ·rintro (h | rfl)
   ·exact h
   ·exact this
 ·rw [List.mem_append,List.mem_cons]
  have : q ∈ C ↔ q ∈ C.take (posC C p) ∨ q ∈ C.drop (posC C p) := by rw [← List.mem_append,List.take_append_drop]
  rw [this]
  constructor
  ·rintro (h | h | h) <;> simp [h]
  ·rintro ((h | h) | h) <;> simp [h]
theorem put_frm {C : List (List PStep)} {p : List PStep} (hC : ∀ c ∈ C,FrmP c) (hp : FrmP p) : ∀ c ∈ putC C p,FrmP c := fun c hc => by
 rcases (put_mem hC hp).1 hc with h | rfl
 ·exact hC c h
 ·exact hp
theorem put_srt {C : List (List PStep)} {p : List PStep} (h : Srt C) (hC : ∀ c ∈ C,FrmP c) (hp : FrmP p) : Srt (putC C p) := by
 unfold putC
 split
 ·exact h
 ·rename_i hn
  unfold Srt at *
  have hlo : ∀ a ∈ C.take (posC C p),cmpP a p = -1 := fun a ha => by
   obtain ⟨i,hi⟩ := List.getElem?_of_mem ha
   rw [List.getElem?_take] at hi
   split at hi
   ·rename_i hlt
    have := posC_lt C p i a hlt hi
    rcases cpV_val a p with h | h | h <;> omega
   ·cases hi
  have hhi : ∀ b ∈ C.drop (posC C p),cmpP p b = -1 := fun b hb => by
   obtain ⟨k,hk⟩ : ∃ k,posC C p = k := ⟨_,rfl⟩
   obtain ⟨c,hc⟩ : ∃ c,C[k]? = some c := by
    cases hq : C[k]? with
    | some c => exact ⟨c,rfl⟩
    | none =>
     rw [List.getElem?_eq_none_iff] at hq
     rw [hk,List.drop_eq_nil_of_le hq] at hb; cases hb
   have h1 := posC_ge C p c (by rw [hk]; exact hc)
   have h2 : ¬ cmpP c p = 0 := fun e => hn (by rw [hasC_some (by rw [hk]; exact hc),e]; rfl)
   have h3 : cmpP c p = 1 := by rcases cpV_val c p with h | h | h <;> omega
   have h4 : cmpP p c = -1 := by rw [cp_anti,h3]
   obtain ⟨i,hi⟩ := List.getElem?_of_mem hb
   rw [List.getElem?_drop,hk] at hi
   by_cases e : i = 0
   ·subst e; rw [Nat.add_zero,hc] at hi; cases hi; exact h4
   ·obtain ⟨hj,rfl⟩ := List.getElem?_eq_some_iff.1 hi
    obtain ⟨hk',rfl⟩ := List.getElem?_eq_some_iff.1 hc
    have h5 := (List.pairwise_iff_getElem.1 h) k (k + i) hk' hj (by omega)
    exact cp_trans hp (hC _ (List.getElem_mem hk')) (hC _ (List.getElem_mem hj)) h4 h5
  rw [List.pairwise_append]
  refine ⟨h.sublist (List.take_sublist _ _),List.pairwise_cons.2 ⟨hhi,h.sublist (List.drop_sublist _ _)⟩,fun a ha b hb => ?_⟩
  rcases List.mem_cons.1 hb with rfl | hb
  ·exact hlo a ha
  ·exact cp_trans (hC a (List.mem_of_mem_take ha)) hp (hC b (List.mem_of_mem_drop hb)) (hlo a ha) (hhi b hb)
def colF (l : List (List PStep × VT)) (C : List (List PStep)) : List (List PStep) := l.foldl (fun C e => putC C e.1) C
def colA (X : List (List (List PStep × VT))) : List (List PStep) := colF X.flatten []
theorem colF_app (l m : List (List PStep × VT)) (C : List (List PStep)) : colF (l ++ m) C = colF m (colF l C) := List.foldl_append ..
theorem colF_one (e : List PStep × VT) (C : List (List PStep)) : colF [e] C = putC C e.1 := rfl
theorem colF_len : ∀ (l : List (List PStep × VT)) (C : List (List PStep)),C.length ≤ (colF l C).length
 | [],_ => Nat.le_refl _
 | e :: l,C => by
  have h1 := colF_len l (putC C e.1)
  have h2 := (put_len C e.1).1
  show C.length ≤ (colF l (putC C e.1)).length
  omega
structure Good3 (C : List (List PStep)) : Prop where
 s : Srt C
 f : ∀ c ∈ C,FrmP c
theorem Good3.put {C : List (List PStep)} (h : Good3 C) {p : List PStep} (hp : FrmP p) : Good3 (putC C p) := ⟨put_srt h.s h.f hp,put_frm h.f hp⟩
theorem Good3.nil : Good3 [] := ⟨List.Pairwise.nil,fun c h => by cases h⟩
theorem colF_mem : ∀ (l : List (List PStep × VT)) (C : List (List PStep)) (q : List PStep),Good3 C → (∀ e ∈ l,FrmP e.1) → (q ∈ colF l C ↔ q ∈ C ∨ ∃ e ∈ l,q = e.1)
 | [],C,q,_,_ => by simp [colF]
 | e :: l,C,q,h,hl => by
  show q ∈ colF l (putC C e.1) ↔ _
  rw [colF_mem l (putC C e.1) q (h.put (hl e (by simp))) (fun x hx => hl x (by simp [hx])),put_mem h.f (hl e (by simp))]
  simp only [List.mem_cons]
  constructor
  ·rintro ((h | h) | ⟨x,h1,h2⟩)
   ·exact .inl h
   ·exact .inr ⟨e,.inl rfl,h⟩
   ·exact .inr ⟨x,.inr h1,h2⟩
  ·rintro (h | ⟨x,rfl | h1,h2⟩)
   ·exact .inl (.inl h)
   ·exact .inl (.inr h2)
   ·exact .inr ⟨x,h1,h2⟩
theorem take_flat {α : Type} (X : List (List α)) (i : Nat) (l : List α) (h : X[i]? = some l) : (X.take (i + 1)).flatten = (X.take i).flatten ++ l := by
 rw [List.take_add_one,h,List.flatten_append]; simp
end Go.Proofs.YteimbjamnfkapaaGreatDoor
