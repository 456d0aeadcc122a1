import Derived.Test.YteimbjamnfkapaaGreatDoorLVStr
import Derived.Test.YteimbjamnfkapaaGreatDoorLUtfAll
import Derived.Test.YteimbjamnfkapaaGreatDoorLDecOne
import Derived.Test.YteimbjamnfkapaaGreatDoorLVBase
import Derived.Deep.LoopGhost
import Derived.Test.YteimbjamnfkapaaGreatDoorLMathDecAll
/- value's judges of texts, walked: textError, goodStamp, goodNum. -/
/- value.keysError, walked. -/
/- value.goodKeys, walked. -/
namespace Go.Proofs.YteimbjamnfkapaaGreatDoor
open Go.RowKit
def teI (s : ByteArray) : Int := if pos s.data.toList (vlk s.data.toList) = s.size then (if s.size > 4096 then 2 else 0) else 3
theorem te_ok (s : ByteArray) : strOkB s = decide (teI s = 0) := by
 unfold strOkB teI rvI
 rw [size_list]
 by_cases h1 : pos s.data.toList (vlk s.data.toList) = s.size
 ·rw [if_pos h1,if_pos h1]
  by_cases h2 : s.size > 4096
  ·rw [if_pos h2,decide_eq_false (by omega)]; rfl
  ·rw [if_neg h2,decide_eq_true (by omega)]; rfl
 ·rw [if_neg h1,if_neg h1,decide_eq_false (show ¬ ((pos s.data.toList (vlk s.data.toList) : Nat) : Int) < 0 by omega)]; simp
set_option maxRecDepth 100000 in
set_option maxHeartbeats 400000 in
theorem terr_any (s : ByteArray) (w : World) (hs : s.size ≤ maxLen) :
  Calls Tryz.prog 197 #[.string s] w fun e w' => e = .returned (.int .i64 (teI s)) ∧ w' = w := by
 have va := hid (fun w => valid_any s w hs)
 have H := hid (show teI s = if pos s.data.toList (vlk s.data.toList) = s.size then (if s.size > 4096 then 2 else 0) else 3 from rfl)
 unfold maxLen at hs
 generalize teI s = r at H ⊢
 generalize pos s.data.toList (vlk s.data.toList) = p at va H
 by_cases h1 : p = s.size
 ·rw [if_pos h1,decide_eq_true h1] at *
  by_cases h2 : s.size > 4096
  ·rw [if_pos h2] at H
   clear h1
   go_enter Tryz.func197,Tryz.ntmps197
   go_wp2_with (go_at_call 250; go_must (refine (va.out _).mono ?_; rintro e w1 ⟨rfl,rfl⟩))
   go_ret
   exact ⟨ret_int H.out.symm,rfl⟩
  ·rw [if_neg h2] at H
   clear h1
   go_enter Tryz.func197,Tryz.ntmps197
   go_wp2_with (go_at_call 250; go_must (refine (va.out _).mono ?_; rintro e w1 ⟨rfl,rfl⟩))
   go_ret
   exact ⟨ret_int H.out.symm,rfl⟩
 ·rw [if_neg h1] at H
  rw [decide_eq_false h1] at va
  clear h1
  go_enter Tryz.func197,Tryz.ntmps197
  go_wp2_with (go_at_call 250; go_must (refine (va.out _).mono ?_; rintro e w1 ⟨rfl,rfl⟩))
  go_ret
  exact ⟨ret_int H.out.symm,rfl⟩
set_option maxRecDepth 100000 in
set_option maxHeartbeats 400000 in
theorem gnum_any (s : ByteArray) (w : World) (hg : Glob w) (hs : s.size ≤ maxLen) :
  Calls Tryz.prog 198 #[.string s] w fun e w' => e = .returned (.bool (numB s.data.toList && !intB s.data.toList)) ∧ Below w.heap.size w w' := by
 have di := hid (dint_max s w hg hs)
 have dg := hid (fun w => dgood_max s w hs)
 generalize numB s.data.toList = a at dg ⊢
 generalize intV s.data.toList = v at di
 generalize intB s.data.toList = b at di ⊢
 clear hg
 cases a <;> cases b
 all_goals
  go_enter Tryz.func198,Tryz.ntmps198
  go_wp2_with (first
   | (go_at_call 192; go_must (refine di.out.mono ?_; rintro e w1 ⟨rfl,hb1⟩))
   | (go_at_call 136; go_must (refine (dg.out _).mono ?_; rintro e w2 ⟨rfl,hb2⟩)))
  go_ret
  exact ⟨rfl,vonto hb1 hb2⟩
set_option maxRecDepth 100000 in
set_option maxHeartbeats 400000 in
theorem gstamp_any (s : ByteArray) (w : World) (hs : s.size ≤ maxLen) :
  Calls Tryz.prog 199 #[.string s] w fun e w' => e = .returned (.bool (stampB s)) ∧ Below w.heap.size w w' := by
 unfold maxLen at hs
 have HZ := hid (size_list s)
 by_cases h1 : s.size < 1
 ·have H := hid (show stampB s = false by unfold stampB; rw [decide_eq_false (by omega)]; rfl)
  go_enter Tryz.func199,Tryz.ntmps199
  go_wp2_with fail
  go_ret
  exact ⟨ret_bool H.out.symm,Below.refl _ _⟩
 ·by_cases h2 : s.size > 64
  ·have H := hid (show stampB s = false by unfold stampB; rw [decide_eq_false (show ¬ s.size ≤ 64 by omega)]; simp)
   go_enter Tryz.func199,Tryz.ntmps199
   go_wp2_with fail
   go_ret
   exact ⟨ret_bool H.out.symm,Below.refl _ _⟩
  ·have H := hid (show stampB s = s.data.toList.all (fun b => decide (32 ≤ b.toNat) && decide (b.toNat ≤ 126)) by
    unfold stampB; rw [decide_eq_true (show 1 ≤ s.size by omega),decide_eq_true (show s.size ≤ 64 by omega)]; rfl)
   have hcv := run_bytes_of_string (P := Tryz.prog) w 9 116 5 s Tryz.underlying9 Tryz.underlying116 Tryz.underlying5
   go_enter Tryz.func199,Tryz.ntmps199
   go_upto_region 3 with fail
   go_cut [14,15,16] from 8 (fun a b c wx => ∃ cap,a = .slice (some ⟨w.heap.size,0,none⟩) s.size cap ∧ b = .int .i64 s.size ∧ c = .int .i64 0 ∧ s.size ≤ cap ∧ Hid (∀ k (h : k < s.size),wx.cell? ⟨w.heap.size,k,none⟩ = some (.int .u8 (s[k].toNat : Int))) ∧ Hid (Below w.heap.size w wx))
   case first =>
    go_wp2_with fail
    go_meet
    exact ⟨_,rfl,rfl,rfl,grownCap_ge _ _ _ _,(show ∀ k (h : k < s.size),_ = _ from fun k hk => brow_at s k (w.drewN 1) _ _ _ hk),(Below.refl _ _).drew.alloc (by simp) _⟩
   case rest =>
   obtain ⟨cap,rfl,rfl,rfl,hcap,HC,HW⟩ := hcut
   clear hcv
   go_wp2_with fail
   go_loop [16] (fun i => ∃ j : Nat,j ≤ s.size ∧ i = .int .i64 j ∧ Hid (∀ k (h : k < s.size),k < j → 32 ≤ s[k].toNat ∧ s[k].toNat ≤ 126)) (fun i => s.size - (intOf i).toNat)
   case atStart => exact ⟨0,Nat.zero_le _,rfl,fun k h hk => absurd hk (by omega)⟩
   case round =>
    obtain ⟨j,hj,rfl,HJ⟩ := hrel
    by_cases hlt : j < s.size
    ·have HG := hid (getD_at s j hlt)
     have hcell := HC.out j hlt
     by_cases h3 : s[j].toNat < 32
     ·have HF := hid (show stampB s = false by
       rw [H.out,Bool.eq_false_iff]; intro hc
       have := List.all_eq_true.1 hc s[j] (by rw [← HG.out,List.getD,List.getElem?_eq_getElem (by rw [HZ.out]; exact hlt)]; exact List.getElem_mem _)
       simp at this; omega)
      go_wp2_with fail
      go_ret
      exact ⟨ret_bool HF.out.symm,HW.out⟩
     ·by_cases h4 : s[j].toNat > 126
      ·have HF := hid (show stampB s = false by
        rw [H.out,Bool.eq_false_iff]; intro hc
        have := List.all_eq_true.1 hc s[j] (by rw [← HG.out,List.getD,List.getElem?_eq_getElem (by rw [HZ.out]; exact hlt)]; exact List.getElem_mem _)
        simp at this; omega)
       go_wp2_with fail
       go_ret
       exact ⟨ret_bool HF.out.symm,HW.out⟩
      ·go_wp2_with fail
       go_round
       case rel => exact ⟨j + 1,hlt,val_int (by omega),fun k h hk => by
        by_cases e : k = j
        ·subst e; exact ⟨by omega,by omega⟩
        ·exact HJ.out k h (by omega)⟩
       case measure => simp [intOf]; omega
    ·have HF := hid (show stampB s = true by
      rw [H.out]; refine List.all_eq_true.2 fun b hb => ?_
      obtain ⟨k,hk,rfl⟩ := List.getElem_of_mem hb
      have hk' : k < s.size := by rw [← HZ.out]; exact hk
      have := HJ.out k hk' (by omega)
      simp; exact this)
     go_wp2_with fail
     go_ret
     exact ⟨ret_bool HF.out.symm,HW.out⟩
def keyAt (K : List ByteArray) (i : Nat) : ByteArray := K.getD i ⟨#[]⟩
def adjB (K : List ByteArray) : Bool := (List.range (K.length - 1)).any fun i => decide ((keyAt K i).data.toList = (keyAt K (i + 1)).data.toList)
def bad3 (K : List ByteArray) : Bool := K.any fun c => decide (teI c = 3)
def bad2 (K : List ByteArray) : Bool := K.any fun c => decide (teI c = 2)
def keI (K : List ByteArray) : Int := if adjB K then 5 else if bad3 K then 3 else if bad2 K then 2 else 0
def keysB (K : List ByteArray) : Bool := decide (∀ i < K.length,strOkB (K.getD i ⟨#[]⟩) = true ∧ (0 < i → ltB (K.getD (i - 1) ⟨#[]⟩).data.toList (K.getD i ⟨#[]⟩).data.toList = true))
theorem getD_some {K : List ByteArray} {i : Nat} {c : ByteArray} (h : K[i]? = some c) : K.getD i ⟨#[]⟩ = c := by rw [List.getD,h]; rfl
theorem keys_no {K : List ByteArray} {i : Nat} {c : ByteArray} (h : K[i]? = some c) (hb : strOkB c = false) : keysB K = false := by
 unfold keysB; rw [decide_eq_false_iff_not]; intro hh
 have := (hh i (lt_of_some h)).1
 rw [getD_some h,hb] at this; cases this
theorem keys_fall {K : List ByteArray} {i : Nat} {b c : ByteArray} (h : K[i + 1]? = some c) (g : K[i]? = some b) (hb : ltB b.data.toList c.data.toList = false) : keysB K = false := by
 unfold keysB; rw [decide_eq_false_iff_not]; intro hh
 have := (hh (i + 1) (lt_of_some h)).2 (by omega)
 rw [getD_some h,show i + 1 - 1 = i from rfl,getD_some g,hb] at this; cases this
set_option maxRecDepth 100000 in
set_option maxHeartbeats 1000000 in
theorem gkeys_any (K : List ByteArray) (V : List VT) (y : Value) (w : World) (hy : InM w K V y) :
  Calls Tryz.prog 200 #[y] w fun e w' => e = .returned (.bool (keysB K)) ∧ Below w.heap.size w w' := by
 obtain ⟨a,p,q,⟨o,cap,rfl,hn1,hn2,ho⟩,hK,cK,cM,rM⟩ := hy
 unfold maxLen at hn2
 have HR0 := hid (show keysB K = keysB K from rfl)
 generalize hr : keysB K = r at HR0 ⊢
 have HR := hid hr
 clear hr HR0
 go_enter Tryz.func200,Tryz.ntmps200
 go_wp2_with fail
 go_loopw [7] (fun i wr => ∃ j : Nat,j ≤ V.length ∧ i = .int .i64 j ∧ Below w.heap.size w wr ∧ Hid (∀ i < j,strOkB (K.getD i ⟨#[]⟩) = true ∧ (0 < i → ltB (K.getD (i - 1) ⟨#[]⟩).data.toList (K.getD i ⟨#[]⟩).data.toList = true))) (fun i _ => V.length - (intOf i).toNat)
 case atStart => exact ⟨0,Nat.zero_le _,rfl,Below.refl _ _,fun i h => absurd h (Nat.not_lt_zero _)⟩
 case round =>
  obtain ⟨j,hj,rfl,hbw,HJ⟩ := hrel
  by_cases hlt : j < V.length
  ·obtain ⟨t,ht⟩ : ∃ t,V[j]? = some t := ⟨V[j],List.getElem?_eq_getElem hlt⟩
   obtain ⟨c,hc⟩ : ∃ c,K[j]? = some c := ⟨K[j],List.getElem?_eq_getElem (by omega)⟩
   obtain rfl := ho (by omega)
   have hnode := (cM j t ht).onto hbw
   simp only [Node,nx] at hnode
   obtain ⟨d0,d1,d2,d3,d4⟩ := hnode
   have k0 := keepCell hbw (cK j c hc).1
   obtain ⟨o1,n1,c1,o2,n2,c2,hp,hq⟩ := hv_slices (rM j t ht)
   rw [hp] at d3
   rw [hq] at d4
   clear hp hq
   have te := hid (fun w => terr_any c w (cK j c hc).2)
   have HT := hid (te_ok c)
   generalize teI c = z at te HT
   have HB : Hid (∀ o n,Below w.heap.size w ((wr.alloc o).drewN n)) := fun o n => vonto hbw (vdrew_bel (valloc_bel (Below.refl _ _) _) n)
   by_cases hj0 : j = 0
   ·have tp : decide (0 < (j : Int)) = false := decide_eq_false (by omega)
    have tp3 : decide (0 < j) = false := decide_eq_false (by omega)
    have HJ0 := hid hj0
    clear hj0
    by_cases hz : z = 0
    ·have tz : (z != 0) = false := by simpa using hz
     have HOK := hid (show strOkB c = true by rw [HT.out,decide_eq_true hz])
     clear hz
     go_wp2_with fail
     go_quiet ((go_at_call 197; go_must (exact Calls.quiet_of_same (te.out _))))
     go_wp2_with fail
     go_roundw
     case rel => exact ⟨j + 1,hlt,val_int (by omega),HB.out _ _,fun i hi => by
      have := HJ0.out
      obtain rfl : i = j := by omega
      exact ⟨by rw [getD_some hc]; exact HOK.out,fun h => absurd h (by omega)⟩⟩
     case measure => simp [intOf]; omega
    ·have tz : (z != 0) = true := by simpa using hz
     have HOK := hid (show r = false by rw [← HR.out]; exact keys_no hc (by rw [HT.out,decide_eq_false hz]))
     clear hz
     go_wp2_with fail
     go_quiet ((go_at_call 197; go_must (exact Calls.quiet_of_same (te.out _))))
     go_wp2_with fail
     go_ret
     exact ⟨ret_bool HOK.out.symm,HB.out _ _⟩
   ·obtain ⟨i,rfl⟩ : ∃ i,j = i + 1 := ⟨j - 1,by omega⟩
    clear hj0
    obtain ⟨b,hb⟩ : ∃ c,K[i]? = some c := ⟨K[i],List.getElem?_eq_getElem (by omega)⟩
    have HB0 : Hid (∀ o,(wr.alloc o).cell? (a.add (i * 6)) = some (.string b)) := fun o => keepCell (valloc_bel (Below.refl _ _) o) (keepCell hbw (cK i b hb).1)
    have b0 := fun o => HB0.out o
    rw [show ((i + 1 : Nat) : Int) = (i : Int) + 1 by omega]
    have tp : decide ((i : Int) + 1 > 0) = true := decide_eq_true (by omega)
    have ti : (i : Int) + 1 - 1 = i := by omega
    cases hl : ltB b.data.toList c.data.toList with
    | false =>
     have tl : Op.bytesLess b.toList c.toList = false := by rw [Lib.toList_data,Lib.toList_data]; exact hl
     have HOK := hid (show r = false by rw [← HR.out]; exact keys_fall hc hb hl)
     clear hl
     go_wp2_with fail
     go_quiet (fail)
     go_wp2_with fail
     go_ret
     exact ⟨ret_bool HOK.out.symm,HB.out _ _⟩
    | true =>
     have tl : Op.bytesLess b.toList c.toList = true := by rw [Lib.toList_data,Lib.toList_data]; exact hl
     have HL := hid hl
     clear hl
     by_cases hz : z = 0
     ·have tz : (z != 0) = false := by simpa using hz
      have HOK := hid (show strOkB c = true by rw [HT.out,decide_eq_true hz])
      clear hz
      go_wp2_with fail
      go_quiet ((go_at_call 197; go_must (exact Calls.quiet_of_same (te.out _))))
      go_wp2_with fail
      go_roundw
      case rel => exact ⟨i + 2,hlt,val_int (by omega),HB.out _ _,fun k hk => by
       by_cases hki : k = i + 1
       ·subst hki
        exact ⟨by rw [getD_some hc]; exact HOK.out,fun _ => by rw [getD_some hc,show i + 1 - 1 = i from rfl,getD_some hb]; exact HL.out⟩
       ·exact HJ.out k (by omega)⟩
      case measure => simp [intOf]; omega
     ·have tz : (z != 0) = true := by simpa using hz
      have HOK := hid (show r = false by rw [← HR.out]; exact keys_no hc (by rw [HT.out,decide_eq_false hz]))
      clear hz
      go_wp2_with fail
      go_quiet ((go_at_call 197; go_must (exact Calls.quiet_of_same (te.out _))))
      go_wp2_with fail
      go_ret
      exact ⟨ret_bool HOK.out.symm,HB.out _ _⟩
  ·have HOK := hid (show r = true by rw [← HR.out]; unfold keysB; rw [decide_eq_true]; intro i hi; exact HJ.out i (by omega))
   go_wp2_with fail
   go_ret
   exact ⟨ret_bool HOK.out.symm,hbw⟩
end Go.Proofs.YteimbjamnfkapaaGreatDoor
