import Derived.Test.YteimbjamnfkapaaGreatDoorLVBase
import Derived.Test.YteimbjamnfkapaaGreatDoorLShelf
import Derived.Test.YteimbjamnfkapaaGreatDoorLDecOne
import Derived.Deep.LoopGhost
import Derived.Test.YteimbjamnfkapaaGreatDoorLVTextAll
/- path.cmpStep, walked. -/
/- path.Cmp, walked. -/
/- path.plainDigits, walked. -/
namespace Go.Proofs.YteimbjamnfkapaaGreatDoor
open Go.RowKit
structure PStep where
 key : ByteArray
 at_ : Int
 place : Bool
def pv (p : PStep) : Value := .agg #[.string p.key,.int .i64 p.at_,.bool p.place]
def cstep (a b : PStep) : Int := if (a.place && b.place) = true then cmpZ a.at_ b.at_ else if a.place = true then -1 else if b.place = true then 1 else Lib.compareBytes a.key.data.toList b.key.data.toList
set_option maxRecDepth 100000 in
set_option maxHeartbeats 1000000 in
theorem cstep_any (a b : PStep) (w : World) :
  Calls Tryz.prog 154 #[pv a,pv b] w fun e w' => e = .returned (.int .i64 (cstep a b)) ∧ Below w.heap.size w w' := by
 obtain ⟨ka,pa,ba⟩ := a
 obtain ⟨kb,pb,bb⟩ := b
 have HC := hid (fun X : World => cmpz_any pa pb X)
 have HS := hid (fun X : World => Tryz.strings_Compare ka kb X)
 have HR := hid (show cstep ⟨ka,pa,ba⟩ ⟨kb,pb,bb⟩ = if (ba && bb) = true then cmpZ pa pb else if ba = true then -1 else if bb = true then 1 else Lib.compareBytes ka.data.toList kb.data.toList from rfl)
 generalize cstep ⟨ka,pa,ba⟩ ⟨kb,pb,bb⟩ = r at HR ⊢
 generalize cmpZ pa pb = z at HC HR
 generalize Lib.compareBytes ka.data.toList kb.data.toList = y at HS HR
 simp only [pv]
 cases ba <;> cases bb
 all_goals
  go_enter Tryz.func154,Tryz.ntmps154
  go_wp2_with (first
   | (go_at_call 215; go_must (refine (HC.out _).mono ?_; rintro e w1 ⟨rfl,hw1⟩; obtain rfl := hw1.symm))
   | (go_at_call 97; go_must (refine (HS.out _).mono ?_; rintro e w1 ⟨rfl,hw1⟩; obtain rfl := hw1.symm)))
  go_ret
  exact ⟨ret_int HR.out.symm,valloc_bel (valloc_bel (Below.refl _ _) _) _⟩
def InP (w : World) (ps : List PStep) (v : Value) : Prop := ∃ (a : Addr),SlOf v a ps.length ∧ ∀ i s,ps[i]? = some s →
 w.cell? (a.add (i * 3)) = some (.string s.key) ∧ w.cell? ⟨(a.add (i * 3)).block,(a.add (i * 3)).off + 1,none⟩ = some (.int .i64 s.at_) ∧ w.cell? ⟨(a.add (i * 3)).block,(a.add (i * 3)).off + 2,none⟩ = some (.bool s.place) ∧ s.key.size ≤ maxLen
theorem InP.onto {w w' : World} {ps : List PStep} {v : Value} (h : InP w ps v) (hb : Below w.heap.size w w') : InP w' ps v := by
 obtain ⟨a,h1,h2⟩ := h
 exact ⟨a,h1,fun i s hs => ⟨keepCell hb (h2 i s hs).1,keepCell hb (h2 i s hs).2.1,keepCell hb (h2 i s hs).2.2.1,(h2 i s hs).2.2.2⟩⟩
def cmpP : List PStep → List PStep → Int
 | [],[] => 0
 | [],_ :: _ => -1
 | _ :: _,[] => 1
 | a :: p,b :: q => if cstep a b = 0 then cmpP p q else cstep a b
theorem cmpP_drop (p q : List PStep) (j : Nat) (a b : PStep) (ha : p[j]? = some a) (hb : q[j]? = some b) : cmpP (p.drop j) (q.drop j) = if cstep a b = 0 then cmpP (p.drop (j + 1)) (q.drop (j + 1)) else cstep a b := by
 have h1 := lt_of_some ha
 have h2 := lt_of_some hb
 rw [List.drop_eq_getElem_cons h1,List.drop_eq_getElem_cons h2,cmpP]
 rw [(List.getElem?_eq_some_iff.1 ha).2,(List.getElem?_eq_some_iff.1 hb).2]
theorem cmpP_short (p q : List PStep) (j : Nat) (h1 : j < p.length) (h2 : q.length ≤ j) : cmpP (p.drop j) (q.drop j) = 1 := by
 rw [List.drop_eq_getElem_cons h1,List.drop_eq_nil_of_le h2]; rfl
theorem cmpP_end (p q : List PStep) (j : Nat) (h1 : p.length ≤ j) (h : j ≤ q.length) : cmpP (p.drop j) (q.drop j) = if j < q.length then -1 else 0 := by
 rw [List.drop_eq_nil_of_le h1]
 by_cases h2 : j < q.length
 ·rw [if_pos h2,List.drop_eq_getElem_cons h2]; rfl
 ·rw [if_neg h2,List.drop_eq_nil_of_le (by omega)]; rfl
set_option maxRecDepth 100000 in
set_option maxHeartbeats 2000000 in
theorem comp_any (p q : List PStep) (x y : Value) (w : World) (hp : InP w p x) (hq : InP w q y) :
  Calls Tryz.prog 153 #[x,y,.func (.func 154) #[] #[]] w fun e w' => e = .returned (.int .i64 (cmpP p q)) ∧ Below w.heap.size w w' := by
 obtain ⟨a,⟨oa,ca,rfl,ha1,ha2,ha3⟩,hac⟩ := hp
 obtain ⟨b,⟨ob,cb,rfl,hb1,hb2,hb3⟩,hbc⟩ := hq
 unfold maxLen at ha2 hb2
 have HA := hid hac
 have HB := hid hbc
 have HR := hid (show cmpP p q = cmpP (p.drop 0) (q.drop 0) from rfl)
 generalize cmpP p q = r at HR ⊢
 clear hac hbc
 go_enter Tryz.func153,Tryz.ntmps153
 go_wp2_with fail
 go_loopw [13] (fun i wr => ∃ j : Nat,i = .int .i64 j ∧ j ≤ p.length ∧ j ≤ q.length ∧ Hid (r = cmpP (p.drop j) (q.drop j)) ∧ Below w.heap.size w wr) (fun i _ => p.length - (intOf i).toNat)
 case atStart => exact ⟨0,rfl,Nat.zero_le _,Nat.zero_le _,HR,Below.refl _ _⟩
 case round =>
  clear HR
  obtain ⟨j,rfl,hj1,hj2,HJ,hbw⟩ := hrel
  by_cases hlt : j < p.length
  ·obtain ⟨s,hs⟩ : ∃ s,p[j]? = some s := ⟨p[j],List.getElem?_eq_getElem hlt⟩
   obtain rfl := ha3 (by omega)
   obtain ⟨s0,s1,s2,s3⟩ := HA.out j s hs
   have t0 := keepCell hbw s0; have t1 := keepCell hbw s1; have t2 := keepCell hbw s2
   clear s0 s1 s2
   by_cases hlt2 : j < q.length
   ·obtain ⟨u,hu⟩ : ∃ u,q[j]? = some u := ⟨q[j],List.getElem?_eq_getElem hlt2⟩
    obtain rfl := hb3 (by omega)
    obtain ⟨u0,u1,u2,u3⟩ := HB.out j u hu
    have v0 := keepCell hbw u0; have v1 := keepCell hbw u1; have v2 := keepCell hbw u2
    clear u0 u1 u2
    have hal := valloc_bel (Below.refl wr.heap.size wr) (.cells #[.string s.key,.int .i64 s.at_,.bool s.place] 78)
    have y0 := keepCell hal v0; have y1 := keepCell hal v1; have y2 := keepCell hal v2
    clear v0 v1 v2
    have HJ2 := hid (HJ.out.trans (cmpP_drop p q j s u hs hu))
    have HCS := hid (fun X : World => cstep_any s u X)
    simp only [pv] at HCS
    generalize cstep s u = z at HCS HJ2
    clear HJ hs hu
    by_cases hz : z = 0
    ·have tz : (z != 0) = false := by simpa using hz
     have HZ := hid hz
     clear hz
     go_wp2_with (go_at_call 154; go_must (refine (HCS.out _).mono ?_; rintro e w3 ⟨rfl,hb3'⟩))
     go_roundw
     case rel => exact ⟨j + 1,val_int (by omega),hlt,hlt2,hid (by rw [HJ2.out,if_pos HZ.out]),vonto (valloc_bel (valloc_bel hbw _) _) hb3'⟩
     case measure => simp [intOf]; omega
    ·have tz : (z != 0) = true := by simpa using hz
     have HF := hid (show r = z by rw [HJ2.out,if_neg hz])
     clear hz
     go_wp2_with (go_at_call 154; go_must (refine (HCS.out _).mono ?_; rintro e w3 ⟨rfl,hb3'⟩))
     go_ret
     exact ⟨ret_int HF.out.symm,vonto (valloc_bel (valloc_bel hbw _) _) hb3'⟩
   ·have HF := hid (show r = 1 by rw [HJ.out,cmpP_short p q j hlt (by omega)])
    go_wp2_with fail
    go_ret
    exact ⟨ret_int HF.out.symm,valloc_bel hbw _⟩
  ·have HF := hid (HJ.out.trans (cmpP_end p q j (by omega) hj2))
   have hjp : j = p.length := by omega
   subst hjp
   by_cases hlt2 : p.length < q.length
   ·have HF2 := hid (show r = -1 by rw [HF.out,if_pos hlt2])
    go_wp2_with fail
    go_ret
    exact ⟨ret_int HF2.out.symm,hbw⟩
   ·have HF2 := hid (show r = 0 by rw [HF.out,if_neg hlt2])
    go_wp2_with fail
    go_ret
    exact ⟨ret_int HF2.out.symm,hbw⟩
theorem pcmp_any (p q : List PStep) (x y : Value) (w : World) (hp : InP w p x) (hq : InP w q y) :
  Calls Tryz.prog 105 #[x,y] w fun e w' => e = .returned (.int .i64 (cmpP p q)) ∧ Below w.heap.size w w' := by
 have HC := hid (comp_any p q x y w hp hq)
 obtain ⟨a,⟨oa,ca,rfl,-⟩,-⟩ := hp
 obtain ⟨b,⟨ob,cb,rfl,-⟩,-⟩ := hq
 generalize cmpP p q = r at HC ⊢
 go_enter Tryz.func105,Tryz.ntmps105
 go_wp2_with (go_at_call 153; go_must (refine HC.out.mono ?_; rintro e w1 ⟨rfl,hb1⟩))
 go_ret
 exact ⟨rfl,hb1⟩
def digB (l : List UInt8) : Bool := !l.isEmpty && !(decide (l.getD 0 0 = 48) && decide (1 < l.length)) && l.all (fun b => decide (48 ≤ b.toNat) && decide (b.toNat ≤ 57))
theorem first_at (s : ByteArray) (h : 0 < s.size) : s.data.toList.getD 0 0 = s[0] := by
 have hd : 0 < s.data.toList.length := by rw [size_list]; exact h
 rw [List.getD,List.getElem?_eq_getElem hd]; rfl
set_option maxRecDepth 100000 in
set_option maxHeartbeats 1000000 in
theorem pdig_any (s : ByteArray) (w : World) (hs : s.size ≤ maxLen) :
  Calls Tryz.prog 129 #[.string s] w fun e w' => e = .returned (.bool (digB s.data.toList)) ∧ Below w.heap.size w w' := by
 unfold maxLen at hs
 have HZ := hid (size_list s)
 by_cases h1 : s.size = 0
 ·have hs0 : s = ⟨#[]⟩ := by
   have : s.data.toList = [] := List.eq_nil_of_length_eq_zero (by rw [HZ.out]; exact h1)
   rw [mkS_of s _ rfl,this]; rfl
  subst hs0
  go_enter Tryz.func129,Tryz.ntmps129
  go_wp2_with fail
  go_ret
  exact ⟨rfl,Below.refl _ _⟩
 ·have hne : (s.toList == (⟨#[]⟩ : ByteArray).toList) = false := by
   rw [beq_eq_false_iff_ne,Lib.toList_data]
   intro hc
   have := congrArg List.length hc
   rw [HZ.out] at this
   exact h1 (by simpa using this)
  have h0 : 0 < s.size := by omega
  have hem : s.toList.isEmpty = false := by
   rw [Lib.toList_data,List.isEmpty_eq_false_iff]
   intro hc
   have := congrArg List.length hc
   rw [HZ.out] at this
   exact h1 (by simpa using this)
  have hn0 : ¬ s.toList = [] := by intro hc; rw [hc] at hem; cases hem
  have hdb : digB s.data.toList = (!(decide (s[0] = 48) && decide (1 < s.size)) && s.data.toList.all (fun b => decide (48 ≤ b.toNat) && decide (b.toNat ≤ 57))) := by
   unfold digB
   rw [first_at s h0,HZ.out,← Lib.toList_data,hem]; rfl
  have HDB := hid hdb
  clear hdb hne
  by_cases hz : s[0] = 48 ∧ 1 < s.size
  ·have HF := hid (show digB s.data.toList = false by rw [HDB.out,decide_eq_true hz.1,decide_eq_true hz.2]; rfl)
   have t0 : s[0].toNat = 48 := by rw [hz.1]; rfl
   have t1 : (1 : Int) < s.size := by omega
   clear hz HDB
   go_enter Tryz.func129,Tryz.ntmps129
   go_wp2_with fail
   go_ret
   exact ⟨ret_bool HF.out.symm,Below.refl _ _⟩
  ·have H := hid (show digB s.data.toList = s.data.toList.all (fun b => decide (48 ≤ b.toNat) && decide (b.toNat ≤ 57)) by
    rw [HDB.out]
    by_cases ha : s[0] = 48
    ·rw [decide_eq_false (show ¬ 1 < s.size from fun hb => hz ⟨ha,hb⟩)]; simp
    ·rw [decide_eq_false ha]; simp)
   have hcv := run_bytes_of_string (P := Tryz.prog) w 9 116 5 s Tryz.underlying9 Tryz.underlying116 Tryz.underlying5
   have hz2 : ¬ (s[0].toNat = 48 ∧ 1 < s.size) := fun hh => hz ⟨UInt8.toNat_inj.1 (by rw [hh.1]; rfl),hh.2⟩
   clear HDB hz
   go_enter Tryz.func129,Tryz.ntmps129
   go_upto_region 1 with fail
   go_cut [16] from 5 (fun v wx => v = .bool false ∧ wx = w)
   case first =>
    by_cases ha : s[0].toNat = 48
    ·have hb : ¬ (1 : Int) < s.size := by have := fun h => hz2 ⟨ha,h⟩; omega
     go_wp2_with fail
     go_meet
     exact ⟨rfl,rfl⟩
    ·have hb : ¬ ((s[0].toNat : Nat) : Int) = 48 := by omega
     go_wp2_with fail
     go_meet
     exact ⟨rfl,rfl⟩
   case rest =>
   obtain ⟨rfl,hwc⟩ := hcut
   obtain rfl := hwc.symm
   clear hz2
   go_upto_region 3 with fail
   go_cut [18,19,20] from 5 (fun a b c wx => ∃ cap,a = .slice (some ⟨w.heap.size,0,none⟩) s.size cap ∧ b = .int .i64 s.size ∧ c = .int .i64 0 ∧ s.size ≤ cap ∧ Hid (∀ k (h : k < s.size),wx.cell? ⟨w.heap.size,k,none⟩ = some (.int .u8 (s[k].toNat : Int))) ∧ Hid (Below w.heap.size w wx))
   case first =>
    go_wp2_with fail
    go_meet
    exact ⟨_,rfl,rfl,rfl,grownCap_ge _ _ _ _,(show ∀ k (h : k < s.size),_ = _ from fun k hk => brow_at s k (w.drewN 1) _ _ _ hk),(Below.refl _ _).drew.alloc (by simp) _⟩
   case rest =>
   obtain ⟨cap,rfl,rfl,rfl,hcap,HC,HW⟩ := hcut
   clear hcv
   go_wp2_with fail
   go_loop [20] (fun i => ∃ j : Nat,j ≤ s.size ∧ i = .int .i64 j ∧ Hid (∀ k (h : k < s.size),k < j → 48 ≤ s[k].toNat ∧ s[k].toNat ≤ 57)) (fun i => s.size - (intOf i).toNat)
   case atStart => exact ⟨0,Nat.zero_le _,rfl,fun k h hk => absurd hk (by omega)⟩
   case round =>
    obtain ⟨j,hj,rfl,HJ⟩ := hrel
    by_cases hlt : j < s.size
    ·have HG := hid (getD_at s j hlt)
     have hcell := HC.out j hlt
     by_cases h3 : s[j].toNat < 48
     ·have HF := hid (show digB s.data.toList = false by
       rw [H.out,Bool.eq_false_iff]; intro hc
       have := List.all_eq_true.1 hc s[j] (by rw [← HG.out,List.getD,List.getElem?_eq_getElem (by rw [HZ.out]; exact hlt)]; exact List.getElem_mem _)
       simp at this; omega)
      go_wp2_with fail
      go_ret
      exact ⟨ret_bool HF.out.symm,HW.out⟩
     ·by_cases h4 : s[j].toNat > 57
      ·have HF := hid (show digB s.data.toList = false by
        rw [H.out,Bool.eq_false_iff]; intro hc
        have := List.all_eq_true.1 hc s[j] (by rw [← HG.out,List.getD,List.getElem?_eq_getElem (by rw [HZ.out]; exact hlt)]; exact List.getElem_mem _)
        simp at this; omega)
       go_wp2_with fail
       go_ret
       exact ⟨ret_bool HF.out.symm,HW.out⟩
      ·go_wp2_with fail
       go_round
       case rel => exact ⟨j + 1,hlt,val_int (by omega),fun k h hk => by
        by_cases e : k = j
        ·subst e; exact ⟨by omega,by omega⟩
        ·exact HJ.out k h (by omega)⟩
       case measure => simp [intOf]; omega
    ·have HF := hid (show digB s.data.toList = true by
      rw [H.out]; refine List.all_eq_true.2 fun b hb => ?_
      obtain ⟨k,hk,rfl⟩ := List.getElem_of_mem hb
      have hk' : k < s.size := by rw [← HZ.out]; exact hk
      have := HJ.out k hk' (by omega)
      simp; exact this)
     go_wp2_with fail
     go_ret
     exact ⟨ret_bool HF.out.symm,HW.out⟩
end Go.Proofs.YteimbjamnfkapaaGreatDoor
