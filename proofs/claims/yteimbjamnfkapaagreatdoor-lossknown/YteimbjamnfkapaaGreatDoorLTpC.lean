/- tprint: a key; what is endless. -/
import Derived.Test.YteimbjamnfkapaaGreatDoorLTlC
import Derived.Test.YteimbjamnfkapaaGreatDoorLTlK
import Derived.Test.YteimbjamnfkapaaGreatDoorLFlA
import Derived.Test.YteimbjamnfkapaaGreatDoorLPathFind
import Derived.Test.YteimbjamnfkapaaGreatDoorLFlF
import Derived.Test.YteimbjamnfkapaaGreatDoorLMathDecAll
import Derived.Lib.IndexAny
import Derived.Test.YteimbjamnfkapaaGreatDoorLPathTwo
/- tprint.sayable on trees. -/
/- A number's bytes. -/
/- tprint.sayable on trees: maps, and the whole. -/
namespace Go.Proofs.YteimbjamnfkapaaGreatDoor
open Go.RowKit
def pkB (l : List UInt8) : List UInt8 := if brB l = true then l else qtA true l
theorem tn_kind (l : List UInt8) : decide ((tnR l).kd = 7) = infB (unS l) := by
 unfold tnR
 cases h : infB (unS l) with
 | true => rw [if_pos rfl]; rfl
 | false =>
  rw [if_neg (by decide),decide_eq_false_iff_not]
  have hi : ∀ o,¬ (intR o).kd = 7 := fun o => by
   cases o with
   | none => decide
   | some v => show ¬ (2 : Int) = 7; decide
  split
  ·exact hi _
  ·split
   ·exact hi _
   ·split
    ·unfold nuR numR
     split
     ·split
      ·split
       ·intro k; exact absurd k (by show ¬ (2 : Int) = 7; decide)
       ·intro k; exact absurd k (by show ¬ (3 : Int) = 7; decide)
      ·decide
     ·decide
    ·decide
theorem tn_inf0 (l : List UInt8) (h : infB (unS l) = true) : tnE l = 0 := by unfold tnE; rw [if_pos h]
set_option maxRecDepth 100000 in
set_option maxHeartbeats 1000000 in
theorem tpend_any (s : ByteArray) (w : World) (hs : s.size ≤ 1000000) (hg : GlobN w) :
  Calls Tryz.prog 173 #[.string s] w fun e w' => e = .returned (.bool (infB (unS s.data.toList))) ∧ Below w.heap.size w w' := by
 have CN := hid (fun X (hX : Below w.heap.size w X) => tnumber_any s X hs (hg.on hX))
 have hk := tn_kind s.data.toList
 have h0 := tn_inf0 s.data.toList
 obtain ⟨k,n,x,hv⟩ := vv_parts (tnR s.data.toList)
 rw [hv] at CN
 have hkk : (tnR s.data.toList).kd = k := by unfold vv at hv; injection hv with hv; simp at hv; exact hv.1
 rw [hkk] at hk
 generalize tnE s.data.toList = er at *
 generalize infB (unS s.data.toList) = R at *
 have HB0 := hid (Below.refl w.heap.size w)
 clear hv hkk hg
 by_cases her : er = 0
 ·subst her
  have g1 : ((0 : Int) == 0) = true := rfl
  cases R with
  | true =>
   have hk7 : k = 7 := of_decide_eq_true hk
   subst hk7
   go_enter Tryz.func173,Tryz.ntmps173
   go_wp2_with fail
   go_at_call 231
   refine (CN.out _ HB0.out).mono ?_
   rintro e w1 ⟨rfl,hb1⟩
   have HB1 := hid hb1
   clear hb1 CN
   go_wp2_with fail
   go_ret
   repeat (first | exact ⟨rfl,HB1.out⟩ | exact ⟨rfl,valloc_bel HB1.out _⟩)
  | false =>
   have hk7 : ¬ k = 7 := of_decide_eq_false hk
   have g7 : (k == 7) = false := beq_eq_false_iff_ne.2 hk7
   go_enter Tryz.func173,Tryz.ntmps173
   go_wp2_with fail
   go_at_call 231
   refine (CN.out _ HB0.out).mono ?_
   rintro e w1 ⟨rfl,hb1⟩
   have HB1 := hid hb1
   clear hb1 CN
   go_wp2_with fail
   go_ret
   repeat (first | exact ⟨rfl,HB1.out⟩ | exact ⟨rfl,valloc_bel HB1.out _⟩)
 ·have hR : R = false := by cases R; rfl; exact absurd (h0 rfl) her
  subst hR
  have g1 : (er == 0) = false := beq_eq_false_iff_ne.2 her
  go_enter Tryz.func173,Tryz.ntmps173
  go_wp2_with fail
  go_at_call 231
  refine (CN.out _ HB0.out).mono ?_
  rintro e w1 ⟨rfl,hb1⟩
  have HB1 := hid hb1
  clear hb1 CN
  go_wp2_with fail
  go_ret
  repeat (first | exact ⟨rfl,HB1.out⟩ | exact ⟨rfl,valloc_bel HB1.out _⟩)
end Go.Proofs.YteimbjamnfkapaaGreatDoor
namespace Go.Proofs.YteimbjamnfkapaaGreatDoor
open Go.RowKit
theorem tpwp_gen {P : Program} {c : Code} {Q : Exit → Act → World → Prop} {a : Act} {w : World} (h : ∀ W,W = w → Code.wp P c Q a W) : Code.wp P c Q a w := h w rfl
theorem tpbox (w : World) (a b c d e : Value) : (w.alloc (.cells #[a,b,c,d,e] 29)).cell? ⟨w.heap.size,0,none⟩ = some a ∧ (w.alloc (.cells #[a,b,c,d,e] 29)).cell? ⟨w.heap.size,1,none⟩ = some b ∧ (w.alloc (.cells #[a,b,c,d,e] 29)).cell? ⟨w.heap.size,2,none⟩ = some c ∧ (w.alloc (.cells #[a,b,c,d,e] 29)).cell? ⟨w.heap.size,3,none⟩ = some d ∧ (w.alloc (.cells #[a,b,c,d,e] 29)).cell? ⟨w.heap.size,4,none⟩ = some e := by
 have h := new_cells w [a,b,c,d,e] 29
 have a0 := h 0 _ rfl
 have a1 := h 1 _ rfl
 have a2 := h 2 _ rfl
 have a3 := h 3 _ rfl
 have a4 := h 4 _ rfl
 rw [add_at] at a0 a1 a2 a3 a4
 exact ⟨a0,a1,a2,a3,a4⟩
def fltB (l : List UInt8) : Bool := l.any fun b => decide (b.toNat = 46 ∨ b.toNat = 101 ∨ b.toNat = 69)
mutual
def syT : VT → Bool
 | .mk k _ s L _ V => if k = 0 then false else if k = 3 then fltB s.data.toList else if k = 7 then (stB s.data.toList || infB (unS s.data.toList)) else if k = 5 then syL L else if k = 6 then syL V else true
def syL : List VT → Bool
 | [] => true
 | t :: r => syT t && syL r
end
theorem syL_take (L : List VT) (j : Nat) (t : VT) (h : L[j]? = some t) : syL (L.take (j + 1)) = (syL (L.take j) && syT t) := by
 induction L generalizing j with
 | nil => simp at h
 | cons a r ih =>
  cases j with
  | zero => simp at h; subst h; simp [syL]
  | succ j =>
   simp only [List.getElem?_cons_succ] at h
   simp only [List.take_succ_cons,syL]
   rw [ih j h,Bool.and_assoc]
theorem syL_no (L : List VT) (j : Nat) (t : VT) (h : L[j]? = some t) (ht : syT t = false) : syL L = false := by
 induction L generalizing j with
 | nil => simp at h
 | cons a r ih =>
  cases j with
  | zero => simp at h; subst h; simp [syL,ht]
  | succ j =>
   simp only [List.getElem?_cons_succ] at h
   simp only [syL]
   rw [ih j h,Bool.and_false]
def Say (N : Nat) : Prop := ∀ (T : VT) (x y : Value) (w : World),szT T ≤ N → HV w T x y → plainT T = true → GlobN w →
  Calls Tryz.prog 119 #[vv T x y] w fun e w' => e = .returned (.bool (syT T)) ∧ Below w.heap.size w w'
set_option maxRecDepth 100000 in
set_option maxHeartbeats 2000000 in
theorem tplist_of (N : Nat) (ih : Say N) (L : List VT) (x : Value) (a : Addr) (f g : Nat → Value) (w : World) (hg : GlobN w) (hL : SlOf x a L.length) (cL : ∀ i t,L[i]? = some t → Node w (a.add (i * 5)) t (f i) (g i)) (rL : ∀ i t,L[i]? = some t → HV w t (f i) (g i)) (hN : szL L ≤ N) (hp : plainL L = true) :
  Calls Tryz.prog 174 #[x] w fun e w' => e = .returned (.bool (syL L)) ∧ Below w.heap.size w w' := by
 obtain ⟨oL,capL,rfl,hL1,hL2,hL3⟩ := hL
 unfold maxLen at hL2
 have HG := hid hg
 have HP := hid ((plainL_get L).1 hp)
 obtain ⟨R,hR⟩ : ∃ R,syL L = R := ⟨_,rfl⟩
 have HR := hid hR
 rw [hR]
 clear hR hg hp
 go_enter Tryz.func174,Tryz.ntmps174
 go_wp2_with fail
 go_loopw [7] (fun i wr => ∃ j : Nat,j ≤ L.length ∧ i = .int .i64 j ∧ Hid (Below w.heap.size w wr) ∧ Hid (syL (L.take j) = true)) (fun i _ => L.length - (intOf i).toNat)
 case atStart => exact ⟨0,Nat.zero_le _,rfl,Below.refl _ _,rfl⟩
 case round =>
  obtain ⟨j,hj,rfl,HB,HA⟩ := hrel
  by_cases hlt : j < L.length
  ·obtain ⟨t,ht⟩ : ∃ t,L[j]? = some t := ⟨L[j],List.getElem?_eq_getElem hlt⟩
   obtain rfl := hL3 (by omega)
   obtain ⟨d0,d1,d2,d3,d4⟩ := (cL j t ht).onto HB.out
   obtain ⟨o1,n1,c1,o2,n2,c2,hp,hq⟩ := hv_slices (rL j t ht)
   have HRr := hid ((rL j t ht).onto HB.out)
   rw [hp,hq] at HRr
   rw [hp] at d3
   rw [hq] at d4
   have hszs := szL_take_succ L j t ht
   have hsl1 := szL_take_le L (j + 1)
   have HT := hid (syL_take L j t ht)
   have HX := hid (fun h => syL_no L j t ht h)
   have HSTEP := hid (fun (X : World) (hX : Below wr.heap.size wr X) => ih t _ _ X (by omega) (HRr.out.onto hX) (HP.out j t ht) (HG.out.on (vonto HB.out hX)))
   simp only [vv] at HSTEP
   generalize syT t = q at *
   clear hp hq
   go_upto_region 4 with fail
   refine tpwp_gen ?_
   intro W hW
   obtain ⟨g0,g1,g2,g3,g4⟩ := tpbox wr (.int .i64 t.kd) (.int .i64 t.nm) (.string t.st) (.slice o1 n1 c1) (.slice o2 n2 c2)
   have hbW : Below wr.heap.size wr W := by rw [hW]; exact valloc_bel (Below.refl _ _) _
   rw [← hW] at g0 g1 g2 g3 g4
   have HBW := hid (vonto HB.out hbW)
   have C1 := hid (HSTEP.out W hbW)
   clear hW hbW HSTEP d0 d1 d2 d3 d4
   cases q with
   | true =>
    go_wp2_with fail
    go_at_call 119
    refine C1.out.mono ?_
    rintro e w1 ⟨rfl,hb1⟩
    have HB1 := hid (vonto HBW.out hb1)
    clear hb1 C1
    go_wp2_with fail
    go_roundw
    case rel => exact ⟨j + 1,hlt,val_int (by omega),HB1.out,by rw [HT.out,HA.out]; rfl⟩
    case measure => simp [intOf]; omega
   | false =>
    have HFa : Hid (R = false) := hid (by rw [← HR.out,HX.out rfl])
    go_wp2_with fail
    go_at_call 119
    refine C1.out.mono ?_
    rintro e w1 ⟨rfl,hb1⟩
    have HB1 := hid (vonto HBW.out hb1)
    clear hb1 C1
    go_wp2_with fail
    go_ret
    exact ⟨by rw [HFa.out]; rfl,HB1.out⟩
  ·obtain rfl : j = L.length := by omega
   have HTr : Hid (R = true) := hid (by rw [← HR.out]; have := HA.out; rw [List.take_length] at this; exact this)
   go_wp2_with fail
   go_ret
   exact ⟨by rw [HTr.out]; rfl,HB.out⟩
end Go.Proofs.YteimbjamnfkapaaGreatDoor
/- loss: has a tree a stamp? -/
namespace Go.Proofs.YteimbjamnfkapaaGreatDoor
open Go.RowKit
mutual
def stpT : VT → Bool
 | .mk k _ _ L _ V => decide (k = 7) || (stpL L || stpL V)
def stpL : List VT → Bool
 | [] => false
 | t :: r => stpT t || stpL r
end
theorem stpT_eq (T : VT) : stpT T = (decide (T.kd = 7) || (stpL T.ls || stpL T.vs)) := by
 cases T with
 | mk k n s L K V => rw [stpT]; rfl
theorem stpL_any : ∀ L : List VT,stpL L = L.any stpT
 | [] => rfl
 | t :: r => by rw [stpL,stpL_any r]; rfl
def Stp (N : Nat) : Prop := ∀ (T : VT) (x y : Value) (w : World),szT T ≤ N → HV w T x y →
  Calls Tryz.prog 65 #[vv T x y] w fun e w' => e = .returned (.bool (stpT T)) ∧ Below w.heap.size w w'
set_option maxRecDepth 100000 in
set_option maxHeartbeats 2000000 in
theorem stlist_of (N : Nat) (ih : Stp N) (L : List VT) (x : Value) (a : Addr) (f g : Nat → Value) (w : World) (hL : SlOf x a L.length) (cL : ∀ i t,L[i]? = some t → Node w (a.add (i * 5)) t (f i) (g i)) (rL : ∀ i t,L[i]? = some t → HV w t (f i) (g i)) (hN : szL L ≤ N) :
  Calls Tryz.prog 169 #[x,.func (.func 65) #[] #[]] w (IdxPost (stpL L) w) := by
 obtain ⟨o,cap,rfl,h1,h2,h3⟩ := hL
 unfold maxLen at h2
 rw [stpL_any]
 obtain ⟨R,hR⟩ : ∃ R,L.any stpT = R := ⟨_,rfl⟩
 have HR := hid hR
 rw [hR]
 clear hR
 unfold IdxPost
 go_enter Tryz.func169,Tryz.ntmps169
 go_wp2_with fail
 go_loopw [8] (fun x wr => ∃ j : Nat,x = .int .i64 j ∧ j ≤ L.length ∧ Hid (∀ (i : Nat) (d : VT),i < j → L[i]? = some d → stpT d = false) ∧ Hid (Below w.heap.size w wr)) (fun x _ => L.length - (intOf x).toNat)
 case atStart => exact ⟨0,rfl,Nat.zero_le _,fun i d h => absurd h (Nat.not_lt_zero _),Below.refl _ _⟩
 case round =>
  obtain ⟨j,rfl,hj,HJ,HB⟩ := hrel
  by_cases hlt : j < L.length
  ·obtain ⟨t,ht⟩ : ∃ t,L[j]? = some t := ⟨L[j],List.getElem?_eq_getElem hlt⟩
   obtain rfl := h3 (by omega)
   obtain ⟨d0,d1,d2,d3,d4⟩ := (cL j t ht).onto HB.out
   obtain ⟨o1,n1,c1,o2,n2,c2,hp,hq⟩ := hv_slices (rL j t ht)
   have HRr := (rL j t ht).onto HB.out
   rw [hp,hq] at HRr
   rw [hp] at d3
   rw [hq] at d4
   have hszs := szL_take_succ L j t ht
   have hsl1 := szL_take_le L (j + 1)
   have HS := hid (ih t _ _ wr (by omega) HRr)
   simp only [vv] at HS
   have HC := hid ht
   clear hp hq HRr hszs hsl1
   cases hpr : stpT t with
   | true =>
    have HR2 := hid (HR.out.symm.trans (any_yes ht hpr))
    rw [hpr] at HS
    clear hpr ht
    go_wp2_with (go_at_call 65; go_must (refine HS.out.mono ?_; rintro e w1 ⟨rfl,hb1⟩))
    go_ret
    exact ⟨_,rfl,by rw [HR2.out]; simp,vonto HB.out hb1⟩
   | false =>
    have HJ2 := hid (show ∀ (i : Nat) (d : VT),i < j + 1 → L[i]? = some d → stpT d = false from fun i d hi hd => by
     by_cases e : i = j
     ·subst e; rw [ht] at hd; cases hd; exact hpr
     ·exact HJ.out i d (by omega) hd)
    rw [hpr] at HS
    clear hpr ht
    go_wp2_with (go_at_call 65; go_must (refine HS.out.mono ?_; rintro e w1 ⟨rfl,hb1⟩))
    go_roundw
    case rel => exact ⟨j + 1,val_int (by omega),hlt,HJ2,vonto HB.out hb1⟩
    case measure => simp [intOf]; omega
  ·have HR2 := hid (HR.out.symm.trans (any_no (fun i d hd => HJ.out i d (by have := lt_of_some hd; omega) hd)))
   go_wp2_with fail
   go_ret
   exact ⟨_,rfl,by rw [HR2.out]; rfl,HB.out⟩
set_option maxRecDepth 100000 in
set_option maxHeartbeats 2000000 in
theorem stpair_of (N : Nat) (ih : Stp N) (c : ByteArray) (t : VT) (o1 : Option Addr) (n1 c1 : Nat) (o2 : Option Addr) (n2 c2 : Nat) (w : World) (ht : HV w t (.slice o1 n1 c1) (.slice o2 n2 c2)) (hN : szT t ≤ N) :
  Calls Tryz.prog 118 #[.agg #[.string c,.int .i64 t.kd,.int .i64 t.nm,.string t.st,.slice o1 n1 c1,.slice o2 n2 c2]] w fun e w' => e = .returned (.bool (stpT t)) ∧ Below w.heap.size w w' := by
 have hb0 : Below w.heap.size w (w.alloc (.cells #[.string c,.int .i64 t.kd,.int .i64 t.nm,.string t.st,.slice o1 n1 c1,.slice o2 n2 c2] 60)) := valloc_bel (Below.refl _ _) _
 have HS := hid (ih t _ _ _ hN (ht.onto hb0))
 simp only [vv] at HS
 have HB := hid hb0
 clear hb0 ht
 generalize stpT t = R at *
 go_enter Tryz.func118,Tryz.ntmps118
 go_wp2_with fail
 go_at_call 65
 refine HS.out.mono ?_
 rintro e w1 ⟨rfl,hb1⟩
 have HB1 := hid (vonto HB.out hb1)
 go_wp2_with fail
 go_ret
 exact ⟨rfl,HB1.out⟩
set_option maxRecDepth 100000 in
set_option maxHeartbeats 2000000 in
theorem stmap_of (N : Nat) (ih : Stp N) (V : List VT) (K : List ByteArray) (y : Value) (w : World) (hM : InM w K V y) (hN : szL V ≤ N) :
  Calls Tryz.prog 170 #[y,.func (.func 118) #[] #[]] w (IdxPost (stpL V) w) := by
 obtain ⟨b,p,q,⟨o,cap,rfl,h1,h2,h3⟩,hK,cK,cM,rM⟩ := hM
 unfold maxLen at h2
 rw [stpL_any]
 obtain ⟨R,hR⟩ : ∃ R,V.any stpT = R := ⟨_,rfl⟩
 have HR := hid hR
 rw [hR]
 clear hR
 unfold IdxPost
 go_enter Tryz.func170,Tryz.ntmps170
 go_wp2_with fail
 go_loopw [8] (fun x wr => ∃ j : Nat,x = .int .i64 j ∧ j ≤ V.length ∧ Hid (∀ (i : Nat) (d : VT),i < j → V[i]? = some d → stpT d = false) ∧ Hid (Below w.heap.size w wr)) (fun x _ => V.length - (intOf x).toNat)
 case atStart => exact ⟨0,rfl,Nat.zero_le _,fun i d h => absurd h (Nat.not_lt_zero _),Below.refl _ _⟩
 case round =>
  obtain ⟨j,rfl,hj,HJ,HB⟩ := hrel
  by_cases hlt : j < V.length
  ·obtain ⟨t,ht⟩ : ∃ t,V[j]? = some t := ⟨V[j],List.getElem?_eq_getElem hlt⟩
   obtain ⟨c,hc⟩ : ∃ c,K[j]? = some c := ⟨K[j],List.getElem?_eq_getElem (by omega)⟩
   obtain rfl := h3 (by omega)
   have hnode := (cM j t ht).onto HB.out
   simp only [Node,nx] at hnode
   obtain ⟨d0,d1,d2,d3,d4⟩ := hnode
   have k0 := keepCell HB.out (cK j c hc).1
   obtain ⟨o1,n1,c1,o2,n2,c2,hp,hq⟩ := hv_slices (rM j t ht)
   have HRr := (rM j t ht).onto HB.out
   rw [hp,hq] at HRr
   rw [hp] at d3
   rw [hq] at d4
   have hszs := szL_take_succ V j t ht
   have hsl1 := szL_take_le V (j + 1)
   have HS := hid (stpair_of N ih c t o1 n1 c1 o2 n2 c2 wr HRr (by omega))
   have HC := hid ht
   clear hp hq HRr hszs hsl1 hc
   cases hpr : stpT t with
   | true =>
    have HR2 := hid (HR.out.symm.trans (any_yes ht hpr))
    rw [hpr] at HS
    clear hpr ht
    go_wp2_with (go_at_call 118; go_must (refine HS.out.mono ?_; rintro e w1 ⟨rfl,hb1⟩))
    go_ret
    exact ⟨_,rfl,by rw [HR2.out]; simp,vonto HB.out hb1⟩
   | false =>
    have HJ2 := hid (show ∀ (i : Nat) (d : VT),i < j + 1 → V[i]? = some d → stpT d = false from fun i d hi hd => by
     by_cases e : i = j
     ·subst e; rw [ht] at hd; cases hd; exact hpr
     ·exact HJ.out i d (by omega) hd)
    rw [hpr] at HS
    clear hpr ht
    go_wp2_with (go_at_call 118; go_must (refine HS.out.mono ?_; rintro e w1 ⟨rfl,hb1⟩))
    go_roundw
    case rel => exact ⟨j + 1,val_int (by omega),hlt,HJ2,vonto HB.out hb1⟩
    case measure => simp [intOf]; omega
  ·have HR2 := hid (HR.out.symm.trans (any_no (fun i d hd => HJ.out i d (by have := lt_of_some hd; omega) hd)))
   go_wp2_with fail
   go_ret
   exact ⟨_,rfl,by rw [HR2.out]; rfl,HB.out⟩
set_option maxRecDepth 100000 in
set_option maxHeartbeats 2000000 in
theorem stcon1_of (R : Bool) (x : Value) (w : World) (h : ∃ o n c,x = .slice o n c) (C : Hid (Calls Tryz.prog 169 #[x,.func (.func 65) #[] #[]] w (IdxPost R w))) :
  Calls Tryz.prog 116 #[x,.func (.func 65) #[] #[]] w fun e w' => e = .returned (.bool R) ∧ Below w.heap.size w w' := by
 obtain ⟨o,n,c,rfl⟩ := h
 go_enter Tryz.func116,Tryz.ntmps116
 go_wp2_with (go_at_call 169; go_must (refine C.out.mono ?_; rintro e w1 ⟨z,rfl,hz,hb1⟩))
 go_ret
 exact ⟨ret_bool (by first | (rw [← hz]; done) | (rw [← hz,Bool.eq_iff_iff]; done) | (rw [← hz,Bool.eq_iff_iff]; simp; done) | (rw [← hz,Bool.eq_iff_iff]; simp; omega)),hb1⟩
set_option maxRecDepth 100000 in
set_option maxHeartbeats 2000000 in
theorem stcon2_of (R : Bool) (x : Value) (w : World) (h : ∃ o n c,x = .slice o n c) (C : Hid (Calls Tryz.prog 170 #[x,.func (.func 118) #[] #[]] w (IdxPost R w))) :
  Calls Tryz.prog 117 #[x,.func (.func 118) #[] #[]] w fun e w' => e = .returned (.bool R) ∧ Below w.heap.size w w' := by
 obtain ⟨o,n,c,rfl⟩ := h
 go_enter Tryz.func117,Tryz.ntmps117
 go_wp2_with (go_at_call 170; go_must (refine C.out.mono ?_; rintro e w1 ⟨z,rfl,hz,hb1⟩))
 go_ret
 exact ⟨ret_bool (by first | (rw [← hz]; done) | (rw [← hz,Bool.eq_iff_iff]; done) | (rw [← hz,Bool.eq_iff_iff]; simp; done) | (rw [← hz,Bool.eq_iff_iff]; simp; omega)),hb1⟩
set_option maxRecDepth 100000 in
set_option maxHeartbeats 2000000 in
theorem stamped_of : ∀ N,Stp N
 | 0 => fun T x y w h => by have := szT_pos T; omega
 | N + 1 => fun T x y w h hT => by
  have ih := stamped_of N
  have hsz : szT T = 1 + szL T.ls + szL T.vs := by cases T with | mk k n s L K V => simp only [szT,VT.ls,VT.vs]
  have HI := hid hT.inL
  have HM := hid hT.inM
  obtain ⟨oL,nL,cL,oM,nM,cM,rfl,rfl⟩ := hv_slices hT
  have C1 := hid (fun (X : World) (hX : Below w.heap.size w X) => stcon1_of (stpL T.ls) (.slice oL nL cL) X ⟨_,_,_,rfl⟩ (hid (by
   obtain ⟨a,f,g,q1,q2,q3⟩ := HI.out.onto hX
   exact stlist_of N ih T.ls _ a f g X q1 q2 q3 (by omega))))
  have C2 := hid (fun (X : World) (hX : Below w.heap.size w X) => stcon2_of (stpL T.vs) (.slice oM nM cM) X ⟨_,_,_,rfl⟩ (hid (stmap_of N ih T.vs T.ks _ X (HM.out.onto hX) (by omega))))
  rw [stpT_eq]
  have HB0 := hid (valloc_bel (Below.refl w.heap.size w) (.cells #[.int .i64 T.kd,.int .i64 T.nm,.string T.st,.slice oL nL cL,.slice oM nM cM] 29))
  obtain ⟨f0,f1,f2,f3,f4⟩ := tpbox w (.int .i64 T.kd) (.int .i64 T.nm) (.string T.st) (.slice oL nL cL) (.slice oM nM cM)
  simp only [vv]
  generalize stpL T.ls = R1 at *
  generalize stpL T.vs = R2 at *
  clear hT HI HM hsz h ih
  by_cases k7 : T.kd = 7
  ·rw [decide_eq_true k7,Bool.true_or]
   rw [k7] at HB0 f0 f1 f2 f3 f4 ⊢
   clear C1 C2
   go_enter Tryz.func65,Tryz.ntmps65
   go_wp2_with fail
   go_ret
   exact ⟨rfl,HB0.out⟩
  ·rw [decide_eq_false k7,Bool.false_or]
   obtain ⟨k7a,k7b⟩ := ikey T.kd 7 k7
   cases R1 with
   | true =>
    go_enter Tryz.func65,Tryz.ntmps65
    go_wp2_with fail
    go_at_call 116
    refine (C1.out _ HB0.out).mono ?_
    rintro e w1 ⟨rfl,hb1⟩
    have HB1 := hid (vonto HB0.out hb1)
    go_wp2_with fail
    go_ret
    exact ⟨rfl,HB1.out⟩
   | false =>
    go_enter Tryz.func65,Tryz.ntmps65
    go_wp2_with fail
    go_at_call 116
    refine (C1.out _ HB0.out).mono ?_
    rintro e w1 ⟨rfl,hb1⟩
    have HB1 := hid (vonto HB0.out hb1)
    replace f0 := keepCell hb1 f0
    replace f1 := keepCell hb1 f1
    replace f2 := keepCell hb1 f2
    replace f3 := keepCell hb1 f3
    replace f4 := keepCell hb1 f4
    clear hb1 C1
    go_wp2_with fail
    go_at_call 117
    refine (C2.out _ HB1.out).mono ?_
    rintro e w2 ⟨rfl,hb2⟩
    have HB2 := hid (vonto HB1.out hb2)
    go_wp2_with fail
    go_ret
    exact ⟨rfl,HB2.out⟩
end Go.Proofs.YteimbjamnfkapaaGreatDoor
namespace Go.Proofs.YteimbjamnfkapaaGreatDoor
open Go
theorem na_dig {l : List UInt8} (h : l.all isD = true) : ∀ b ∈ l,b.toNat < 128 := fun b hb => by
 have := isD_bd (List.all_eq_true.1 h b hb); omega
theorem na_run {l : List UInt8} (h : runN l = l.length) : ∀ b ∈ l,b.toNat < 128 := by
 have e : l.takeWhile isD = l := by
  have := runN_take l
  rw [h,List.take_length] at this; exact this.symm
 have := tw_all l
 rw [e] at this
 exact na_dig this
theorem na_getD {l : List UInt8} (h : ¬ (l.getD 0 0).toNat = 0) : ∃ a t,l = a :: t ∧ l.getD 0 0 = a := by
 cases l with
 | nil => exact absurd rfl h
 | cons a t => exact ⟨a,t,rfl,rfl⟩
theorem num_asc {l : List UInt8} (h : numB l = true) : ∀ b ∈ l,b.toNat < 128 := by
 unfold numB pOk at h
 simp only [Bool.and_eq_true] at h
 obtain ⟨⟨⟨⟨-,-⟩,hE⟩,-⟩,-⟩ := h
 have hS : ∀ b ∈ pS l,b.toNat < 128 := by
  unfold pEok at hE
  rw [Bool.or_eq_true] at hE
  rcases hE with hE | hE
  ·rw [decide_eq_true_iff] at hE; rw [hE]; intro b hb; cases hb
  ·simp only [Bool.and_eq_true,decide_eq_true_eq] at hE
   obtain ⟨⟨h1,-⟩,h3⟩ := hE
   unfold pE at h1
   rw [Bool.or_eq_true,decide_eq_true_iff,decide_eq_true_iff] at h1
   obtain ⟨a,t,e,ha⟩ := na_getD (l := pS l) (by omega)
   rw [ha] at h1
   have hP : pP l = t := by unfold pP; rw [e]; rfl
   rw [hP] at h3
   have hD := na_run h3
   intro b hb
   rw [e] at hb
   rcases List.mem_cons.1 hb with rfl | hb
   ·omega
   ·unfold pD at hD
    by_cases hs : pSg t = true
    ·rw [if_pos hs] at hD
     unfold pSg at hs
     rw [Bool.or_eq_true,decide_eq_true_iff,decide_eq_true_iff] at hs
     obtain ⟨c,u,e2,hc⟩ := na_getD (l := t) (by omega)
     rw [hc] at hs
     rw [e2] at hb hD
     rcases List.mem_cons.1 hb with rfl | hb
     ·omega
     ·exact hD b hb
    ·rw [if_neg hs] at hD; exact hD b hb
 have hR : ∀ b ∈ pR l,b.toNat < 128 := by
  unfold pS at hS
  by_cases hd : pDot l = true
  ·rw [if_pos hd] at hS
   unfold pDot at hd
   rw [decide_eq_true_iff] at hd
   obtain ⟨a,t,e,ha⟩ := na_getD (l := pR l) (by omega)
   rw [ha] at hd
   rw [e] at hS ⊢
   intro b hb
   rcases List.mem_cons.1 hb with rfl | hb
   ·omega
   ·rw [← List.takeWhile_append_dropWhile (p := isD) (l := t)] at hb
    rcases List.mem_append.1 hb with hb | hb
    ·exact na_dig (tw_all t) b hb
    ·exact hS b hb
  ·rw [if_neg hd] at hS; exact hS
 have hU : ∀ b ∈ pU l,b.toNat < 128 := by
  intro b hb
  rw [← List.takeWhile_append_dropWhile (p := isD) (l := pU l)] at hb
  rcases List.mem_append.1 hb with hb | hb
  ·exact na_dig (tw_all _) b hb
  ·exact hR b hb
 unfold pU at hU
 by_cases hn : pNeg l = true
 ·rw [if_pos hn] at hU
  unfold pNeg at hn
  rw [decide_eq_true_iff] at hn
  obtain ⟨a,t,e,ha⟩ := na_getD (l := l) (by omega)
  rw [ha] at hn
  rw [e] at hU ⊢
  intro b hb
  rcases List.mem_cons.1 hb with rfl | hb
  ·omega
  ·exact hU b hb
 ·rw [if_neg hn] at hU; exact hU
end Go.Proofs.YteimbjamnfkapaaGreatDoor
namespace Go.Proofs.YteimbjamnfkapaaGreatDoor
open Go.RowKit
theorem tpbox6 (w : World) (k a b c d e : Value) : (w.alloc (.cells #[k,a,b,c,d,e] 60)).cell? ⟨w.heap.size,0,none⟩ = some k ∧ (w.alloc (.cells #[k,a,b,c,d,e] 60)).cell? ⟨w.heap.size,1,none⟩ = some a ∧ (w.alloc (.cells #[k,a,b,c,d,e] 60)).cell? ⟨w.heap.size,2,none⟩ = some b ∧ (w.alloc (.cells #[k,a,b,c,d,e] 60)).cell? ⟨w.heap.size,3,none⟩ = some c ∧ (w.alloc (.cells #[k,a,b,c,d,e] 60)).cell? ⟨w.heap.size,4,none⟩ = some d ∧ (w.alloc (.cells #[k,a,b,c,d,e] 60)).cell? ⟨w.heap.size,5,none⟩ = some e := by
 have h := new_cells w [k,a,b,c,d,e] 60
 have a0 := h 0 _ rfl
 have a1 := h 1 _ rfl
 have a2 := h 2 _ rfl
 have a3 := h 3 _ rfl
 have a4 := h 4 _ rfl
 have a5 := h 5 _ rfl
 rw [add_at] at a0 a1 a2 a3 a4 a5
 exact ⟨a0,a1,a2,a3,a4,a5⟩
set_option maxRecDepth 100000 in
set_option maxHeartbeats 2000000 in
theorem tppairs_of (N : Nat) (ih : Say N) (L : List VT) (K : List ByteArray) (x : Value) (a : Addr) (f g : Nat → Value) (w : World) (hg : GlobN w) (hL : SlOf x a L.length) (hK : K.length = L.length) (cK : ∀ i u,K[i]? = some u → w.cell? (a.add (i * 6)) = some (.string u) ∧ u.size ≤ maxLen) (cL : ∀ i t,L[i]? = some t → Node w (nx (a.add (i * 6))) t (f i) (g i)) (rL : ∀ i t,L[i]? = some t → HV w t (f i) (g i)) (hN : szL L ≤ N) (hp : plainL L = true) :
  Calls Tryz.prog 175 #[x] w fun e w' => e = .returned (.bool (syL L)) ∧ Below w.heap.size w w' := by
 obtain ⟨oL,capL,rfl,hL1,hL2,hL3⟩ := hL
 unfold maxLen at hL2
 have HG := hid hg
 have HP := hid ((plainL_get L).1 hp)
 obtain ⟨R,hR⟩ : ∃ R,syL L = R := ⟨_,rfl⟩
 have HR := hid hR
 rw [hR]
 clear hR hg hp
 go_enter Tryz.func175,Tryz.ntmps175
 go_wp2_with fail
 go_loopw [7] (fun i wr => ∃ j : Nat,j ≤ L.length ∧ i = .int .i64 j ∧ Hid (Below w.heap.size w wr) ∧ Hid (syL (L.take j) = true)) (fun i _ => L.length - (intOf i).toNat)
 case atStart => exact ⟨0,Nat.zero_le _,rfl,Below.refl _ _,rfl⟩
 case round =>
  obtain ⟨j,hj,rfl,HB,HA⟩ := hrel
  by_cases hlt : j < L.length
  ·obtain ⟨t,ht⟩ : ∃ t,L[j]? = some t := ⟨L[j],List.getElem?_eq_getElem hlt⟩
   obtain rfl := hL3 (by omega)
   obtain ⟨c,hc⟩ : ∃ c,K[j]? = some c := ⟨K[j],List.getElem?_eq_getElem (by omega)⟩
   have dk := keepCell HB.out (cK j c hc).1
   have hnode := (cL j t ht).onto HB.out
   simp only [Node,nx] at hnode
   obtain ⟨d0,d1,d2,d3,d4⟩ := hnode
   obtain ⟨o1,n1,c1,o2,n2,c2,hp,hq⟩ := hv_slices (rL j t ht)
   have HRr := hid ((rL j t ht).onto HB.out)
   rw [hp,hq] at HRr
   rw [hp] at d3
   rw [hq] at d4
   have hszs := szL_take_succ L j t ht
   have hsl1 := szL_take_le L (j + 1)
   have HT := hid (syL_take L j t ht)
   have HX := hid (fun h => syL_no L j t ht h)
   have HSTEP := hid (fun (X : World) (hX : Below wr.heap.size wr X) => ih t _ _ X (by omega) (HRr.out.onto hX) (HP.out j t ht) (HG.out.on (vonto HB.out hX)))
   simp only [vv] at HSTEP
   generalize syT t = q at *
   clear hp hq
   go_upto_region 4 with fail
   refine tpwp_gen ?_
   intro W hW
   obtain ⟨gk,g0,g1,g2,g3,g4⟩ := tpbox6 wr (.string c) (.int .i64 t.kd) (.int .i64 t.nm) (.string t.st) (.slice o1 n1 c1) (.slice o2 n2 c2)
   have hbW : Below wr.heap.size wr W := by rw [hW]; exact valloc_bel (Below.refl _ _) _
   rw [← hW] at gk g0 g1 g2 g3 g4
   have HBW := hid (vonto HB.out hbW)
   have C1 := hid (HSTEP.out W hbW)
   clear hW hbW HSTEP d0 d1 d2 d3 d4 dk
   cases q with
   | true =>
    go_wp2_with fail
    go_at_call 119
    refine C1.out.mono ?_
    rintro e w1 ⟨rfl,hb1⟩
    have HB1 := hid (vonto HBW.out hb1)
    clear hb1 C1
    go_wp2_with fail
    go_roundw
    case rel => exact ⟨j + 1,hlt,val_int (by omega),HB1.out,by rw [HT.out,HA.out]; rfl⟩
    case measure => simp [intOf]; omega
   | false =>
    have HFa : Hid (R = false) := hid (by rw [← HR.out,HX.out rfl])
    go_wp2_with fail
    go_at_call 119
    refine C1.out.mono ?_
    rintro e w1 ⟨rfl,hb1⟩
    have HB1 := hid (vonto HBW.out hb1)
    clear hb1 C1
    go_wp2_with fail
    go_ret
    exact ⟨by rw [HFa.out]; rfl,HB1.out⟩
  ·obtain rfl : j = L.length := by omega
   have HTr : Hid (R = true) := hid (by rw [← HR.out]; have := HA.out; rw [List.take_length] at this; exact this)
   go_wp2_with fail
   go_ret
   exact ⟨by rw [HTr.out]; rfl,HB.out⟩
theorem flt_is (l : List UInt8) : Lib.containsAny l [46,101,69] = fltB l := by
 unfold Lib.containsAny fltB
 induction l with
 | nil => rfl
 | cons b l ih =>
  have hge := Lib.indexAny_ge [46,101,69] l
  rw [List.any_cons,← ih,Lib.indexAny]
  have hc : ([46,101,69] : List UInt8).contains b = decide (b.toNat = 46 ∨ b.toNat = 101 ∨ b.toNat = 69) := by
   rw [Bool.eq_iff_iff,decide_eq_true_iff]
   simp only [List.contains_iff_mem,List.mem_cons,List.not_mem_nil,or_false]
   constructor
   ·rintro (h | h | h) <;> simp [h]
   ·rintro (h | h | h)
    ·exact Or.inl (UInt8.toNat_inj.1 h)
    ·exact Or.inr (Or.inl (UInt8.toNat_inj.1 h))
    ·exact Or.inr (Or.inr (UInt8.toNat_inj.1 h))
  rw [hc]
  cases decide (b.toNat = 46 ∨ b.toNat = 101 ∨ b.toNat = 69) with
  | true => simp
  | false =>
   simp only [Bool.false_eq_true,if_false,Bool.false_or]
   split
   ·rename_i h; rw [beq_iff_eq.1 h]
   ·rename_i h
    have : Lib.indexAny l [46,101,69] ≠ -1 := fun e => h (beq_iff_eq.2 e)
    rw [decide_eq_decide]; omega
theorem node_num {n : Int} {s : ByteArray} {L : List VT} {K : List ByteArray} {V : List VT} (h : nodeB (.mk 3 n s L K V) = true) : numB s.data.toList = true := by
 change nodeC 3 n (n == 0) s.toList.isEmpty ((L.length : Int) == 0) ((V.length : Int) == 0) (numB s.data.toList && !intB s.data.toList) (teI s == 0) (stampB s) (keysB K) = true at h
 unfold nodeC at h
 rw [if_neg (by decide),if_neg (by decide),if_neg (by decide),if_pos rfl] at h
 simp only [Bool.and_eq_true] at h
 exact h.1.1.2.1
theorem node_stamp {n : Int} {s : ByteArray} {L : List VT} {K : List ByteArray} {V : List VT} (h : nodeB (.mk 7 n s L K V) = true) : s.size ≤ 64 := by
 change nodeC 7 n (n == 0) s.toList.isEmpty ((L.length : Int) == 0) ((V.length : Int) == 0) (numB s.data.toList && !intB s.data.toList) (teI s == 0) (stampB s) (keysB K) = true at h
 unfold nodeC at h
 rw [if_neg (by decide),if_neg (by decide),if_neg (by decide),if_neg (by decide),if_neg (by decide),if_pos rfl] at h
 simp only [Bool.and_eq_true] at h
 have := h.1.1.2
 unfold stampB at this
 simp only [Bool.and_eq_true,decide_eq_true_eq] at this
 omega
set_option maxRecDepth 100000 in
set_option maxHeartbeats 4000000 in
theorem tpsay_all : ∀ N : Nat,Say N := by
 intro N
 induction N with
 | zero => intro T x y w h; have := szT_pos T; omega
 | succ N ih =>
 intro T x y w hN hT hpl hg
 cases hT with
 | mk a b f g p q hk hn hs hL hM hK cL cK cM rL rM =>
 rename_i k n s L K V
 rw [plainT_eq] at hpl
 simp only [Bool.and_eq_true,VT.ls,VT.vs] at hpl
 obtain ⟨⟨hnode,hpL⟩,hpV⟩ := hpl
 have hsz : szT (.mk k n s L K V) = 1 + szL L + szL V := by simp only [szT]
 rw [hsz] at hN
 have CLs := hid (fun (X : World) (hX : Below w.heap.size w X) => tplist_of N ih L x a f g X (hg.on hX) hL (fun i t h => (cL i t h).onto hX) (fun i t h => (rL i t h).onto hX) (by omega) hpL)
 have CPs := hid (fun (X : World) (hX : Below w.heap.size w X) => tppairs_of N ih V K y b p q X (hg.on hX) hM hK (fun i t h => ⟨keepCell hX (cK i t h).1,(cK i t h).2⟩) (fun i t h => (cM i t h).onto hX) (fun i t h => (rM i t h).onto hX) (by omega) hpV)
 simp only [vv,VT.kd,VT.nm,VT.st]
 obtain ⟨oL,capL,rfl,hL1,hL2,hL3⟩ := hL
 obtain ⟨oM,capM,rfl,hM1,hM2,hM3⟩ := hM
 have HG := hid hg
 have HB0 := hid (valloc_bel (Below.refl w.heap.size w) (.cells #[.int .i64 k,.int .i64 n,.string s,.slice oL L.length capL,.slice oM V.length capM] 29))
 have hsy : syT (.mk k n s L K V) = if k = 0 then false else if k = 3 then fltB s.data.toList else if k = 7 then (stB s.data.toList || infB (unS s.data.toList)) else if k = 5 then syL L else if k = 6 then syL V else true := by simp only [syT]
 rw [hsy]
 clear hsy cL cK cM rL rM hpL hpV hsz ih
 by_cases k0 : k = 0
 ·subst k0
  rw [if_pos rfl]
  clear CLs CPs hnode
  go_enter Tryz.func119,Tryz.ntmps119
  go_wp2_with fail
  go_ret
  exact ⟨rfl,HB0.out⟩
 obtain ⟨k0a,k0b⟩ := ikey k 0 k0
 rw [if_neg k0]
 by_cases k3 : k = 3
 ·subst k3
  rw [if_pos rfl]
  have hnum := node_num hnode
  have hnz : s.size ≤ 400 := by
   unfold numB at hnum; simp only [Bool.and_eq_true,decide_eq_true_eq] at hnum; rw [size_list] at hnum; exact hnum.2
  have CA := hid (fun X => Tryz.strings_ContainsAny_laid s ⟨#[46,101,69]⟩ X (by omega) (by decide) (fun j b h => num_asc hnum b (List.mem_of_getElem? h)) (fun j b h => by
   have hm := List.mem_of_getElem? h
   have : ∀ c ∈ (⟨#[46,101,69]⟩ : ByteArray).data.toList,c.toNat < 128 := by decide
   exact this b hm))
  rw [show (⟨#[46,101,69]⟩ : ByteArray).data.toList = [46,101,69] from rfl,flt_is] at CA
  clear CLs CPs hnode hnum
  generalize fltB s.data.toList = R at *
  go_enter Tryz.func119,Tryz.ntmps119
  go_wp2_with fail
  go_at_call 171
  refine (CA.out _).mono ?_
  rintro e w1 ⟨rfl,hb1⟩
  have HB1 := hid (vonto HB0.out hb1)
  clear hb1 CA
  go_wp2_with fail
  go_ret
  exact ⟨rfl,HB1.out⟩
 obtain ⟨k3a,k3b⟩ := ikey k 3 k3
 rw [if_neg k3]
 by_cases k7 : k = 7
 ·subst k7
  rw [if_pos rfl]
  have hst := node_stamp hnode
  have CS := hid (fun (X : World) (hX : Below w.heap.size w X) => tstamp_any s X (by omega) (HG.out.on hX).t.m)
  have CE := hid (fun (X : World) (hX : Below w.heap.size w X) => tpend_any s X (by omega) (HG.out.on hX))
  clear CLs CPs hnode
  generalize stB s.data.toList = R1 at *
  generalize infB (unS s.data.toList) = R2 at *
  cases R1 with
  | true =>
   go_enter Tryz.func119,Tryz.ntmps119
   go_wp2_with fail
   go_at_call 172
   refine (CS.out _ HB0.out).mono ?_
   rintro e w1 ⟨rfl,hb1⟩
   have HB1 := hid (vonto HB0.out hb1)
   clear hb1 CS
   go_wp2_with fail
   go_ret
   exact ⟨rfl,HB1.out⟩
  | false =>
   have c2 : (w.alloc (.cells #[.int .i64 7,.int .i64 n,.string s,.slice oL L.length capL,.slice oM V.length capM] 29)).cell? ⟨w.heap.size,2,none⟩ = some (.string s) := (tpbox w _ _ _ _ _).2.2.1
   go_enter Tryz.func119,Tryz.ntmps119
   go_wp2_with fail
   go_at_call 172
   refine (CS.out _ HB0.out).mono ?_
   rintro e w1 ⟨rfl,hb1⟩
   have HB1 := hid (vonto HB0.out hb1)
   replace c2 := keepCell hb1 c2
   have C2 := hid (CE.out w1 HB1.out)
   clear hb1 CS CE
   go_wp2_with fail
   go_at_call 173
   refine C2.out.mono ?_
   rintro e w2 ⟨rfl,hb2⟩
   have HB2 := hid (vonto HB1.out hb2)
   clear hb2 C2
   go_wp2_with fail
   go_ret
   exact ⟨rfl,HB2.out⟩
 obtain ⟨k7a,k7b⟩ := ikey k 7 k7
 rw [if_neg k7]
 by_cases k5 : k = 5
 ·subst k5
  rw [if_pos rfl]
  clear CPs hnode
  generalize syL L = R at *
  go_enter Tryz.func119,Tryz.ntmps119
  go_wp2_with fail
  go_at_call 174
  refine (CLs.out _ HB0.out).mono ?_
  rintro e w1 ⟨rfl,hb1⟩
  have HB1 := hid (vonto HB0.out hb1)
  clear hb1 CLs
  go_wp2_with fail
  go_ret
  exact ⟨rfl,HB1.out⟩
 obtain ⟨k5a,k5b⟩ := ikey k 5 k5
 rw [if_neg k5]
 by_cases k6 : k = 6
 ·subst k6
  rw [if_pos rfl]
  clear CLs hnode
  generalize syL V = R at *
  go_enter Tryz.func119,Tryz.ntmps119
  go_wp2_with fail
  go_at_call 175
  refine (CPs.out _ HB0.out).mono ?_
  rintro e w1 ⟨rfl,hb1⟩
  have HB1 := hid (vonto HB0.out hb1)
  clear hb1 CPs
  go_wp2_with fail
  go_ret
  exact ⟨rfl,HB1.out⟩
 obtain ⟨k6a,k6b⟩ := ikey k 6 k6
 rw [if_neg k6]
 clear CLs CPs hnode
 go_enter Tryz.func119,Tryz.ntmps119
 go_wp2_with fail
 go_ret
 exact ⟨rfl,HB0.out⟩
end Go.Proofs.YteimbjamnfkapaaGreatDoor
