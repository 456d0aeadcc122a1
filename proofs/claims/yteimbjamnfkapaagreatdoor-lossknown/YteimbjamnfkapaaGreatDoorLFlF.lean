/- Strings that are handed in. -/
import Derived.Test.YteimbjamnfkapaaGreatDoorLVBase
import Derived.Test.YteimbjamnfkapaaGreatDoorLPathOne
namespace Go.Proofs.YteimbjamnfkapaaGreatDoor
open Go.RowKit
def InS (w : World) (ks : List ByteArray) (v : Value) : Prop := ∃ (a : Addr),SlOf v a ks.length ∧ ∀ i c,ks[i]? = some c → w.cell? (a.add i) = some (.string c) ∧ c.size ≤ maxLen
theorem InS.onto {w w' : World} {ks : List ByteArray} {v : Value} (h : InS w ks v) (hb : Below w.heap.size w w') : InS w' ks v := by
 obtain ⟨a,h1,h2⟩ := h
 exact ⟨a,h1,fun i c hc => ⟨keepCell hb (h2 i c hc).1,(h2 i c hc).2⟩⟩
end Go.Proofs.YteimbjamnfkapaaGreatDoor
/- flat.tooLong, walked; slices.ContainsFunc over names, and over rows. -/
namespace Go.Proofs.YteimbjamnfkapaaGreatDoor
open Go.RowKit
def InRs (w : World) (R : List (List ByteArray)) (v : Value) : Prop := ∃ a,SlOf v a R.length ∧ ∀ i K,R[i]? = some K → ∃ u,w.cell? (a.add i) = some u ∧ InS w K u
theorem InRs.onto {w w' : World} {R : List (List ByteArray)} {v : Value} (h : InRs w R v) (hb : Below w.heap.size w w') : InRs w' R v := by
 obtain ⟨a,h1,h2⟩ := h
 exact ⟨a,h1,fun i p hp => by obtain ⟨u,h3,h4⟩ := h2 i p hp; exact ⟨u,keepCell hb h3,h4.onto hb⟩⟩
def longS (c : ByteArray) : Bool := decide (4096 < c.size)
theorem long1_any (c : ByteArray) (w : World) (hc : c.size ≤ maxLen) : Calls Tryz.prog 110 #[.string c] w fun e w' => e = .returned (.bool (longS c)) ∧ Below w.heap.size w w' := by
 unfold longS
 unfold maxLen at hc
 have hd : decide ((4096 : Int) < (c.size : Int)) = decide (4096 < c.size) := by rw [decide_eq_decide]; omega
 go_enter Tryz.func110,Tryz.ntmps110
 go_wp2_with fail
 go_ret
 exact ⟨ret_bool (by first | exact hd | (rw [← hd]; done) | (rw [← hd,Bool.eq_iff_iff]; done) | (rw [← hd,Bool.eq_iff_iff]; simp; done) | (rw [Bool.eq_iff_iff]; simp; omega)),Below.refl _ _⟩
theorem any_no {α : Type} {f : α → Bool} {K : List α} (h : ∀ (i : Nat) (d : α),K[i]? = some d → f d = false) : K.any f = false := by
 rw [List.any_eq_false]
 intro x hx
 obtain ⟨i,hi⟩ := List.getElem?_of_mem hx
 rw [h i x hi]; decide
theorem any_yes {α : Type} {f : α → Bool} {K : List α} {i : Nat} {d : α} (h : K[i]? = some d) (hf : f d = true) : K.any f = true := by
 rw [List.any_eq_true]
 exact ⟨d,List.mem_of_getElem? h,hf⟩
def IdxPost (b : Bool) (w : World) (e : Ending) (w' : World) : Prop := ∃ z : Int,e = .returned (.int .i64 z) ∧ decide (0 ≤ z) = b ∧ Below w.heap.size w w'
set_option maxRecDepth 100000 in
set_option maxHeartbeats 2000000 in
theorem sidx_any (K : List ByteArray) (v : Value) (w : World) (hK : InS w K v) :
  Calls Tryz.prog 162 #[v,.func (.func 110) #[] #[]] w (IdxPost (K.any longS) w) := by
 obtain ⟨a,⟨o,cap,rfl,h1,h2,h3⟩,hk⟩ := hK
 unfold maxLen at h2
 have HK := hid hk
 clear hk
 obtain ⟨R,hR⟩ : ∃ R,K.any longS = R := ⟨_,rfl⟩
 have HR := hid hR
 rw [hR]
 clear hR
 unfold IdxPost
 go_enter Tryz.func162,Tryz.ntmps162
 go_wp2_with fail
 go_loopw [8] (fun x wr => ∃ j : Nat,x = .int .i64 j ∧ j ≤ K.length ∧ Hid (∀ (i : Nat) (d : ByteArray),i < j → K[i]? = some d → longS d = false) ∧ Hid (Below w.heap.size w wr)) (fun x _ => K.length - (intOf x).toNat)
 case atStart => exact ⟨0,rfl,Nat.zero_le _,fun i d h => absurd h (Nat.not_lt_zero _),Below.refl _ _⟩
 case round =>
  obtain ⟨j,rfl,hj,HJ,HB⟩ := hrel
  by_cases hlt : j < K.length
  ·obtain ⟨c,hc⟩ : ∃ c,K[j]? = some c := ⟨K[j],List.getElem?_eq_getElem hlt⟩
   obtain rfl := h3 (by omega)
   have k0 := keepCell HB.out (HK.out j c hc).1
   have HS := hid (long1_any c wr (HK.out j c hc).2)
   have HC := hid hc
   cases hpr : longS c with
   | true =>
    have HR2 := hid (HR.out.symm.trans (any_yes hc hpr))
    rw [hpr] at HS
    clear hpr hc
    go_wp2_with (go_at_call 110; go_must (refine HS.out.mono ?_; rintro e w1 ⟨rfl,hb1⟩))
    go_ret
    exact ⟨_,rfl,by rw [HR2.out]; simp,vonto HB.out hb1⟩
   | false =>
    have HJ2 := hid (show ∀ (i : Nat) (d : ByteArray),i < j + 1 → K[i]? = some d → longS d = false from fun i d hi hd => by
     by_cases e : i = j
     ·subst e; rw [hc] at hd; cases hd; exact hpr
     ·exact HJ.out i d (by omega) hd)
    rw [hpr] at HS
    clear hpr hc
    go_wp2_with (go_at_call 110; go_must (refine HS.out.mono ?_; rintro e w1 ⟨rfl,hb1⟩))
    go_roundw
    case rel => exact ⟨j + 1,val_int (by omega),hlt,HJ2,vonto HB.out hb1⟩
    case measure => simp [intOf]; omega
  ·have HR2 := hid (HR.out.symm.trans (any_no (fun i d hd => HJ.out i d (by have := lt_of_some hd; omega) hd)))
   go_wp2_with fail
   go_ret
   exact ⟨_,rfl,by rw [HR2.out]; rfl,HB.out⟩
theorem scon_any (K : List ByteArray) (v : Value) (w : World) (hK : InS w K v) :
  Calls Tryz.prog 109 #[v,.func (.func 110) #[] #[]] w fun e w' => e = .returned (.bool (K.any longS)) ∧ Below w.heap.size w w' := by
 have C := hid (sidx_any K v w hK)
 obtain ⟨a,⟨o,cap,rfl,-⟩,-⟩ := hK
 generalize K.any longS = R at C ⊢
 go_enter Tryz.func109,Tryz.ntmps109
 go_wp2_with (go_at_call 162; go_must (refine C.out.mono ?_; rintro e w1 ⟨z,rfl,hz,hb1⟩))
 go_ret
 exact ⟨ret_bool (by first | (rw [← hz]; done) | (rw [← hz,Bool.eq_iff_iff]; done) | (rw [← hz,Bool.eq_iff_iff]; simp; done) | (rw [← hz,Bool.eq_iff_iff]; simp; omega)),hb1⟩
theorem tooLong_any (K : List ByteArray) (v : Value) (w : World) (hK : InS w K v) :
  Calls Tryz.prog 61 #[v] w fun e w' => e = .returned (.bool (K.any longS)) ∧ Below w.heap.size w w' := by
 have C := hid (scon_any K v w hK)
 obtain ⟨a,⟨o,cap,rfl,-⟩,-⟩ := hK
 generalize K.any longS = R at C ⊢
 go_enter Tryz.func61,Tryz.ntmps61
 go_wp2_with (go_at_call 109; go_must (refine C.out.mono ?_; rintro e w1 ⟨rfl,hb1⟩))
 go_ret
 exact ⟨rfl,hb1⟩
def longR (K : List ByteArray) : Bool := K.any longS
set_option maxRecDepth 100000 in
set_option maxHeartbeats 2000000 in
theorem ridx_any (K : List (List ByteArray)) (v : Value) (w : World) (hK : InRs w K v) :
  Calls Tryz.prog 39 #[v,.func (.func 61) #[] #[]] w (IdxPost (K.any longR) w) := by
 obtain ⟨a,⟨o,cap,rfl,h1,h2,h3⟩,hk⟩ := hK
 unfold maxLen at h2
 have HK := hid hk
 clear hk
 obtain ⟨R,hR⟩ : ∃ R,K.any longR = R := ⟨_,rfl⟩
 have HR := hid hR
 rw [hR]
 clear hR
 unfold IdxPost
 go_enter Tryz.func39,Tryz.ntmps39
 go_wp2_with fail
 go_loopw [8] (fun x wr => ∃ j : Nat,x = .int .i64 j ∧ j ≤ K.length ∧ Hid (∀ (i : Nat) (d : List ByteArray),i < j → K[i]? = some d → longR d = false) ∧ Hid (Below w.heap.size w wr)) (fun x _ => K.length - (intOf x).toNat)
 case atStart => exact ⟨0,rfl,Nat.zero_le _,fun i d h => absurd h (Nat.not_lt_zero _),Below.refl _ _⟩
 case round =>
  obtain ⟨j,rfl,hj,HJ,HB⟩ := hrel
  by_cases hlt : j < K.length
  ·obtain ⟨c,hc⟩ : ∃ c,K[j]? = some c := ⟨K[j],List.getElem?_eq_getElem hlt⟩
   obtain rfl := h3 (by omega)
   obtain ⟨u,hu,hin⟩ := HK.out j c hc
   have k0 := keepCell HB.out hu
   have HS := hid (tooLong_any c u wr (hin.onto HB.out))
   obtain ⟨au,⟨ou,cu,rfl,-⟩,-⟩ := hin
   have HC := hid hc
   have HL : Hid (longR c = c.any longS) := rfl
   rw [← HL.out] at HS
   clear HL
   cases hpr : longR c with
   | true =>
    have HR2 := hid (HR.out.symm.trans (any_yes hc hpr))
    rw [hpr] at HS
    clear hpr hc hu
    go_wp2_with (go_at_call 61; go_must (refine HS.out.mono ?_; rintro e w1 ⟨rfl,hb1⟩))
    go_ret
    exact ⟨_,rfl,by rw [HR2.out]; simp,vonto HB.out hb1⟩
   | false =>
    have HJ2 := hid (show ∀ (i : Nat) (d : List ByteArray),i < j + 1 → K[i]? = some d → longR d = false from fun i d hi hd => by
     by_cases e : i = j
     ·subst e; rw [hc] at hd; cases hd; exact hpr
     ·exact HJ.out i d (by omega) hd)
    rw [hpr] at HS
    clear hpr hc hu
    go_wp2_with (go_at_call 61; go_must (refine HS.out.mono ?_; rintro e w1 ⟨rfl,hb1⟩))
    go_roundw
    case rel => exact ⟨j + 1,val_int (by omega),hlt,HJ2,vonto HB.out hb1⟩
    case measure => simp [intOf]; omega
  ·have HR2 := hid (HR.out.symm.trans (any_no (fun i d hd => HJ.out i d (by have := lt_of_some hd; omega) hd)))
   go_wp2_with fail
   go_ret
   exact ⟨_,rfl,by rw [HR2.out]; rfl,HB.out⟩
theorem rcon_any (K : List (List ByteArray)) (v : Value) (w : World) (hK : InRs w K v) :
  Calls Tryz.prog 62 #[v,.func (.func 61) #[] #[]] w fun e w' => e = .returned (.bool (K.any longR)) ∧ Below w.heap.size w w' := by
 have C := hid (ridx_any K v w hK)
 obtain ⟨a,⟨o,cap,rfl,-⟩,-⟩ := hK
 generalize K.any longR = R at C ⊢
 go_enter Tryz.func62,Tryz.ntmps62
 go_wp2_with (go_at_call 39; go_must (refine C.out.mono ?_; rintro e w1 ⟨z,rfl,hz,hb1⟩))
 go_ret
 exact ⟨ret_bool (by first | (rw [← hz]; done) | (rw [← hz,Bool.eq_iff_iff]; done) | (rw [← hz,Bool.eq_iff_iff]; simp; done) | (rw [← hz,Bool.eq_iff_iff]; simp; omega)),hb1⟩
end Go.Proofs.YteimbjamnfkapaaGreatDoor
