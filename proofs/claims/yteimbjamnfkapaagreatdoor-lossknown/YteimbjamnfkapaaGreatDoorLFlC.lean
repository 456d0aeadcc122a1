import Derived.Test.YteimbjamnfkapaaGreatDoorLMathFd
/- slices.BinarySearchFunc at paths, walked. -/
namespace Go.Proofs.YteimbjamnfkapaaGreatDoor
open Go.RowKit
def InC (w : World) (C : List (List PStep)) (v : Value) : Prop := ∃ a,SlOf v a C.length ∧ ∀ i p,C[i]? = some p → ∃ u,w.cell? (a.add i) = some u ∧ InP w p u
theorem InC.onto {w w' : World} {C : List (List PStep)} {v : Value} (h : InC w C v) (hb : Below w.heap.size w w') : InC w' C v := by
 obtain ⟨a,h1,h2⟩ := h
 exact ⟨a,h1,fun i p hp => by obtain ⟨u,h3,h4⟩ := h2 i p hp; exact ⟨u,keepCell hb h3,h4.onto hb⟩⟩
set_option maxRecDepth 100000 in
set_option maxHeartbeats 4000000 in
theorem bsearch_any (C : List (List PStep)) (p : List PStep) (cv y : Value) (w : World) (hC : InC w C cv) (hp : InP w p y) (hm : Mono C p) (hl : C.length ≤ 1000000) :
  Calls Tryz.prog 104 #[cv,y,.func (.func 105) #[] #[]] w fun e w' => e = .returned (.tuple #[.int .i64 (posC C p : Nat),.bool (hasC C p)]) ∧ Below w.heap.size w w' := by
 obtain ⟨a,⟨oa,ca,rfl,ha1,ha2,ha3⟩,hac⟩ := hC
 have hp0 := hp
 obtain ⟨b,⟨ob,cb,rfl,-,-,-⟩,-⟩ := hp0
 have HA := hid hac
 have HM := hid hm
 have HCM := hid (fun (X : World) (q : List PStep) (u : Value) (hX : Below w.heap.size w X) (hq : InP w q u) => pcmp_any q p u _ X (hq.onto hX) (hp.onto hX))
 obtain ⟨P0,hP0⟩ : ∃ P0,posC C p = P0 := ⟨_,rfl⟩
 obtain ⟨H0,hH0⟩ : ∃ H0,hasC C p = H0 := ⟨_,rfl⟩
 have HP0 := hid hP0
 have HH0 := hid hH0
 rw [hP0,hH0]
 clear hac hm hp hP0 hH0
 go_enter Tryz.func104,Tryz.ntmps104
 go_wp2_with fail
 go_loopw [9,10] (fun s t wr => ∃ lo hi : Nat,s = .int .i64 lo ∧ t = .int .i64 hi ∧ lo ≤ hi ∧ hi ≤ C.length ∧ Hid ((∀ i c,i < lo → C[i]? = some c → cmpP c p < 0) ∧ (∀ i c,hi ≤ i → C[i]? = some c → 0 ≤ cmpP c p)) ∧ Below w.heap.size w wr) (fun s t _ => (intOf t).toNat - (intOf s).toNat)
 case atStart => exact ⟨0,C.length,rfl,rfl,Nat.zero_le _,Nat.le_refl _,⟨fun i c h => absurd h (Nat.not_lt_zero _),fun i c h hc => absurd (lt_of_some hc) (by omega)⟩,Below.refl _ _⟩
 case round =>
  obtain ⟨lo,hi,rfl,rfl,hlh,hin,HI,hbw⟩ := hrel
  by_cases hlt : lo < hi
  ·obtain ⟨h,hh⟩ : ∃ h,(lo + hi) / 2 = h := ⟨_,rfl⟩
   have hh1 : lo ≤ h := by omega
   have hh2 : h < hi := by omega
   have hhc : ((lo : Int) + (hi : Int)) / 2 = (h : Int) := by omega
   obtain ⟨q,hq⟩ : ∃ q,C[h]? = some q := ⟨C[h],List.getElem?_eq_getElem (by omega)⟩
   obtain rfl := ha3 (by omega)
   obtain ⟨u,hu,hqu⟩ := HA.out h q hq
   have hu' := keepCell hbw hu
   have HCM2 := hid (HCM.out wr q u hbw hqu)
   have HQ := hid hq
   obtain ⟨z,hz⟩ : ∃ z,cmpP q p = z := ⟨_,rfl⟩
   rw [hz] at HCM2
   obtain ⟨aq,⟨oq,cq,rfl,-⟩,-⟩ := hqu
   have HZ := hid hz
   clear hq hu hz
   by_cases hz0 : z < 0
   ·have HI2 := hid (show (∀ i c,i < h + 1 → C[i]? = some c → cmpP c p < 0) ∧ (∀ i c,hi ≤ i → C[i]? = some c → 0 ≤ cmpP c p) from ⟨fun i c h1 h2 => HM.out i h c q (by omega) h2 HQ.out (by rw [HZ.out]; exact hz0),HI.out.2⟩)
    go_wp2_with (go_at_call 105; go_must (refine HCM2.out.mono ?_; rintro e w3 ⟨rfl,hb3⟩))
    go_roundw
    case rel => exact ⟨h + 1,hi,val_int (by omega),rfl,by omega,hin,HI2,vonto hbw hb3⟩
    case measure => simp [intOf]; omega
   ·have HI2 := hid (show (∀ i c,i < lo → C[i]? = some c → cmpP c p < 0) ∧ (∀ i c,h ≤ i → C[i]? = some c → 0 ≤ cmpP c p) from ⟨HI.out.1,fun i c h1 h2 => by
    by_cases h3 : cmpP c p < 0
    ·have := HM.out h i q c h1 HQ.out h2 h3; rw [HZ.out] at this; omega
    ·omega⟩)
    go_wp2_with (go_at_call 105; go_must (refine HCM2.out.mono ?_; rintro e w3 ⟨rfl,hb3⟩))
    go_roundw
    case rel => exact ⟨lo,h,rfl,val_int (by omega),by omega,by omega,HI2,vonto hbw hb3⟩
    case measure => simp [intOf]; omega
  ·obtain rfl : hi = lo := by omega
   have hp1 := posC_is hin HI.out.1 (fun c hc => HI.out.2 _ c (Nat.le_refl _) hc)
   have HP := hid hp1
   rw [HP0.out] at hp1
   subst hp1
   by_cases hn : P0 < C.length
   ·obtain ⟨q,hq⟩ : ∃ q,C[P0]? = some q := ⟨C[P0],List.getElem?_eq_getElem hn⟩
    obtain rfl := ha3 (by omega)
    obtain ⟨u,hu,hqu⟩ := HA.out P0 q hq
    have hu' := keepCell hbw hu
    have HCM2 := hid (HCM.out wr q u hbw hqu)
    have hh1 : H0 = decide (cmpP q p = 0) := HH0.out.symm.trans (hasC_some (by rw [HP.out]; exact hq))
    obtain ⟨z,hz⟩ : ∃ z,cmpP q p = z := ⟨_,rfl⟩
    rw [hz] at HCM2 hh1
    subst hh1
    obtain ⟨aq,⟨oq,cq,rfl,-⟩,-⟩ := hqu
    clear hq hu hz
    by_cases hz0 : z = 0
    ·have tz : (z == 0) = true := by simpa using hz0
     go_wp2_with (go_at_call 105; go_must (refine HCM2.out.mono ?_; rintro e w3 ⟨rfl,hb3⟩))
     go_ret2
     exact ⟨by simp [hz0],vonto hbw hb3⟩
    ·have tz : (z == 0) = false := by simpa using hz0
     go_wp2_with (go_at_call 105; go_must (refine HCM2.out.mono ?_; rintro e w3 ⟨rfl,hb3⟩))
     go_ret2
     exact ⟨by simp [hz0],vonto hbw hb3⟩
   ·have hh1 : H0 = false := HH0.out.symm.trans (hasC_none (by rw [HP.out]; exact List.getElem?_eq_none (by omega)))
    subst hh1
    go_wp2_with fail
    go_ret2
    exact ⟨rfl,hbw⟩
end Go.Proofs.YteimbjamnfkapaaGreatDoor
