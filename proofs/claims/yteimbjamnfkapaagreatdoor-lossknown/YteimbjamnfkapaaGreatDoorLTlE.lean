/- tlex.isDay, isClock: walked. -/
import Derived.Test.YteimbjamnfkapaaGreatDoorLTlC
import Derived.Test.YteimbjamnfkapaaGreatDoorLOrders
/- tlex.isTime, withoutZone, Stamp: walked. -/
namespace Go.Proofs.YteimbjamnfkapaaGreatDoor
open Go.RowKit
theorem list10 {l : List UInt8} (h : l.length = 10) : ∃ a b c d e f g i j k,l = [a,b,c,d,e,f,g,i,j,k] := by
 match l,h with
 | [a,b,c,d,e,f,g,i,j,k],_ => exact ⟨a,b,c,d,e,f,g,i,j,k,rfl⟩
theorem list2 {l : List UInt8} (h : l.length = 2) : ∃ a b,l = [a,b] := by
 match l,h with
 | [a,b],_ => exact ⟨a,b,rfl⟩
theorem sh48 (b : UInt8) : shI b 48 = dgI b := rfl
theorem sh45 (b : UInt8) : shI b 45 = decide (b.toNat = 45) := by
 unfold shI; rw [if_neg (by decide)]
 exact decide_eq_decide.2 ⟨fun h => h.symm,fun h => h.symm⟩
theorem dg_at (b : UInt8) (l : List UInt8) : dgA (b :: l) 0 = dgI b := rfl
theorem dg_up (b : UInt8) (l : List UInt8) (k : Nat) : dgA (b :: l) (k + 1) = dgA l k := by unfold dgA; rw [bt_succ]
theorem shp_day (l : List UInt8) : shp l [48,48,48,48,45,48,48,45,48,48] = dayS l := by
 by_cases h : l.length = 10
 ·obtain ⟨a,b,c,d,e,f,g,i,j,k,rfl⟩ := list10 h
  simp only [shp,sh48,sh45,dayS,is2,dg_at,dg_up,bt_cons,bt_succ,List.length_cons,List.length_nil,Bool.and_true,decide_true,Bool.true_and,Bool.and_assoc]
 ·rw [shp_len (by simpa using h)]
  unfold dayS; rw [decide_eq_false h]; rfl
theorem shp_two (l : List UInt8) : shp l [48,48] = (decide (l.length = 2) && is2 l 0) := by
 by_cases h : l.length = 2
 ·obtain ⟨a,b,rfl⟩ := list2 h
  simp only [shp,sh48,is2,dg_at,dg_up,List.length_cons,List.length_nil,Bool.and_true,decide_true,Bool.true_and]
 ·rw [shp_len (by simpa using h),decide_eq_false h]; rfl
theorem pval_two (a b : UInt8) (ha : dgI a = true) (hb : dgI b = true) : pval [a,b] = (a.toNat - 48) * 10 + (b.toNat - 48) := by
 have h1 : isD a = true := by unfold isD; unfold dgI at ha; simp at ha ⊢; exact ha
 have h2 : isD b = true := by unfold isD; unfold dgI at hb; simp at hb ⊢; exact hb
 unfold pval; simp [h1,h2]; omega
theorem pval_four (a b c d : UInt8) (ha : dgI a = true) (hb : dgI b = true) (hc : dgI c = true) (hd : dgI d = true) : pval [a,b,c,d] = ((a.toNat - 48) * 10 + (b.toNat - 48)) * 100 + ((c.toNat - 48) * 10 + (d.toNat - 48)) := by
 have h1 : isD a = true := by unfold isD; unfold dgI at ha; simp at ha ⊢; exact ha
 have h2 : isD b = true := by unfold isD; unfold dgI at hb; simp at hb ⊢; exact hb
 have h3 : isD c = true := by unfold isD; unfold dgI at hc; simp at hc ⊢; exact hc
 have h4 : isD d = true := by unfold isD; unfold dgI at hd; simp at hd ⊢; exact hd
 unfold pval; simp [h1,h2,h3,h4]; omega
theorem day_parts {l : List UInt8} (h : dayS l = true) : l.length = 10 ∧ (∀ x ∈ l.take 4,dgI x = true) ∧ (∀ x ∈ (l.drop 5).take 2,dgI x = true) ∧ (∀ x ∈ l.drop 8,dgI x = true) ∧ pval (l.take 4) = dg2 l 0 * 100 + dg2 l 2 ∧ pval ((l.drop 5).take 2) = dg2 l 5 ∧ pval (l.drop 8) = dg2 l 8 := by
 have hl : l.length = 10 := by unfold dayS at h; simp at h; exact h.1.1.1.1.1.1
 obtain ⟨a,b,c,d,e,f,g,i,j,k,rfl⟩ := list10 hl
 simp only [dayS,is2,dg_at,dg_up,bt_cons,bt_succ,List.length_cons,List.length_nil,Bool.and_eq_true] at h
 obtain ⟨⟨⟨⟨⟨⟨-,ha,hb⟩,hc,hd⟩,-⟩,hf,hg⟩,-⟩,hj,hk⟩ := h
 refine ⟨rfl,?_,?_,?_,?_,?_,?_⟩
 ·intro x hx; simp at hx; rcases hx with rfl | rfl | rfl | rfl <;> assumption
 ·intro x hx; simp at hx; rcases hx with rfl | rfl <;> assumption
 ·intro x hx; simp at hx; rcases hx with rfl | rfl <;> assumption
 ·exact pval_four a b c d ha hb hc hd
 ·exact pval_two f g hf hg
 ·exact pval_two j k hj hk
theorem dg2_le (l : List UInt8) (k : Nat) (h : is2 l k = true) : dg2 l k ≤ 99 := by
 unfold is2 dgA at h; unfold dg2; simp at h; omega
theorem day_le {l : List UInt8} (h : dayS l = true) : dg2 l 0 ≤ 99 ∧ dg2 l 2 ≤ 99 ∧ dg2 l 5 ≤ 99 ∧ dg2 l 8 ≤ 99 := by
 unfold dayS at h
 simp only [Bool.and_eq_true] at h
 exact ⟨dg2_le l 0 h.1.1.1.1.1.2,dg2_le l 2 h.1.1.1.1.2,dg2_le l 5 h.1.1.2,dg2_le l 8 h.2⟩
theorem tdrew_below (w : World) (n : Nat) : Below w.heap.size w (w.drewN n) := below_drewN (Below.refl _ _) n
set_option maxRecDepth 100000 in
set_option maxHeartbeats 2000000 in
theorem tday_any (s : ByteArray) (w : World) (hs : s.size ≤ 1000000) :
  Calls Tryz.prog 227 #[.string s] w fun e w' => e = .returned (.bool (dayB s.data.toList)) ∧ Below w.heap.size w w' := by
 have HZ := hid (size_list s)
 have CS : Hid (∀ X,Calls Tryz.prog 267 #[.string s,.string ⟨#[48,48,48,48,45,48,48,45,48,48]⟩] X fun e w' => e = .returned (.bool (dayS s.data.toList)) ∧ ∃ n,w' = X.drewN n) := fun X => by
  have := tshape_any s ⟨#[48,48,48,48,45,48,48,45,48,48]⟩ X hs
  rw [show (⟨#[48,48,48,48,45,48,48,45,48,48]⟩ : ByteArray).data.toList = [48,48,48,48,45,48,48,45,48,48] from rfl,shp_day] at this; exact this
 cases hd : dayS s.data.toList with
 | false =>
  rw [hd] at CS
  have HE := hid (show dayB s.data.toList = false by unfold dayB; rw [hd]; rfl)
  clear hd
  go_enter Tryz.func227,Tryz.ntmps227
  go_wp2_with (go_at_call 267; go_must (refine (CS.out _).mono ?_; rintro e w1 ⟨rfl,hw1⟩))
  go_ret
  obtain ⟨n,rfl⟩ := hw1
  exact ⟨ret_bool HE.out.symm,tdrew_below _ _⟩
 | true =>
  rw [hd] at CS
  obtain ⟨hl,d1,d2,d3,p1,p2,p3⟩ := day_parts hd
  obtain ⟨b1,b2,b3,b4⟩ := day_le hd
  have HE := hid (show dayB s.data.toList = decide (1 ≤ dg2 s.data.toList 5 ∧ dg2 s.data.toList 5 ≤ 12 ∧ 1 ≤ dg2 s.data.toList 8 ∧ dg2 s.data.toList 8 ≤ dim (dg2 s.data.toList 0 * 100 + dg2 s.data.toList 2) (dg2 s.data.toList 5)) by unfold dayB; rw [hd,Bool.true_and])
  rw [HZ.out] at hl
  have h10 : 10 ≤ s.size := by omega
  have C1 : Hid (∀ X,Calls Tryz.prog 268 #[.string (s.extract 0 4)] X fun e w' => e = .returned (.int .i64 ((dg2 s.data.toList 0 * 100 + dg2 s.data.toList 2 : Nat) : Int)) ∧ Below X.heap.size X w') := fun X => by
   have := tcount_any (s.extract 0 4) X (by simp; omega) (by rw [drop_ext,List.drop_zero]; exact d1)
   rw [drop_ext,List.drop_zero,p1] at this; exact this
  have C2 : Hid (∀ X,Calls Tryz.prog 268 #[.string (s.extract 5 7)] X fun e w' => e = .returned (.int .i64 ((dg2 s.data.toList 5 : Nat) : Int)) ∧ Below X.heap.size X w') := fun X => by
   have := tcount_any (s.extract 5 7) X (by simp; omega) (by rw [drop_ext]; exact d2)
   rw [drop_ext,p2] at this; exact this
  have C3 : Hid (∀ X,Calls Tryz.prog 268 #[.string (s.extract 8 s.size)] X fun e w' => e = .returned (.int .i64 ((dg2 s.data.toList 8 : Nat) : Int)) ∧ Below X.heap.size X w') := fun X => by
   have := tcount_any (s.extract 8 s.size) X (by simp; omega) (by rw [drop_list]; exact d3)
   rw [drop_list,p3] at this; exact this
  have by9 : dg2 s.data.toList 0 * 100 + dg2 s.data.toList 2 ≤ 9999 := by omega
  clear b1 b2
  generalize dg2 s.data.toList 0 * 100 + dg2 s.data.toList 2 = y at *
  generalize dg2 s.data.toList 5 = m at *
  generalize dg2 s.data.toList 8 = d at *
  have CD := hid (fun X => tdays_any y m X by9)
  have hdl := dim_le y m
  generalize dim y m = D at *
  clear hl d1 d2 d3 p1 p2 p3 hd
  go_enter Tryz.func227,Tryz.ntmps227
  go_wp2_with (go_at_call 267; go_must (refine (CS.out _).mono ?_; rintro e w1 ⟨rfl,hw1⟩))
  have HW1 := hid (show Below w.heap.size w w1 by obtain ⟨n,rfl⟩ := hw1; exact tdrew_below _ _)
  clear hw1
  have k4 : 4 ≤ s.size := by omega
  have k7 : 7 ≤ s.size := by omega
  have k8 : 8 ≤ s.size := by omega
  have hinh := abv_some w1
  refine wp_region_above (by kernel_rfl) (by kernel_rfl) ?_
  repeat (go_big_quiet_step ((first
   | (go_at_call 268; with_reducible exact above_of (C1.out _))
   | (go_at_call 268; with_reducible exact above_of (C2.out _))
   | (go_at_call 268; with_reducible exact above_of (C3.out _)))))
  refine wpQuiet_nil ?_
  intro _ hw'
  obtain ⟨X,hX⟩ := hw'
  subst hX
  have HB := hid (eonto HW1.out X.h)
  clear HW1 C1 C2 C3 CS
  generalize X.u = u at *
  by_cases k1 : 1 ≤ m
  ·by_cases k2 : m ≤ 12
   ·by_cases k3 : 1 ≤ d
    ·go_wp2_with (go_at_call 269; go_must (refine (CD.out _).mono ?_; rintro e w2 ⟨rfl,hw⟩; obtain rfl := hw.symm))
     go_ret
     exact ⟨ret_bool (by rw [HE.out]; exact decide_eq_decide.2 (by omega)),HB.out⟩
    ·go_wp2_with fail
     go_ret
     exact ⟨ret_bool (by rw [HE.out]; exact (decide_eq_false (by omega)).symm),HB.out⟩
   ·go_wp2_with fail
    go_ret
    exact ⟨ret_bool (by rw [HE.out]; exact (decide_eq_false (by omega)).symm),HB.out⟩
  ·go_wp2_with fail
   go_ret
   exact ⟨ret_bool (by rw [HE.out]; exact (decide_eq_false (by omega)).symm),HB.out⟩
theorem addz (b j : Nat) : Addr.add ⟨b,0,none⟩ j = ⟨b,j,none⟩ := by
 simp only [Addr.add,Nat.zero_add]; split
 ·next h0 => rw [h0]
 ·rfl
def GlobM (w : World) : Prop := ∃ m,w.cell? ⟨0,0,none⟩ = some (.int .i64 m)
theorem GlobM.on {w w' : World} (h : GlobM w) (hb : Below w.heap.size w w') : GlobM w' := by
 obtain ⟨m,hm⟩ := h
 exact ⟨m,by rw [hb.cell (World.block_lt_of_cell? w _ hm)]; exact hm⟩
def Bds (w : World) (a : Addr) (bs : List Nat) : Prop := ∀ i b,bs[i]? = some b → w.cell? (a.add i) = some (.int .i64 (b : Nat)) ∧ b ≤ 1000
theorem Bds.on {w w' : World} {a : Addr} {bs : List Nat} (h : Bds w a bs) (hb : Below w.heap.size w w') : Bds w' a bs := fun i b hi => by
 obtain ⟨h1,h2⟩ := h i b hi
 exact ⟨by rw [hb.cell (World.block_lt_of_cell? w _ h1)]; exact h1,h2⟩
theorem ckS_len : ∀ {ps : List (List UInt8)} {bs : List Nat},ps.length ≠ bs.length → ckS ps bs = false
 | [],[],h => absurd rfl h
 | [],_ :: _,_ => rfl
 | _ :: _,[],_ => rfl
 | p :: ps,b :: bs,h => by rw [ckS,ckS_len (ps := ps) (bs := bs) (by simpa using h),Bool.and_false]
theorem ckS_all : ∀ {ps : List (List UInt8)} {bs : List Nat},ps.length = bs.length → (∀ (k : Nat) p b,ps[k]? = some p → bs[k]? = some b → twoB p b = true) → ckS ps bs = true
 | [],[],_,_ => rfl
 | [],_ :: _,h,_ => by simp at h
 | _ :: _,[],h,_ => by simp at h
 | p :: ps,b :: bs,h,H => by
  rw [ckS,H 0 p b rfl rfl,ckS_all (by simpa using h) (fun k p b h1 h2 => H (k + 1) p b h1 h2)]; rfl
theorem ckS_no : ∀ {ps : List (List UInt8)} {bs : List Nat} (k : Nat) (p : List UInt8) (b : Nat),ps[k]? = some p → bs[k]? = some b → twoB p b = false → ckS ps bs = false
 | [],_,k,_,_,h,_,_ => by simp at h
 | _ :: _,[],k,_,_,_,h,_ => by simp at h
 | p :: ps,b :: bs,0,x,y,h1,h2,h => by cases h1; cases h2; rw [ckS,h]; rfl
 | p :: ps,b :: bs,k + 1,x,y,h1,h2,h => by rw [ckS,ckS_no k x y h1 h2 h,Bool.and_false]
theorem spl_size (c : UInt8) : ∀ (l : List UInt8) (p : List UInt8),p ∈ spl c l → p.length ≤ l.length
 | [],p,h => by simp [spl] at h; subst h; exact Nat.le_refl _
 | b :: l,p,h => by
  obtain ⟨x,t,e⟩ := spl_ne c l
  have ih := spl_size c l
  rw [spl,e] at h
  rw [e] at ih
  by_cases k : neB c b = true
  ·rw [if_pos k] at h
   rcases List.mem_cons.1 h with rfl | h
   ·have := ih x (List.mem_cons_self ..); simp; omega
   ·have := ih p (List.mem_cons_of_mem _ h); simp; omega
  ·rw [if_neg k] at h
   rcases List.mem_cons.1 h with rfl | h
   ·simp
   ·have := ih p h; simp; omega
set_option maxRecDepth 100000 in
set_option maxHeartbeats 2000000 in
theorem tclock_any (s : ByteArray) (bs : List Nat) (a : Addr) (w : World) (hs : s.size ≤ 1000000) (hg : GlobM w) (hb : Bds w a bs) (hbl : bs.length ≤ 10) :
  Calls Tryz.prog 271 #[.string s,.slice (some a) bs.length bs.length] w fun e w' => e = .returned (.bool (ckS (spl 58 s.data.toList) bs)) ∧ Below w.heap.size w w' := by
 obtain ⟨m,hm⟩ := hg
 have CS := Tryz.strings_Split s ⟨#[58]⟩ m w (by omega) hm (by decide)
 have hsp := split_spl 58 s ⟨#[58]⟩ rfl
 have hlen : (Lib.splitB ⟨#[58]⟩ 0 (Lib.countB s ⟨#[58]⟩) s).length = Lib.countB s ⟨#[58]⟩ + 1 := Lib.splitB_all _ (by decide) 0 _ s rfl
 generalize Lib.splitB ⟨#[58]⟩ 0 (Lib.countB s ⟨#[58]⟩) s = ps at *
 rw [← hlen] at CS
 have hpl : ps.length = (spl 58 s.data.toList).length := by rw [← hsp,List.length_map]
 have hpm : ps.length ≤ 1000001 := by
  have := Lib.countB_le ⟨#[58]⟩ (by decide) s.size s (Nat.le_refl _)
  omega
 have HPS := hid (fun (k : Nat) (p : ByteArray) (h : ps[k]? = some p) => show (spl 58 s.data.toList)[k]? = some p.data.toList ∧ p.size ≤ 1000000 by
  have e : (spl 58 s.data.toList)[k]? = some p.data.toList := by rw [← hsp,List.getElem?_map,h]; rfl
  refine ⟨e,?_⟩
  have := spl_size 58 s.data.toList _ (List.mem_of_getElem? e)
  rw [size_list,size_list] at this; omega)
 have HLN := hid (fun h : ps.length ≠ bs.length => ckS_len (ps := spl 58 s.data.toList) (bs := bs) (by rw [← hpl]; exact h))
 have HALL := hid (fun h : ps.length = bs.length => ckS_all (ps := spl 58 s.data.toList) (bs := bs) (by rw [← hpl]; exact h))
 have HNO := hid (fun k p b => ckS_no (ps := spl 58 s.data.toList) (bs := bs) k p b)
 obtain ⟨R,hR⟩ : ∃ R,ckS (spl 58 s.data.toList) bs = R := ⟨_,rfl⟩
 rw [hR] at HLN HALL HNO ⊢
 clear hR hsp
 have HW : Hid (Below w.heap.size w (w.alloc (.cells (ps.map Value.string).toArray 9))) := (Below.refl _ _).alloc (Nat.le_refl _) _
 have HCE : Hid (∀ k p,ps[k]? = some p → (w.alloc (.cells (ps.map Value.string).toArray 9)).cell? (Addr.add ⟨w.heap.size,0,none⟩ k) = some (.string p)) := fun k p h => new_cells w (ps.map Value.string) 9 k _ (by rw [List.getElem?_map,h]; rfl)
 have HBD := hid (hb.on HW.out)
 have HPL := hid hpl
 generalize hw1 : w.alloc (.cells (ps.map Value.string).toArray 9) = w1 at *
 have CS2 := hid CS
 clear CS hw1 hm hb hpl hlen
 by_cases hne : ps.length = bs.length
 ·have g : (((ps.length : Nat) : Int) != (bs.length : Int)) = false := by rw [bne_eq_false_iff_eq]; omega
  have HA := hid (HALL.out hne)
  have HEQ := hid hne
  have hb10 : ps.length ≤ 10 := by omega
  clear HALL HLN hne
  generalize hN : ps.length = N at *
  generalize hM : bs.length = M at *
  have HNN := hid hN
  have HMM := hid hM
  clear hN hM
  go_enter Tryz.func271,Tryz.ntmps271
  go_wp2_with (go_at_call 78; go_must (refine CS2.out.mono ?_; rintro e w2 ⟨rfl,hw⟩; obtain rfl := hw.symm))
  clear CS2
  go_loopw [17] (fun x wr => ∃ k : Nat,k ≤ N ∧ x = .int .i64 (k : Int) ∧ Hid (Below w1.heap.size w1 wr) ∧ Hid (∀ (j : Nat) p b,j < k → (spl 58 s.data.toList)[j]? = some p → bs[j]? = some b → twoB p b = true)) (fun x _ => N - (intOf x).toNat)
  case atStart => exact ⟨0,Nat.zero_le _,rfl,Below.refl _ _,fun j p b h => absurd h (Nat.not_lt_zero _)⟩
  case round =>
   obtain ⟨k,hk,rfl,HB,HJ⟩ := hrel
   by_cases hlt : k < N
   ·obtain ⟨p,hp⟩ : ∃ p,ps[k]? = some p := ⟨_,List.getElem?_eq_getElem (by rw [HNN.out]; exact hlt)⟩
    obtain ⟨b,hbk⟩ : ∃ b,bs[k]? = some b := ⟨_,List.getElem?_eq_getElem (by rw [HMM.out,← HEQ.out]; exact hlt)⟩
    obtain ⟨hpe,hps⟩ := HPS.out k p hp
    have hc0 := HCE.out k p hp
    have hc1 : wr.cell? ⟨w.heap.size,k,none⟩ = some (.string p) := by rw [← addz,HB.out.cell (World.block_lt_of_cell? _ _ hc0)]; exact hc0
    obtain ⟨hbc,hb1000⟩ := (HBD.out.on HB.out) k b hbk
    have HX := hid (HNO.out k _ b hpe hbk)
    have HK : Hid (twoB p.data.toList b = true → ∀ (j : Nat) p b,j < k + 1 → (spl 58 s.data.toList)[j]? = some p → bs[j]? = some b → twoB p b = true) := fun h j q c hj h1 h2 => by
     by_cases e : j = k
     ·subst e; rw [hpe] at h1; rw [hbk] at h2; cases h1; cases h2; exact h
     ·exact HJ.out j q c (by omega) h1 h2
    have CH : Hid (∀ X,Calls Tryz.prog 267 #[.string p,.string ⟨#[48,48]⟩] X fun e w' => e = .returned (.bool (decide (p.data.toList.length = 2) && is2 p.data.toList 0)) ∧ Below X.heap.size X w') := fun X => by
     have := tshape_any p ⟨#[48,48]⟩ X hps
     rw [show (⟨#[48,48]⟩ : ByteArray).data.toList = [48,48] from rfl,shp_two] at this
     refine this.mono ?_
     rintro e w' ⟨rfl,n,rfl⟩
     exact ⟨rfl,tdrew_below _ _⟩
    have CN : Hid ((decide (p.data.toList.length = 2) && is2 p.data.toList 0) = true → ∀ X,Calls Tryz.prog 268 #[.string p] X fun e w' => e = .returned (.int .i64 (dg2 p.data.toList 0 : Nat)) ∧ Below X.heap.size X w') := fun h X => by
     rw [Bool.and_eq_true,decide_eq_true_eq] at h
     obtain ⟨h1,h2⟩ := h
     have hsz : p.size = 2 := by rw [← size_list]; exact h1
     obtain ⟨x,y,hxy⟩ := list2 h1
     rw [hxy] at h2
     simp only [is2,dg_at,dg_up,Bool.and_eq_true] at h2
     have := tcount_any p X (by omega) (by rw [hxy]; intro z hz; simp at hz; rcases hz with rfl | rfl; exact h2.1; exact h2.2)
     rw [hxy,pval_two x y h2.1 h2.2] at this
     rw [hxy]; exact this
    have HT : Hid (twoB p.data.toList b = ((decide (p.data.toList.length = 2) && is2 p.data.toList 0) && decide (dg2 p.data.toList 0 < b))) := rfl
    have hd99 : (decide (p.data.toList.length = 2) && is2 p.data.toList 0) = true → dg2 p.data.toList 0 ≤ 99 := fun h => dg2_le _ _ (by rw [Bool.and_eq_true] at h; exact h.2)
    rw [HT.out] at HX HK
    clear hpe hbk hp hc0 HT
    generalize (decide (p.data.toList.length = 2) && is2 p.data.toList 0) = z at *
    generalize dg2 p.data.toList 0 = d at *
    have yb := above_cell hbc
    have hkM : k < M := by rw [← HEQ.out]; exact hlt
    cases z with
    | false =>
     have HX2 := hid (HX.out rfl)
     clear HX HK CN hd99
     go_wp2_with fail
     have hinh := abv_some wr
     refine wp_region_above (by kernel_rfl) (by kernel_rfl) ?_
     repeat (go_big_quiet_step ((go_at_call 267; with_reducible exact above_of (CH.out _))))
     refine wpQuiet_nil ?_
     intro _ hw'
     obtain ⟨X,hX⟩ := hw'
     subst hX
     go_wp2_with fail
     go_ret
     exact ⟨ret_bool HX2.out.symm,eonto HW.out (eonto HB.out X.h)⟩
    | true =>
     have CN2 := hid (CN.out rfl)
     have hd2 := hd99 rfl
     rw [Bool.true_and] at HX HK
     clear CN hd99
     by_cases hdb : d < b
     ·have HK2 := hid (HK.out (decide_eq_true hdb))
      have g2 : ((b : Int) ≤ (d : Int)) = False := by simp; omega
      clear HX HK
      go_wp2_with fail
      have hinh := abv_some wr
      refine wp_region_above (by kernel_rfl) (by kernel_rfl) ?_
      repeat (go_big_quiet_step ((first
       | (go_at_call 267; with_reducible exact above_of (CH.out _))
       | (go_at_call 268; with_reducible exact above_of (CN2.out _)))))
      refine wpQuiet_nil ?_
      intro _ hw'
      obtain ⟨X,hX⟩ := hw'
      subst hX
      go_wp2_with fail
      go_round
      case rel => exact ⟨k + 1,by omega,val_int (by omega),eonto HB.out X.h,HK2.out⟩
      case measure => simp [intOf]; omega
     ·have HX2 := hid (HX.out (decide_eq_false hdb))
      have g2 : ((b : Int) ≤ (d : Int)) := by omega
      clear HX HK
      go_wp2_with fail
      have hinh := abv_some wr
      refine wp_region_above (by kernel_rfl) (by kernel_rfl) ?_
      repeat (go_big_quiet_step ((first
       | (go_at_call 267; with_reducible exact above_of (CH.out _))
       | (go_at_call 268; with_reducible exact above_of (CN2.out _)))))
      refine wpQuiet_nil ?_
      intro _ hw'
      obtain ⟨X,hX⟩ := hw'
      subst hX
      go_wp2_with fail
      go_ret
      exact ⟨ret_bool HX2.out.symm,eonto HW.out (eonto HB.out X.h)⟩
   ·have HE := hid (HA.out (fun j p b h1 h2 => HJ.out j p b (by have := (List.getElem?_eq_some_iff.1 h1).1; rw [← HPL.out] at this; omega) h1 h2))
    go_wp2_with fail
    go_ret
    exact ⟨ret_bool HE.out.symm,eonto HW.out HB.out⟩
 ·have g : (((ps.length : Nat) : Int) != (bs.length : Int)) = true := by rw [bne_iff_ne]; omega
  have HE := hid (HLN.out hne)
  clear HALL HLN HNO
  generalize hN : ps.length = N at *
  generalize hM : bs.length = M at *
  clear hN hM
  go_enter Tryz.func271,Tryz.ntmps271
  go_wp2_with (go_at_call 78; go_must (refine CS2.out.mono ?_; rintro e w2 ⟨rfl,hw⟩; obtain rfl := hw.symm))
  go_ret
  exact ⟨ret_bool HE.out.symm,HW.out⟩
theorem tcut_dot (s : ByteArray) (w : World) (hs : s.size ≤ 1000000) (hg : GlobM w) :
  Calls Tryz.prog 270 #[.string s,.string ⟨#[46]⟩] w fun e w' => e = .returned (.tuple #[.string (mkS (ckH s.data.toList)),.string (mkS (ckF s.data.toList)),.bool (ckD s.data.toList)]) ∧ Below w.heap.size w w' := by
 obtain ⟨m,hm⟩ := hg
 refine (Tryz.strings_Cut s ⟨#[46]⟩ m w (by omega) hm).mono ?_
 rintro e w' ⟨rfl,n,rfl⟩
 rw [show (⟨#[46]⟩ : ByteArray).data.toList = [46] from rfl,cut_run]
 exact ⟨rfl,tdrew_below _ _⟩
theorem ten_in : (fun b => (⟨#[48,49,50,51,52,53,54,55,56,57]⟩ : ByteArray).data.toList.contains b) = dgI := funext (byte_eq _ _ (by decide +kernel))
theorem bds_new (w : World) (bs : List Nat) (h : ∀ b ∈ bs,b ≤ 1000) (t : TypeId) : Bds (w.alloc (.cells (bs.map fun b => Value.int .i64 (b : Nat)).toArray t)) ⟨w.heap.size,0,none⟩ bs := fun i b hi =>
 ⟨new_cells w _ t i _ (by rw [List.getElem?_map,hi]; rfl),h b (List.mem_of_getElem? hi)⟩
theorem nat_beq (a b : Nat) : ((a : Int) == (b : Int)) = decide (a = b) := by
 rw [Bool.eq_iff_iff]; simp; omega
theorem empty_is (s : ByteArray) : s.toList.isEmpty = decide (s.data.toList = []) := by
 rw [ByteArray.toList_eq]; cases s.data.toList <;> simp
set_option maxRecDepth 100000 in
set_option maxHeartbeats 2000000 in
theorem ttime_any (s : ByteArray) (w : World) (hs : s.size ≤ 1000000) (hg : GlobM w) :
  Calls Tryz.prog 228 #[.string s] w fun e w' => e = .returned (.bool (tmB s.data.toList)) ∧ Below w.heap.size w w' := by
 have HG := hid hg
 have CC := hid (tcut_dot s w hs hg)
 have hH : (ckH s.data.toList).length ≤ 1000000 := by unfold ckH; rw [List.length_take,size_list]; omega
 have hF : (ckF s.data.toList).length ≤ 1000000 := by unfold ckF; rw [List.length_drop,size_list]; omega
 have HT : Hid (tmB s.data.toList = (ckS (spl 58 (ckH s.data.toList)) [24,60,61] && (!ckD s.data.toList || frB (ckF s.data.toList)))) := rfl
 generalize tmB s.data.toList = R at *
 have CK : Hid (∀ X,Below w.heap.size w X → Calls Tryz.prog 271 #[.string (mkS (ckH s.data.toList)),.slice (some ⟨X.heap.size,0,none⟩) 3 3] (X.alloc (.cells #[.int .i64 24,.int .i64 60,.int .i64 61] 3)) fun e w' => e = .returned (.bool (ckS (spl 58 (ckH s.data.toList)) [24,60,61])) ∧ Below X.heap.size X w') := fun X hX => by
  have hal : Below X.heap.size X (X.alloc (.cells #[.int .i64 24,.int .i64 60,.int .i64 61] 3)) := (Below.refl _ _).alloc (Nat.le_refl _) _
  have := tclock_any (mkS (ckH s.data.toList)) [24,60,61] ⟨X.heap.size,0,none⟩ (X.alloc (.cells #[.int .i64 24,.int .i64 60,.int .i64 61] 3)) (by rw [← size_list,mkS_list]; exact hH) ((hg.on hX).on hal) (bds_new X [24,60,61] (by decide) 3) (by decide)
  rw [mkS_list] at this
  exact this.mono fun e w' ⟨he,hb⟩ => ⟨he,eonto hal hb⟩
 generalize ckS (spl 58 (ckH s.data.toList)) [24,60,61] = c at *
 generalize mkS (ckH s.data.toList) = H at *
 have hFs : (mkS (ckF s.data.toList)).size = (ckF s.data.toList).length := by rw [← size_list,mkS_list]
 have HEM := hid (empty_is (mkS (ckF s.data.toList)))
 rw [mkS_list] at HEM
 have CR := hid (fun X => trowEnd_of (mkS (ckF s.data.toList)) 0 ⟨#[48,49,50,51,52,53,54,55,56,57]⟩ dgI ten_in (by decide) (ascii_of _ (by decide)) X (by rw [hFs]; exact hF) (Nat.zero_le _))
 rw [mkS_list,List.drop_zero] at CR
 have HFR : Hid (frB (ckF s.data.toList) = (decide (ckF s.data.toList ≠ []) && decide ((ckF s.data.toList).length ≤ 9) && decide (run dgI (ckF s.data.toList) = (ckF s.data.toList).length))) := rfl
 have hrl := run_leE dgI (ckF s.data.toList)
 rw [HFR.out] at HT
 generalize ckD s.data.toList = D at *
 generalize hfe : mkS (ckF s.data.toList) = F at *
 generalize ckF s.data.toList = f at *
 generalize run dgI f = r at *
 have hFs2 : f.length = F.size := hFs.symm
 rw [hFs2] at HT hrl
 clear HFR hH hF hg hfe hFs hFs2
 go_enter Tryz.func228,Tryz.ntmps228
 go_wp2_with (go_at_call 270; go_must (refine CC.out.mono ?_; rintro e w1 ⟨rfl,hb1⟩))
 go_at_call 271
 refine (CK.out w1 hb1).mono ?_
 rintro e w2 ⟨rfl,hb2⟩
 have HB := hid (eonto hb1 hb2)
 clear hb1 hb2
 cases c with
 | false =>
  go_wp2_with fail
  go_ret
  exact ⟨ret_bool (by rw [HT.out]; rfl),HB.out⟩
 | true =>
  cases D with
  | false =>
   go_wp2_with fail
   go_ret
   exact ⟨ret_bool (by rw [HT.out]; rfl),HB.out⟩
  | true =>
   by_cases hf : f = []
   ·have he : F.toList.isEmpty = true := by rw [HEM.out,decide_eq_true hf]
    go_wp2_with fail
    go_ret
    exact ⟨ret_bool (by rw [HT.out,decide_eq_false (fun h => h hf)]; rfl),HB.out⟩
   ·have he : F.toList.isEmpty = false := by rw [HEM.out,decide_eq_false hf]
    by_cases h9 : F.size ≤ 9
    ·go_wp2_with (go_at_call 272; go_must (refine (CR.out _).mono ?_; rintro e w3 ⟨rfl,hb3⟩))
     go_ret
     exact ⟨ret_bool (by rw [HT.out,decide_eq_true hf,decide_eq_true h9]; simp; exact nat_beq _ _),eonto HB.out hb3⟩
    ·go_wp2_with fail
     go_ret
     exact ⟨ret_bool (by rw [HT.out,decide_eq_true hf,decide_eq_false h9]; rfl),HB.out⟩
theorem in_zz (b : UInt8) : inT [90,122] b = decide (b.toNat = 90 ∨ b.toNat = 122) := byte_eq _ (fun b => decide (b.toNat = 90 ∨ b.toNat = 122)) (by decide +kernel) b
theorem in_pm (b : UInt8) : inT [43,45] b = decide (b.toNat = 43 ∨ b.toNat = 45) := byte_eq _ (fun b => decide (b.toNat = 43 ∨ b.toNat = 45)) (by decide +kernel) b
theorem in_tt (b : UInt8) : inT [84,116,32] b = decide (b.toNat = 84 ∨ b.toNat = 116 ∨ b.toNat = 32) := byte_eq _ (fun b => decide (b.toNat = 84 ∨ b.toNat = 116 ∨ b.toNat = 32)) (by decide +kernel) b
theorem tamong_zz (b : UInt8) (w : World) :
  Calls Tryz.prog 229 #[.string ⟨#[90,122]⟩,.int .u8 (b.toNat : Int)] w fun e w' => e = .returned (.bool (decide (b.toNat = 90 ∨ b.toNat = 122))) ∧ w' = w :=
 tamong_of _ (fun b => decide (b.toNat = 90 ∨ b.toNat = 122)) in_zz b w
theorem tamong_pm (b : UInt8) (w : World) :
  Calls Tryz.prog 229 #[.string ⟨#[43,45]⟩,.int .u8 (b.toNat : Int)] w fun e w' => e = .returned (.bool (decide (b.toNat = 43 ∨ b.toNat = 45))) ∧ w' = w :=
 tamong_of _ (fun b => decide (b.toNat = 43 ∨ b.toNat = 45)) in_pm b w
theorem tamong_tt (b : UInt8) (w : World) :
  Calls Tryz.prog 229 #[.string ⟨#[84,116,32]⟩,.int .u8 (b.toNat : Int)] w fun e w' => e = .returned (.bool (decide (b.toNat = 84 ∨ b.toNat = 116 ∨ b.toNat = 32))) ∧ w' = w :=
 tamong_of _ (fun b => decide (b.toNat = 84 ∨ b.toNat = 116 ∨ b.toNat = 32)) in_tt b w
theorem ret_str {a b : ByteArray} (h : a = b) : Ending.returned (.string a) = .returned (.string b) := by rw [h]
theorem take_str (s : ByteArray) (n : Nat) : s.extract 0 n = mkS (s.data.toList.take n) := mkS_of _ _ (by simp)
theorem self_str (s : ByteArray) : s = mkS s.data.toList := mkS_of _ _ rfl
set_option maxRecDepth 100000 in
set_option maxHeartbeats 2000000 in
theorem tzone_any (s : ByteArray) (w : World) (hs : s.size ≤ 1000000) (hg : GlobM w) :
  Calls Tryz.prog 230 #[.string s] w fun e w' => e = .returned (.string (mkS (znT s.data.toList))) ∧ Below w.heap.size w w' := by
 have HZ := hid (size_list s)
 have HE := hid (empty_is s)
 have CP := hid (fun b X => tamong_pm b X)
 have CZ := hid (fun b X => tamong_zz b X)
 obtain ⟨R,hR⟩ : ∃ R,znT s.data.toList = R := ⟨_,rfl⟩
 have HR := hid hR
 rw [hR]
 clear hR
 unfold znT at HR
 by_cases h0 : s.data.toList = []
 ·have he : s.toList.isEmpty = true := by rw [HE.out,decide_eq_true h0]
  have hz : s.size = 0 := by rw [← HZ.out,h0]; rfl
  have hz1 : (s.size : Int) - 6 < 0 := by omega
  rw [if_neg (fun k => k.1 h0),if_neg (by unfold zoB; rw [HZ.out,decide_eq_false (show ¬ 6 ≤ s.size by omega)]; simp)] at HR
  have HX := hid (self_str s)
  clear h0 hz
  go_enter Tryz.func230,Tryz.ntmps230
  go_wp2_with fail
  go_ret
  exact ⟨ret_str (by rw [← HR.out]; exact HX.out),Below.refl _ _⟩
 ·have he : s.toList.isEmpty = false := by rw [HE.out,decide_eq_false h0]
  have hsz : 1 ≤ s.size := by rw [← HZ.out]; cases h : s.data.toList with | nil => exact absurd h h0 | cons a l => simp
  obtain ⟨q,hq⟩ : ∃ q : Nat,(s.size : Int) - 1 = (q : Int) := ⟨s.size - 1,by omega⟩
  have hqs : q < s.size := by omega
  have hbq := s[q].toNat_lt
  have HZB : Hid (znB s.data.toList = decide (s[q].toNat = 90 ∨ s[q].toNat = 122)) := by
   show _ = _
   unfold znB; rw [HZ.out,show s.size - 1 = q by omega,bt_at s q hqs]
  have CZ2 := hid (CZ.out s[q])
  rw [← HZB.out] at CZ2
  cases hz : znB s.data.toList with
  | true =>
   rw [hz] at CZ2
   rw [if_pos ⟨h0,hz⟩] at HR
   have HX : Hid (s.extract 0 q = mkS (s.data.toList.take (s.data.toList.length - 1))) := by
    show _ = _
    rw [take_str,HZ.out,show s.size - 1 = q by omega]
   clear h0 hz HZB CZ CP
   have hlt2 : q < s.size := hqs
   go_enter Tryz.func230,Tryz.ntmps230
   go_wp2_with (go_at_call 229; go_must (refine (CZ2.out _).mono ?_; rintro e w1 ⟨rfl,hw⟩; obtain rfl := hw.symm))
   go_ret
   exact ⟨ret_str (by rw [← HR.out]; exact HX.out),Below.refl _ _⟩
  | false =>
   rw [hz] at CZ2
   rw [if_neg (fun k => by rw [hz] at k; exact absurd k.2 (by decide))] at HR
   clear h0 hz HZB CZ
   by_cases h6 : 6 ≤ s.size
   ·obtain ⟨r,hr⟩ : ∃ r : Nat,(s.size : Int) - 6 = (r : Int) := ⟨s.size - 6,by omega⟩
    have hrs : r < s.size := by omega
    have hbr := s[r].toNat_lt
    have HZO : Hid (zoB s.data.toList = (decide (s[r].toNat = 43 ∨ s[r].toNat = 45) && ckS (spl 58 (s.data.toList.drop (r + 1))) [24,60])) := by
     show _ = _
     unfold zoB; rw [HZ.out,show s.size - 6 = r by omega,bt_at s r hrs,decide_eq_true h6]; rfl
    have CP2 := hid (CP.out s[r])
    have CK : Hid (∀ X,Below w.heap.size w X → Calls Tryz.prog 271 #[.string (s.extract (r + 1) s.size),.slice (some ⟨X.heap.size,0,none⟩) 2 2] (X.alloc (.cells #[.int .i64 24,.int .i64 60] 3)) fun e w' => e = .returned (.bool (ckS (spl 58 (s.data.toList.drop (r + 1))) [24,60])) ∧ Below X.heap.size X w') := fun X hX => by
     have hal : Below X.heap.size X (X.alloc (.cells #[.int .i64 24,.int .i64 60] 3)) := (Below.refl _ _).alloc (Nat.le_refl _) _
     have := tclock_any (s.extract (r + 1) s.size) [24,60] ⟨X.heap.size,0,none⟩ (X.alloc (.cells #[.int .i64 24,.int .i64 60] 3)) (by simp; omega) ((hg.on hX).on hal) (bds_new X [24,60] (by decide) 3) (by decide)
     rw [drop_list] at this
     exact this.mono fun e w' ⟨he,hb⟩ => ⟨he,eonto hal hb⟩
    have HTK : Hid (s.data.toList.take (s.data.toList.length - 6) = s.data.toList.take r) := by
     show _ = _
     rw [HZ.out,show s.size - 6 = r by omega]
    rw [HZO.out,HTK.out] at HR
    clear HZO HTK hg CP
    generalize ckS (spl 58 (s.data.toList.drop (r + 1))) [24,60] = c at *
    generalize decide (s[r].toNat = 43 ∨ s[r].toNat = 45) = z at *
    have HX := hid (self_str s)
    have HX2 := hid (take_str s r)
    have hlt2 : q < s.size := hqs
    have hlt3 : r < s.size := hrs
    cases z with
    | false =>
     rw [Bool.false_and,if_neg (by decide)] at HR
     go_enter Tryz.func230,Tryz.ntmps230
     go_wp2_with (go_at_call 229; go_must (first | ((with_reducible refine (CZ2.out _).mono ?_); rintro e w1 ⟨rfl,hw⟩; obtain rfl := hw.symm) | ((with_reducible refine (CP2.out _).mono ?_); rintro e w1 ⟨rfl,hw⟩; obtain rfl := hw.symm)))
     go_ret
     exact ⟨ret_str (by rw [← HR.out]; exact HX.out),Below.refl _ _⟩
    | true =>
     rw [Bool.true_and] at HR
     go_enter Tryz.func230,Tryz.ntmps230
     go_wp2_with (go_at_call 229; go_must (first | ((with_reducible refine (CZ2.out _).mono ?_); rintro e w1 ⟨rfl,hw⟩; obtain rfl := hw.symm) | ((with_reducible refine (CP2.out _).mono ?_); rintro e w1 ⟨rfl,hw⟩; obtain rfl := hw.symm)))
     go_at_call 271
     refine (CK.out w (Below.refl _ _)).mono ?_
     rintro e w2 ⟨rfl,hb2⟩
     cases c with
     | true =>
      rw [if_pos rfl] at HR
      go_wp2_with fail
      go_ret
      exact ⟨ret_str (by rw [← HR.out]; exact HX2.out),hb2⟩
     | false =>
      rw [if_neg (by decide)] at HR
      go_wp2_with fail
      go_ret
      exact ⟨ret_str (by rw [← HR.out]; exact HX.out),hb2⟩
   ·have hn6 : (s.size : Int) - 6 < 0 := by omega
    rw [if_neg (by unfold zoB; rw [HZ.out,decide_eq_false h6]; simp)] at HR
    have HX := hid (self_str s)
    have hlt2 : q < s.size := hqs
    go_enter Tryz.func230,Tryz.ntmps230
    go_wp2_with (go_at_call 229; go_must (refine (CZ2.out _).mono ?_; rintro e w1 ⟨rfl,hw⟩; obtain rfl := hw.symm))
    go_ret
    exact ⟨ret_str (by rw [← HR.out]; exact HX.out),Below.refl _ _⟩
set_option maxRecDepth 100000 in
set_option maxHeartbeats 2000000 in
theorem tstamp_any (s : ByteArray) (w : World) (hs : s.size ≤ 1000000) (hg : GlobM w) :
  Calls Tryz.prog 172 #[.string s] w fun e w' => e = .returned (.bool (stB s.data.toList)) ∧ Below w.heap.size w w' := by
 have HZ := hid (size_list s)
 have C1 := hid (fun X => tday_any s X hs)
 have C2 := hid (fun X (h : Below w.heap.size w X) => ttime_any s X hs (hg.on h))
 have HR : Hid (stB s.data.toList = (dayB s.data.toList || tmB s.data.toList || (decide (10 < s.data.toList.length) && dayB (s.data.toList.take 10) && decide (bt s.data.toList 10 = 84 ∨ bt s.data.toList 10 = 116 ∨ bt s.data.toList 10 = 32) && tmB (znT (s.data.toList.drop 11))))) := rfl
 generalize stB s.data.toList = R at *
 have C3 : Hid (∀ X,Calls Tryz.prog 227 #[.string (s.extract 0 10)] X fun e w' => e = .returned (.bool (dayB (s.data.toList.take 10))) ∧ Below X.heap.size X w') := fun X => by
  have := tday_any (s.extract 0 10) X (by simp; omega)
  rw [drop_ext,List.drop_zero] at this; exact this
 have C4 : Hid (∀ X,Below w.heap.size w X → Calls Tryz.prog 230 #[.string (s.extract 11 s.size)] X fun e w' => e = .returned (.string (mkS (znT (s.data.toList.drop 11)))) ∧ Below X.heap.size X w') := fun X h => by
  have := tzone_any (s.extract 11 s.size) X (by simp; omega) (hg.on h)
  rw [drop_list] at this; exact this
 have hzl : (mkS (znT (s.data.toList.drop 11))).size ≤ 1000000 := by
  rw [← size_list,mkS_list]
  have : (znT (s.data.toList.drop 11)).length ≤ (s.data.toList.drop 11).length := by
   unfold znT; split
   ·rw [List.length_take]; omega
   ·split
    ·rw [List.length_take]; omega
    ·omega
  rw [List.length_drop,size_list] at this; omega
 have C5 := hid (fun X (h : Below w.heap.size w X) => ttime_any (mkS (znT (s.data.toList.drop 11))) X hzl (hg.on h))
 rw [mkS_list] at C5
 have CT := hid (fun b X => tamong_tt b X)
 rw [HZ.out] at HR
 generalize tmB (znT (s.data.toList.drop 11)) = b5 at *
 generalize mkS (znT (s.data.toList.drop 11)) = m at *
 generalize dayB (s.data.toList.take 10) = b3 at *
 generalize tmB s.data.toList = b2 at *
 generalize dayB s.data.toList = b1 at *
 clear hg
 cases b1 with
 | true =>
  go_enter Tryz.func172,Tryz.ntmps172
  go_wp2_with (go_at_call 227; go_must (refine (C1.out _).mono ?_; rintro e w1 ⟨rfl,hb1⟩))
  go_ret
  exact ⟨ret_bool (by rw [HR.out]; rfl),hb1⟩
 | false =>
  cases b2 with
  | true =>
   go_enter Tryz.func172,Tryz.ntmps172
   go_wp2_with (first
    | (go_at_call 227; go_must (refine (C1.out _).mono ?_; rintro e w1 ⟨rfl,hb1⟩))
    | (go_at_call 228; go_must (refine (C2.out _ hb1).mono ?_; rintro e w2 ⟨rfl,hb2⟩)))
   go_ret
   exact ⟨ret_bool (by rw [HR.out]; rfl),eonto hb1 hb2⟩
  | false =>
   by_cases h10 : 10 < s.size
   ·have hbt := s[10].toNat_lt
    have CT2 := hid (CT.out s[10])
    rw [bt_at s 10 h10,decide_eq_true h10,Bool.true_and] at HR
    generalize decide (s[10].toNat = 84 ∨ s[10].toNat = 116 ∨ s[10].toNat = 32) = b4 at *
    have hlt2 : 10 < s.size := h10
    cases b3 with
    | false =>
     go_enter Tryz.func172,Tryz.ntmps172
     go_wp2_with (first
      | (go_at_call 227; go_must (first | ((with_reducible refine (C1.out _).mono ?_); rintro e w1 ⟨rfl,hb1⟩) | ((with_reducible refine (C3.out _).mono ?_); rintro e w3 ⟨rfl,hb3⟩)))
      | (go_at_call 228; go_must (refine (C2.out _ hb1).mono ?_; rintro e w2 ⟨rfl,hb2⟩)))
     go_ret
     exact ⟨ret_bool (by rw [HR.out]; rfl),eonto (eonto hb1 hb2) hb3⟩
    | true =>
     cases b4 with
     | false =>
      go_enter Tryz.func172,Tryz.ntmps172
      go_wp2_with (first
       | (go_at_call 227; go_must (first | ((with_reducible refine (C1.out _).mono ?_); rintro e w1 ⟨rfl,hb1⟩) | ((with_reducible refine (C3.out _).mono ?_); rintro e w3 ⟨rfl,hb3⟩)))
       | (go_at_call 228; go_must (refine (C2.out _ hb1).mono ?_; rintro e w2 ⟨rfl,hb2⟩))
       | (go_at_call 229; go_must (refine (CT2.out _).mono ?_; rintro e w4 ⟨rfl,hw⟩; obtain rfl := hw.symm)))
      go_ret
      exact ⟨ret_bool (by rw [HR.out]; rfl),eonto (eonto hb1 hb2) hb3⟩
     | true =>
      go_enter Tryz.func172,Tryz.ntmps172
      go_wp2_with (first
       | (go_at_call 227; go_must (first | ((with_reducible refine (C1.out _).mono ?_); rintro e w1 ⟨rfl,hb1⟩) | ((with_reducible refine (C3.out _).mono ?_); rintro e w3 ⟨rfl,hb3⟩)))
       | (go_at_call 228; go_must (first | ((with_reducible refine (C2.out _ hb1).mono ?_); rintro e w2 ⟨rfl,hb2⟩) | ((with_reducible refine (C5.out _ (eonto (eonto (eonto hb1 hb2) hb3) hb5)).mono ?_); rintro e w6 ⟨rfl,hb6⟩)))
       | (go_at_call 229; go_must (refine (CT2.out _).mono ?_; rintro e w4 ⟨rfl,hw⟩; obtain rfl := hw.symm))
       | (go_at_call 230; go_must (refine (C4.out _ (eonto (eonto hb1 hb2) hb3)).mono ?_; rintro e w5 ⟨rfl,hb5⟩)))
      go_ret
      exact ⟨ret_bool (by rw [HR.out]; rfl),eonto (eonto (eonto (eonto hb1 hb2) hb3) hb5) hb6⟩
   ·rw [decide_eq_false h10,Bool.false_and,Bool.false_and,Bool.false_and] at HR
    go_enter Tryz.func172,Tryz.ntmps172
    go_wp2_with (first
     | (go_at_call 227; go_must (refine (C1.out _).mono ?_; rintro e w1 ⟨rfl,hb1⟩))
     | (go_at_call 228; go_must (refine (C2.out _ hb1).mono ?_; rintro e w2 ⟨rfl,hb2⟩)))
    go_ret
    exact ⟨ret_bool (by rw [HR.out]; rfl),eonto hb1 hb2⟩
end Go.Proofs.YteimbjamnfkapaaGreatDoor
