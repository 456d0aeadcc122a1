/- value.goodNode, walked. -/
import Derived.Test.YteimbjamnfkapaaGreatDoorLVTextAll
import Derived.Test.YteimbjamnfkapaaGreatDoorLVSameT
namespace Go.Proofs.YteimbjamnfkapaaGreatDoor
open Go.RowKit
def nodeC (k n : Int) (a b c d num te st ks : Bool) : Bool :=
 if k = 0 then a && b && c && d else if k = 1 then (a || n == 1) && b && c && d else if k = 2 then b && c && d else if k = 3 then a && num && c && d else if k = 4 then a && te && c && d
 else if k = 7 then a && st && c && d else if k = 5 then a && b && d else if k = 6 then a && b && c && ks else false
def nodeB (T : VT) : Bool := nodeC T.kd T.nm (T.nm == 0) T.st.toList.isEmpty ((T.ls.length : Int) == 0) ((T.vs.length : Int) == 0) (numB T.st.data.toList && !intB T.st.data.toList) (teI T.st == 0) (stampB T.st) (keysB T.ks)
theorem ikey (k c : Int) (h : ¬ k = c) : (k == c) = false ∧ (k != c) = true := ⟨by simpa using h,by simpa using h⟩
set_option maxRecDepth 100000 in
set_option maxHeartbeats 4000000 in
theorem gnode_any (T : VT) (x y : Value) (w : World) (hg : Glob w) (hT : HV w T x y) :
  Calls Tryz.prog 142 #[vv T x y] w fun e w' => e = .returned (.bool (nodeB T)) ∧ Below w.heap.size w w' := by
 have HM := hid hT.inM
 have HW := hid hT.wfs
 obtain ⟨k,hk⟩ : ∃ k,T.kd = k := ⟨_,rfl⟩
 obtain ⟨n,hn⟩ : ∃ n,T.nm = n := ⟨_,rfl⟩
 obtain ⟨s,hst⟩ : ∃ s,T.st = s := ⟨_,rfl⟩
 obtain ⟨oL,nL,cL,oM,nM,cM,rfl,rfl,hlL,hlM⟩ : ∃ oL nL cL oM nM cM,x = .slice oL nL cL ∧ y = .slice oM nM cM ∧ nL = T.ls.length ∧ nM = T.vs.length := by
  cases hT with
  | mk a b f g p q hk hn hs hL hM hK cL cK cM rL rM =>
   obtain ⟨oL,capL,rfl,-,-,-⟩ := hL
   obtain ⟨oM,capM,rfl,-,-,-⟩ := hM
   exact ⟨_,_,_,_,_,_,rfl,rfl,rfl,rfl⟩
 have HN := hid (show nodeB T = nodeC k n (n == 0) s.toList.isEmpty ((nL : Int) == 0) ((nM : Int) == 0) (numB s.data.toList && !intB s.data.toList) (teI s == 0) (stampB s) (keysB T.ks) by unfold nodeB; rw [hk,hn,hst,hlL,hlM])
 have HL3 : Hid (nL ≤ 2 ^ 63 - 1 ∧ nM ≤ 2 ^ 63 - 1) := by
  obtain ⟨_,_,_,_,_,_,_,_,_,_,-,-,h1,h2,-⟩ := hT.parts
  rw [hlL,hlM]; exact ⟨h1,h2⟩
 obtain ⟨hl1,hl2⟩ := HL3.out
 have hs := HW.out.2.2
 rw [hst] at hs
 simp only [vv]
 rw [hk,hn,hst]
 have gn := hid (fun X (hX : Below w.heap.size w X) => gnum_any s X (hg.on hX) hs)
 have te := hid (fun X => terr_any s X hs)
 have gs := hid (fun X => gstamp_any s X hs)
 have gk := hid (fun X (hX : Below w.heap.size w X) => gkeys_any T.ks T.vs _ X (HM.out.onto hX))
 generalize nodeB T = res at HN ⊢
 generalize (numB s.data.toList && !intB s.data.toList) = num at HN gn
 generalize teI s = tt at HN te
 generalize stampB s = sb at HN gs
 generalize keysB T.ks = kb at HN gk
 clear hk hn hst hlL hlM hT hg HM HW hs
 have HB : Hid (∀ o m,Below w.heap.size w ((w.alloc o).drewN m)) := fun o m => vdrew_bel (valloc_bel (Below.refl _ _) _) m
 go_enter Tryz.func142,Tryz.ntmps142
 go_upto_region 1 with fail
 go_cut [3,4,5,6] from 7 (fun v3 v4 v5 v6 wx => v3 = .bool (n == 0) ∧ v4 = .bool s.toList.isEmpty ∧ v5 = .bool ((nL : Int) == 0) ∧ v6 = .bool ((nM : Int) == 0) ∧ ∃ m,wx = (w.alloc (.cells #[.int .i64 k,.int .i64 n,.string s,.slice oL nL cL,.slice oM nM cM] 29)).drewN m)
 case first =>
  go_quiet (fail)
  go_wp2_with fail
  go_meet
  exact ⟨rfl,rfl,rfl,rfl,_,rfl⟩
 case rest =>
 obtain ⟨rfl,rfl,rfl,rfl,m,rfl⟩ := hcut
 have ha2 : ∀ a,(n == 0) = a → (n == 0) = a := fun _ h => h
 generalize ha : (n == 0) = a at HN ha2 ⊢
 generalize s.toList.isEmpty = b at HN ⊢
 generalize ((nL : Int) == 0) = c at HN ⊢
 generalize ((nM : Int) == 0) = d at HN ⊢
 clear ha2
 have HAA := hid ha
 clear ha
 by_cases k0 : k = 0
 ·subst k0
  have HR := hid (show res = (a && b && c && d) from HN.out)
  clear HN
  cases a <;> cases b <;> cases c <;> cases d
  all_goals
   go_wp2_with fail
   go_ret
   exact ⟨ret_bool HR.out.symm,HB.out _ _⟩
 by_cases k1 : k = 1
 ·subst k1
  have HR := hid (show res = ((a || n == 1) && b && c && d) from HN.out)
  clear HN
  have ha := HAA.out
  generalize hn1 : (n == 1) = a1 at HR
  cases a <;> cases a1 <;> cases b <;> cases c <;> cases d
  all_goals
   go_wp2_with fail
   go_ret
   exact ⟨ret_bool HR.out.symm,HB.out _ _⟩
 by_cases k2 : k = 2
 ·subst k2
  have HR := hid (show res = (b && c && d) from HN.out)
  clear HN
  cases b <;> cases c <;> cases d
  all_goals
   go_wp2_with fail
   go_ret
   exact ⟨ret_bool HR.out.symm,HB.out _ _⟩
 by_cases k3 : k = 3
 ·subst k3
  have HR := hid (show res = (a && num && c && d) from HN.out)
  clear HN
  cases a <;> cases num <;> cases c <;> cases d
  all_goals
   go_wp2_with (go_at_call 198; go_must (refine (gn.out _ (HB.out _ _)).mono ?_; rintro e w1 ⟨rfl,hb1⟩))
   go_ret
   exact ⟨ret_bool HR.out.symm,by first | exact HB.out _ _ | exact vonto (HB.out _ _) hb1⟩
 by_cases k4 : k = 4
 ·subst k4
  have HR := hid (show res = (a && (tt == 0) && c && d) from HN.out)
  clear HN
  generalize ht0 : (tt == 0) = t0 at HR
  cases a <;> cases t0 <;> cases c <;> cases d
  all_goals
   go_wp2_with (go_at_call 197; go_must (refine (te.out _).mono ?_; rintro e w1 ⟨rfl,rfl⟩))
   go_ret
   exact ⟨ret_bool HR.out.symm,HB.out _ _⟩
 by_cases k7 : k = 7
 ·subst k7
  have HR := hid (show res = (a && sb && c && d) from HN.out)
  clear HN
  cases a <;> cases sb <;> cases c <;> cases d
  all_goals
   go_wp2_with (go_at_call 199; go_must (refine (gs.out _).mono ?_; rintro e w1 ⟨rfl,hb1⟩))
   go_ret
   exact ⟨ret_bool HR.out.symm,by first | exact HB.out _ _ | exact vonto (HB.out _ _) hb1⟩
 by_cases k5 : k = 5
 ·subst k5
  have HR := hid (show res = (a && b && d) from HN.out)
  clear HN
  cases a <;> cases b <;> cases d
  all_goals
   go_wp2_with fail
   go_ret
   exact ⟨ret_bool HR.out.symm,HB.out _ _⟩
 by_cases k6 : k = 6
 ·subst k6
  have HR := hid (show res = (a && b && c && kb) from HN.out)
  clear HN
  cases a <;> cases b <;> cases c <;> cases kb
  all_goals
   go_wp2_with (go_at_call 200; go_must (refine (gk.out _ (HB.out _ _)).mono ?_; rintro e w1 ⟨rfl,hb1⟩))
   go_ret
   exact ⟨ret_bool HR.out.symm,by first | exact HB.out _ _ | exact vonto (HB.out _ _) hb1⟩
 have HR := hid (show res = false by rw [HN.out]; unfold nodeC; rw [if_neg k0,if_neg k1,if_neg k2,if_neg k3,if_neg k4,if_neg k7,if_neg k5,if_neg k6])
 have j0 := (ikey _ _ k0).1
 have j1 := (ikey _ _ k1).1
 have j2 := (ikey _ _ k2).1
 have j3 := (ikey _ _ k3).1
 have j4 := (ikey _ _ k4).1
 have j7 := (ikey _ _ k7).1
 have j5 := (ikey _ _ k5).1
 have j6 := (ikey _ _ k6).1
 clear HN k0 k1 k2 k3 k4 k5 k6 k7
 go_wp2_with fail
 go_ret
 exact ⟨ret_bool HR.out.symm,HB.out _ _⟩
end Go.Proofs.YteimbjamnfkapaaGreatDoor
