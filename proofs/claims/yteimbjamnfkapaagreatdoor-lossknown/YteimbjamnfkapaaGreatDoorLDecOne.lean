import Derived.Test.YteimbjamnfkapaaGreatDoorLOrders
import Derived.Deep.DeepCutAuto
import Derived.Deep.CutRange
import Derived.Test.YteimbjamnfkapaaGreatDoorLShelf
import Derived.Laws.IdiomStrings
import Derived.BigQuiet
import Derived.Test.YteimbjamnfkapaaGreatDoorLMathDecAll
import Derived.Deep.RegionWith
import Derived.StillTailTactics
import Derived.Lib.AtoiErrMem
/- Package dec, walked: a text's digits cut off, what stands behind e. -/
/- Package dec, walked: the one number that stands for a text. -/
/- Package dec, walked: read. -/
/- Package dec, walked: Good, Whole; the sizes of two numbers compared. -/
/- Package dec, walked: Cmp. -/
/- Package dec, walked: Int alone; the library's two errors that it reads. -/
namespace Go.Proofs.YteimbjamnfkapaaGreatDoor
open Go.RowKit
theorem cutp_any (s : ByteArray) (c : UInt8) (w : World) :
  Calls Tryz.prog 139 #[.string s,.string ⟨#[c]⟩] w fun e w' => e = .returned (.tuple #[.string (mkS (Lib.trimPrefix s.data.toList [c])),.bool (Lib.hasPrefix s.data.toList [c])]) ∧ w' = w := Tryz.strings_CutPrefix s ⟨#[c]⟩ w
theorem trimp_any (s : ByteArray) (c : UInt8) (w : World) :
  Calls Tryz.prog 131 #[.string s,.string ⟨#[c]⟩] w fun e w' => e = .returned (.string (mkS (Lib.trimPrefix s.data.toList [c]))) ∧ w' = w := Tryz.strings_TrimPrefix s ⟨#[c]⟩ w
theorem ret_ss {a b c d : ByteArray} (h : a = b) (g : c = d) : Ending.returned (.tuple #[.string a,.string c]) = .returned (.tuple #[.string b,.string d]) := by rw [h,g]
theorem cut_pair (s : ByteArray) : s.extract 0 (runN s.data.toList) = mkS (s.data.toList.takeWhile isD) ∧ s.extract (runN s.data.toList) s.size = mkS (s.data.toList.dropWhile isD) :=
 ⟨mkS_of _ _ (by rw [cut_list,runN_take]),mkS_of _ _ (by rw [drop_list,runN_drop])⟩
set_option maxRecDepth 100000 in
set_option maxHeartbeats 400000 in
theorem cutd_any (s : ByteArray) (w : World) (hs : s.size ≤ maxLen) :
  Calls Tryz.prog 246 #[.string s] w fun e w' => e = .returned (.tuple #[.string (mkS (s.data.toList.takeWhile isD)),.string (mkS (s.data.toList.dropWhile isD))]) ∧ ∃ n,w' = w.drewN n := by
 unfold maxLen at hs
 have hr := runN_le s.data.toList
 rw [size_list] at hr
 go_enter Tryz.func246,Tryz.ntmps246
 go_wp2_with fail
 go_loop [4] (fun x => ∃ k : Nat,x = .int .i64 k ∧ k ≤ runN s.data.toList) (fun x => s.size - (intOf x).toNat)
 case atStart => exact ⟨0,rfl,Nat.zero_le _⟩
 case round =>
  obtain ⟨k,rfl,hk⟩ := hrel
  by_cases hlt : k < s.size
  ·have E := hid (getD_at s k hlt)
   by_cases hd : k < runN s.data.toList
   ·have hD := isD_bd (show isD s[k] = true by rw [← E.out]; exact runN_lt _ _ hd)
    go_wp2_with fail
    go_round
    case rel => exact ⟨k + 1,by go_num,hd⟩
    case measure => simp [intOf]; omega
   ·have hk' : k = runN s.data.toList := by omega
    have hD : isD s[k] = false := by
     rw [← E.out,hk']; exact runN_at _ (by rw [size_list]; omega)
    have hD' : ¬ (48 ≤ s[k].toNat ∧ s[k].toNat ≤ 57) := by intro h; rw [show isD s[k] = true by unfold isD; rw [decide_eq_true h.1,decide_eq_true h.2]; rfl] at hD; cases hD
    have HK := hid hk'
    clear hk' hD
    by_cases h48 : 48 ≤ s[k].toNat
    ·have h57 : ¬ s[k].toNat ≤ 57 := fun h => hD' ⟨h48,h⟩
     clear hD'
     go_wp2_with fail
     go_quiet (fail)
     go_wp2_with fail
     go_ret2
     have hc := cut_pair s
     rw [← HK.out] at hc
     exact ⟨ret_ss hc.1 hc.2,_,rfl⟩
    ·clear hD'
     go_wp2_with fail
     go_quiet (fail)
     go_wp2_with fail
     go_ret2
     have hc := cut_pair s
     rw [← HK.out] at hc
     exact ⟨ret_ss hc.1 hc.2,_,rfl⟩
  ·have HK := hid (show k = runN s.data.toList by omega)
   go_wp2_with fail
   go_quiet (fail)
   go_wp2_with fail
   go_ret2
   have hc := cut_pair s
   rw [← HK.out] at hc
   exact ⟨ret_ss hc.1 hc.2,_,rfl⟩
theorem brow_at (s : ByteArray) (k : Nat) (w : World) (c : Nat) (t : TypeId) (m : Nat × Nat) (hk : k < s.size) : (w.alloc (.cells (bytesRow s c) t m)).cell? ⟨w.heap.size,k,none⟩ = some (.int .u8 (s[k].toNat : Int)) := by
 rw [World.cell?_alloc_mark w _ t m k]
 exact bytesRow_at s c k hk
set_option maxRecDepth 100000 in
set_option maxHeartbeats 1000000 in
theorem readp_any (s : ByteArray) (w : World) (hs : s.size ≤ 1000) :
  Calls Tryz.prog 247 #[.string s] w fun e w' => e = .returned (.tuple #[.int .i64 (rpV s.data.toList),.bool (rpB s.data.toList)]) ∧ ((∃ n,w' = w.drewN n) ∨ ∃ o n,w' = (w.alloc o).drewN n) := by
 obtain ⟨l,hl⟩ : ∃ l,s.data.toList = l := ⟨_,rfl⟩
 have HL := hid hl
 clear hl
 rw [HL.out]
 by_cases he : s.data.toList = []
 ·have h1 := emp_yes s he
  have H := hid (show l = [] by rw [← HL.out]; exact he)
  clear he
  go_enter Tryz.func247,Tryz.ntmps247
  go_wp2_with fail
  go_ret2
  exact ⟨ret_ib (by rw [H.out]; exact rp_nil.2.symm) (by rw [H.out]; exact rp_nil.1.symm),Or.inl ⟨0,rfl⟩⟩
 have h1 := emp_no s he
 have h0 := emp_size s he
 have HE := hid (show ¬ l = [] by rw [← HL.out]; exact he)
 have E := hid (show (l.getD 0 0) = s[0] by rw [← HL.out]; exact getD_at s 0 h0)
 clear he
 cases hE : rpE l with
 | false =>
  have hx : ¬ s[0].toNat = 101 ∧ ¬ s[0].toNat = 69 := by
   rw [← E.out]; unfold rpE at hE; simpa using hE
  have h2 : ((s[0].toNat : Int) != 101) = true := byte_nnot _ _ hx.1
  have h3 : ((s[0].toNat : Int) != 69) = true := byte_nnot _ _ hx.2
  have HN := hid (rp_no l HE.out (Or.inl hE))
  clear hx hE
  go_enter Tryz.func247,Tryz.ntmps247
  go_wp2_with fail
  go_ret2
  exact ⟨ret_ib HN.out.2.symm HN.out.1.symm,Or.inl ⟨0,rfl⟩⟩
 | true =>
 have H2 := hid (show ((s[0].toNat : Int) != 101) = false ∨ (((s[0].toNat : Int) != 101) = true ∧ ((s[0].toNat : Int) != 69) = false) by
  unfold rpE at hE; rw [E.out] at hE
  by_cases h : s[0].toNat = 101
  ·exact Or.inl (byte_nis _ _ h)
  ·refine Or.inr ⟨byte_nnot _ _ h,byte_nis _ _ ?_⟩
   simpa [h] using hE)
 have HR := hid hE
 clear hE
 obtain ⟨t,ht⟩ : ∃ t,l.drop 1 = t := ⟨_,rfl⟩
 have HT := hid ht
 obtain ⟨p,hp⟩ : ∃ p,s.extract 1 s.size = p := ⟨_,rfl⟩
 have HP := hid (show p.data.toList = t by rw [← hp,drop_list,HL.out,ht])
 clear ht
 have hps : p.size ≤ 1000 := by rw [← hp,ByteArray.size_extract]; omega
 go_enter Tryz.func247,Tryz.ntmps247
 go_upto_region 3 with fail
 go_cut [19] from 10 (fun v wx => v = .bool false ∧ wx = w)
 case first =>
  rcases H2.out with h2 | ⟨h2,h3⟩
  ·go_wp2_with fail
   go_meet
   exact ⟨rfl,rfl⟩
  ·go_wp2_with fail
   go_meet
   exact ⟨rfl,rfl⟩
 case rest =>
 obtain ⟨rfl,rfl⟩ := hcut
 go_upto_if 27 with (go_at_call 139; go_must (refine (cutp_any _ _ _).mono ?_; rintro e w' ⟨rfl,hw⟩; obtain rfl := hw.symm; rw [HP.out]))
 go_cut [4,5] from 10 (fun v b wx => ∃ q : ByteArray,v = .string q ∧ b = .bool (Lib.hasPrefix t [45]) ∧ Hid (q.data.toList = pD t) ∧ wx = wc)
 case first =>
  cases hb : Lib.hasPrefix t [45] with
  | true =>
   have H := hid ((cut_sign t).1 hb)
   go_wp2_with fail
   go_meet
   exact ⟨_,rfl,by rw [hb],(show (mkS _).data.toList = _ by rw [mkS_list]; exact H.out),rfl⟩
  | false =>
   have H := hid ((cut_sign t).2 hb)
   go_wp2_with (go_at_call 131; go_must (refine (trimp_any _ _ _).mono ?_; rintro e w' ⟨rfl,hw⟩; obtain rfl := hw.symm; rw [mkS_list]))
   go_meet
   exact ⟨_,rfl,by rw [hb],(show (mkS _).data.toList = _ by rw [mkS_list]; exact H.out),rfl⟩
 case rest =>
 obtain ⟨q,rfl,rfl,HQ,rfl⟩ := hcut
 obtain ⟨D,hD⟩ : ∃ D,pD t = D := ⟨_,rfl⟩
 have HQ' := hid (show q.data.toList = D by rw [HQ.out,hD])
 have HD := hid hD
 have hqs : q.size ≤ 1000 := by
  rw [← size_list,HQ.out]; have h1 : (pD t).length ≤ t.length := by unfold pD; split <;> simp
  have h2 : t.length = p.size := by rw [← HP.out,size_list]
  omega
 clear hD HQ
 have cd : ∀ w,Calls Tryz.prog 246 #[.string q] w fun e w' => e = .returned (.tuple #[.string (mkS (D.takeWhile isD)),.string (mkS (D.dropWhile isD))]) ∧ ∃ n,w' = w.drewN n := fun w => by
  have := cutd_any q w (max_small hqs); rw [HQ'.out] at this; exact this
 obtain ⟨d,hd⟩ : ∃ d,mkS (D.takeWhile isD) = d := ⟨_,rfl⟩
 obtain ⟨r,hr⟩ : ∃ d,mkS (D.dropWhile isD) = d := ⟨_,rfl⟩
 rw [hd,hr] at cd
 have Hd := hid (show d.data.toList = D.takeWhile isD by rw [← hd,mkS_list])
 have Hr := hid (show r.data.toList = D.dropWhile isD by rw [← hr,mkS_list])
 clear hd hr
 by_cases hde : d.data.toList = []
 ·have h2 := emp_yes d hde
  have HN := hid (show rpB l = false ∧ rpV l = 0 by
   refine rp_no l HE.out ?_
   rw [HT.out,HD.out]
   by_cases h0 : D = []
   ·exact Or.inr (Or.inl h0)
   ·refine Or.inr (Or.inr (Or.inl ?_))
    unfold runN; rw [← Hd.out,hde]
    intro h; exact h0 (List.length_eq_zero_iff.1 h.symm))
  clear hde
  go_wp2_with (go_at_call 246; go_must (refine (cd _).mono ?_; rintro e w' ⟨rfl,n,rfl⟩))
  go_ret2
  exact ⟨ret_ib HN.out.2.symm HN.out.1.symm,Or.inl ⟨_,rfl⟩⟩
 have h2 := emp_no d hde
 have HDE := hid hde
 clear hde
 by_cases hre : r.data.toList = []
 rotate_left
 ·have h3 := emp_no r hre
  have HN := hid (show rpB l = false ∧ rpV l = 0 by
   refine rp_no l HE.out (Or.inr (Or.inr (Or.inl ?_)))
   rw [HT.out,HD.out]
   intro h; apply hre; rw [Hr.out,← runN_drop,h,List.drop_length])
  clear hre
  go_wp2_with (go_at_call 246; go_must (refine (cd _).mono ?_; rintro e w' ⟨rfl,n,rfl⟩))
  go_ret2
  exact ⟨ret_ib HN.out.2.symm HN.out.1.symm,Or.inl ⟨_,rfl⟩⟩
 have h3 := emp_yes r hre
 have hDd : d.data.toList = D := by
  have := List.takeWhile_append_dropWhile (p := isD) (l := D)
  rw [← Hr.out,hre,List.append_nil] at this
  rw [Hd.out,this]
 have HA := hid (show D.all isD = true by rw [← hDd,Hd.out]; exact tw_all _)
 have HDd := hid hDd
 have HRN := hid (run_all D HA.out)
 have hds : d.size ≤ 1000 := by
  have h1 : d.size = D.length := by rw [← size_list,hDd]
  have h2 : q.size = D.length := by rw [← size_list,HQ'.out]
  omega
 clear hre hDd
 go_upto_region 12 with (go_at_call 246; go_must (refine (cd _).mono ?_; rintro e w' ⟨rfl,n,rfl⟩))
 have hcv := run_bytes_of_string (P := Tryz.prog) (wc.drewN n) 9 116 5 d Tryz.underlying9 Tryz.underlying116 Tryz.underlying5
 go_cut [42,43,44] from 10 (fun a b c wx => ∃ cap,a = .slice (some ⟨wc.heap.size,0,none⟩) d.size cap ∧ b = .int .i64 d.size ∧ c = .int .i64 0 ∧ d.size ≤ cap ∧ Hid (∀ k (h : k < d.size),wx.cell? ⟨wc.heap.size,k,none⟩ = some (.int .u8 (d[k].toNat : Int))) ∧ Hid (∃ o m,wx = (wc.alloc o).drewN m))
 case first =>
  go_wp2_with fail
  go_meet
  exact ⟨_,rfl,rfl,rfl,grownCap_ge _ _ _ _,(show ∀ k (h : k < d.size),_ = _ from fun k hk => brow_at d k (wc.drewN (n + 1)) _ _ _ hk),(show ∃ o m,_ = _ from ⟨_,n + 1,rfl⟩)⟩
 case rest =>
 obtain ⟨cap,rfl,rfl,rfl,hcap,HC,HW⟩ := hcut
 have HSZ := hid (show D.length = d.size by rw [← HDd.out,size_list])
 go_wp2_with fail
 go_loop [7,44] (fun v x => ∃ k : Nat,v = .int .i64 (pval (D.take k)) ∧ x = .int .i64 k ∧ k ≤ d.size ∧ pval (D.take k) ≤ 100000) (fun _ x => d.size - (intOf x).toNat)
 case atStart => exact ⟨0,rfl,rfl,Nat.zero_le _,by simp [pval]⟩
 case round =>
  obtain ⟨k,rfl,rfl,hk,hv⟩ := hrel
  by_cases hlt : k < d.size
  ·have hcell := HC.out k hlt
   have E1 := hid (getD_at d k hlt)
   have P1 := hid (pval_take D k (by rw [HSZ.out]; exact hlt))
   have hdg : isD d[k] = true := by
    rw [← E1.out,HDd.out]
    refine isD_of_all HA.out ?_
    rw [List.getD,List.getElem?_eq_getElem (by rw [HSZ.out]; exact hlt)]
    exact List.getElem_mem _
   have hb := isD_bd hdg
   have HP1 := hid (show ((pval (D.take (k + 1)) : Nat) : Int) = (pval (D.take k) : Int) * 10 + ((d[k].toNat : Int) - 48) by rw [P1.out,← HDd.out,E1.out,hdg]; simp; omega)
   clear hdg
   by_cases hg : (pval (D.take k) : Int) * 10 + ((d[k].toNat : Int) - 48) > 100000
   ·have HN := hid (show rpB l = false ∧ rpV l = 0 by
     refine rp_no l HE.out (Or.inr (Or.inr (Or.inr ?_)))
     rw [HT.out,HD.out]
     have h1 := pval_le D (k + 1); have h2 := HP1.out
     omega)
    go_wp2_with fail
    go_ret2
    exact ⟨ret_ib HN.out.2.symm HN.out.1.symm,Or.inr HW.out⟩
   ·go_wp2_with fail
    go_round
    case rel => exact ⟨k + 1,val_int HP1.out.symm,by go_num,hlt,by have := HP1.out; omega⟩
    case measure => simp [intOf]; omega
  ·have HE2 := hid (show D.take k = D by rw [show k = d.size by omega,← HSZ.out,List.take_length])
   rw [HE2.out] at hv ⊢
   have HY := hid (rp_yes l HR.out (by rw [HT.out,HD.out]; intro h; exact HDE.out (by rw [HDd.out,h])) (by rw [HT.out,HD.out]; exact HRN.out) (by rw [HT.out,HD.out]; exact hv))
   cases hb : Lib.hasPrefix t [45]
   ·go_wp2_with fail
    go_ret2
    exact ⟨ret_ib (by rw [HY.out.2,HT.out,HD.out,hb]; rfl) HY.out.1.symm,Or.inr HW.out⟩
   ·go_wp2_with fail
    go_ret2
    exact ⟨ret_ib (by rw [HY.out.2,HT.out,HD.out,hb]; rfl) HY.out.1.symm,Or.inr HW.out⟩
theorem below_drewN {B : Nat} {a w : World} (h : Below B a w) (n : Nat) : Below B a (w.drewN n) := h.trans ⟨rfl,rfl,rfl,Nat.le_refl _,fun _ _ => rfl⟩
theorem triml_any (s : ByteArray) (w : World) :
  Calls Tryz.prog 287 #[.string s,.string ⟨#[48]⟩] w fun e w' => e = .returned (.string (mkS (lst s.data.toList))) ∧ w' = w := by
 have := Tryz.strings_TrimLeft_one s 48 (by decide) w
 rw [trim_l] at this; exact this
theorem trimr_any (s : ByteArray) (w : World) (hs : s.size ≤ 1000) :
  Calls Tryz.prog 288 #[.string s,.string ⟨#[48]⟩] w fun e w' => e = .returned (.string (mkS (rst s.data.toList))) ∧ w' = w := by
 have := Tryz.strings_TrimRight_one s 48 (by decide) w (by omega)
 rw [trim_r] at this; exact this
theorem agg_eq {i j n m : Int} {s t : ByteArray} (h : i = j) (g : s = t) (k : n = m) : Ending.returned (.agg #[.int .i64 i,.string s,.int .i64 n]) = .returned (.agg #[.int .i64 j,.string t,.int .i64 m]) := by rw [h,g,k]
def plV (b : Bool) (a f : List UInt8) (p : Int) : Value :=
 if lst (a ++ f) = [] then noV else .agg #[.int .i64 (if b then -1 else 1),.string (mkS (rst (lst (a ++ f)))),.int .i64 (p + a.length - 1 - lz (a ++ f))]
set_option maxRecDepth 100000 in
set_option maxHeartbeats 1000000 in
theorem plainD_any (b : Bool) (a f : ByteArray) (p : Int) (w : World) (ha : a.size ≤ 400) (hf : f.size ≤ 400) (hp : -100000 ≤ p ∧ p ≤ 100000) :
  Calls Tryz.prog 248 #[.bool b,.string a,.string f,.int .i64 p] w fun e w' => e = .returned (plV b a.data.toList f.data.toList p) ∧ ((∃ o,w' = w.alloc o) ∨ ∃ o u,w' = (w.alloc o).alloc u) := by
 obtain ⟨x,hx⟩ : ∃ x,a ++ f = x := ⟨_,rfl⟩
 have HX := hid (show x.data.toList = a.data.toList ++ f.data.toList by rw [← hx]; simp)
 have hxs : x.size = a.size + f.size := by rw [← hx]; simp
 obtain ⟨d,hd⟩ : ∃ d,mkS (lst x.data.toList) = d := ⟨_,rfl⟩
 have HD := hid (show d.data.toList = lst x.data.toList by rw [← hd,mkS_list])
 have hlz := lz_len x.data.toList
 have hds : d.size + lz x.data.toList = x.size := by rw [← size_list d,← size_list x,HD.out]; exact hlz
 have tl : ∀ w,Calls Tryz.prog 287 #[.string x,.string ⟨#[48]⟩] w fun e w' => e = .returned (.string d) ∧ w' = w := fun w => by
  have := triml_any x w; rw [hd] at this; exact this
 have hds' : d.size ≤ 1000 := by omega
 obtain ⟨r,hr⟩ : ∃ d,mkS (rst (lst x.data.toList)) = d := ⟨_,rfl⟩
 have tr : ∀ w,Calls Tryz.prog 288 #[.string d,.string ⟨#[48]⟩] w fun e w' => e = .returned (.string r) ∧ w' = w := fun w => by
  have := trimr_any d w hds'; rw [HD.out,hr] at this; exact this
 have HR := hid hr
 have HZ := hid (show lz x.data.toList = x.size - d.size by omega)
 have HL := hid (size_list a)
 clear hd hr hlz
 by_cases he : d.data.toList = []
 ·have h1 := emp_yes d he
  have H := hid (show lst (a.data.toList ++ f.data.toList) = [] by rw [← HX.out,← HD.out]; exact he)
  clear he
  go_enter Tryz.func248,Tryz.ntmps248
  go_wp2_with (go_at_call 287; go_must (refine (tl _).mono ?_; rintro e w' ⟨rfl,hw⟩; obtain rfl := hw.symm))
  refine bodyPost_ret (v := noV) (by simp [results,Tryz.results248,go_sem,noV]) rfl ⟨?_,Or.inl ⟨_,rfl⟩⟩
  unfold plV; rw [if_pos H.out]
 ·have h1 := emp_no d he
  have H := hid (show ¬ lst (a.data.toList ++ f.data.toList) = [] by rw [← HX.out,← HD.out]; exact he)
  clear he
  have hlz0 : d.size ≤ x.size := by omega
  cases b
  ·go_enter Tryz.func248,Tryz.ntmps248
   go_wp2_with (first
    | (go_at_call 287; go_must (refine (tl _).mono ?_; rintro e w' ⟨rfl,hw⟩; obtain rfl := hw.symm))
    | (go_at_call 288; go_must (refine (tr _).mono ?_; rintro e w' ⟨rfl,hw⟩; obtain rfl := hw.symm)))
   refine bodyPost_ret (v := .agg #[.int .i64 1,.string r,.int .i64 (p + a.size - 1 - (((a.size : Int) + f.size) - d.size))]) (by simp [results,Tryz.results248,go_sem]) rfl ⟨?_,Or.inr ⟨_,_,rfl⟩⟩
   unfold plV; rw [if_neg H.out,← HX.out,HR.out,HZ.out,HL.out]
   exact agg_eq rfl rfl (by omega)
  ·go_enter Tryz.func248,Tryz.ntmps248
   go_wp2_with (first
    | (go_at_call 287; go_must (refine (tl _).mono ?_; rintro e w' ⟨rfl,hw⟩; obtain rfl := hw.symm))
    | (go_at_call 288; go_must (refine (tr _).mono ?_; rintro e w' ⟨rfl,hw⟩; obtain rfl := hw.symm)))
   refine bodyPost_ret (v := .agg #[.int .i64 (-1),.string r,.int .i64 (p + a.size - 1 - (((a.size : Int) + f.size) - d.size))]) (by simp [results,Tryz.results248,go_sem]) rfl ⟨?_,Or.inr ⟨_,_,rfl⟩⟩
   unfold plV; rw [if_neg H.out,← HX.out,HR.out,HZ.out,HL.out]
   exact agg_eq rfl rfl (by omega)
theorem alloc_bel {w a : World} (h : Below w.heap.size w a) (o : Obj) : Below w.heap.size w (a.alloc o) := h.alloc h.size _
theorem set_bel {w a : World} {ad : Addr} {v : Value} (h : Below w.heap.size w a) (hb : w.heap.size ≤ ad.block) : Below w.heap.size w (a.setCell ad v) := h.setCell hb v
def rdaD (l : List UInt8) : Value := .agg #[.int .i64 (rdS l),.string (mkS (rdD l)),.int .i64 (rdT l)]
def rdV (l : List UInt8) : Value := .tuple #[rdaD l,.bool (numB l)]
theorem rdV_no (l : List UInt8) (h : numB l = false) : rdV l = .tuple #[noV,.bool false] := by
 unfold rdV rdaD rdS rdD rdT; rw [h]; rfl
theorem rdA_yes (l : List UInt8) (h : numB l = true) : rdaD l = plV (pNeg l) (pW l) (pF l) (rpV (pS l)) := by
 have hr : rpV (pS l) = pwV (pP l) := by
  have h1 := num_split l; rw [h] at h1
  have h2 : rpB (pS l) = true := by
   cases hb : rpB (pS l) with
   | true => rfl
   | false => rw [hb,Bool.and_false] at h1; cases h1
  unfold rpV; rw [if_pos h2]; rfl
 unfold rdaD rdS rdD rdT; rw [if_pos h,if_pos h,if_pos h]
 unfold plV
 by_cases e : lst (pW l ++ pF l) = []
 ·obtain ⟨h1,h2,h3⟩ := sc_zero l e
  rw [if_pos e,h3,h1,h2]; rfl
 ·obtain ⟨h1,h2,h3⟩ := sc_some l e
  rw [if_neg e,h3,h1,h2,hr]
  rw [show ((pW l).length : Int) - 1 + pwV (pP l) - lz (pW l ++ pF l) = pwV (pP l) + (pW l).length - 1 - lz (pW l ++ pF l) by omega]
theorem num_no (l : List UInt8) (h : ¬ l.length ≤ 400 ∨ pWok l = false ∨ pFok l = false ∨ rpB (pS l) = false) : rdV l = .tuple #[noV,.bool false] := by
 refine rdV_no l ?_
 rw [num_split]
 rcases h with h | h | h | h
 ·rw [decide_eq_false h]; rfl
 ·rw [h]; simp
 ·rw [h]; simp
 ·rw [h]; simp
set_option maxRecDepth 100000 in
set_option maxHeartbeats 1000000 in
theorem readD_any (s : ByteArray) (w : World) (hs : s.size ≤ maxLen) :
  Calls Tryz.prog 191 #[.string s] w fun e w' => e = .returned (rdV s.data.toList) ∧ Below w.heap.size w w' := by
 unfold maxLen at hs
 obtain ⟨l,hl⟩ : ∃ l,s.data.toList = l := ⟨_,rfl⟩
 have HL := hid hl
 have HZ := hid (show l.length = s.size by rw [← hl,size_list])
 rw [HL.out]
 clear hl
 by_cases h4 : s.size > 400
 ·have HN := hid (num_no l (Or.inl (by rw [HZ.out]; omega)))
  go_enter Tryz.func191,Tryz.ntmps191
  go_wp2_with fail
  refine bodyPost_ret (v := .tuple #[noV,.bool false]) (by simp [results,Tryz.results191,go_sem,noV]) rfl ⟨?_,?_⟩
  ·rw [HN.out]
  ·repeat (first | exact Below.refl _ _ | apply below_drewN | apply alloc_bel | refine set_bel (a := _) ?_ (Nat.le_refl w.heap.size))
 obtain ⟨u,hu⟩ : ∃ u,mkS (pU l) = u := ⟨_,rfl⟩
 obtain ⟨x,hx⟩ : ∃ u,mkS (pW l) = u := ⟨_,rfl⟩
 obtain ⟨y,hy⟩ : ∃ u,mkS (pR l) = u := ⟨_,rfl⟩
 obtain ⟨y1,hy1⟩ : ∃ u,mkS (if pDot l then (pR l).drop 1 else pR l) = u := ⟨_,rfl⟩
 obtain ⟨f,hf⟩ : ∃ u,mkS (pF l) = u := ⟨_,rfl⟩
 obtain ⟨z,hz⟩ : ∃ u,mkS (pS l) = u := ⟨_,rfl⟩
 have HX := hid (show x.data.toList = pW l by rw [← hx,mkS_list])
 have HY := hid (show y.data.toList = pR l by rw [← hy,mkS_list])
 have HF := hid (show f.data.toList = pF l by rw [← hf,mkS_list])
 have HS := hid (show z.data.toList = pS l by rw [← hz,mkS_list])
 have hbs : u.size ≤ 1000 ∧ y1.size ≤ 1000 ∧ x.size ≤ 400 ∧ f.size ≤ 400 ∧ z.size ≤ 1000 := by
  have h1 := pU_le l
  have h2 := congrArg List.length (pWR l)
  have h3 := parts_len l
  rw [List.length_append] at h2
  have h5 : l.length ≤ 400 := by rw [HZ.out]; omega
  have e1 : u.size = (pU l).length := by rw [← hu,mkS_size]
  have e2 : y1.size ≤ (pR l).length := by rw [← hy1,mkS_size]; split <;> simp
  have e3 : x.size = (pW l).length := by rw [← hx,mkS_size]
  have e4 : f.size = (pF l).length := by rw [← hf,mkS_size]
  have e5 : z.size ≤ (pR l).length := by
   rw [← hz,mkS_size]; unfold pS; split
   ·have := (List.dropWhile_sublist isD (l := (pR l).drop 1)).length_le
    simp at this ⊢; omega
   ·omega
  omega
 have cn : ∀ w,Calls Tryz.prog 139 #[.string s,.string ⟨#[45]⟩] w fun e w' => e = .returned (.tuple #[.string u,.bool (pNeg l)]) ∧ w' = w := fun w => by
  have := cutp_any s 45 w; rw [HL.out,(cut_neg l).1,(cut_neg l).2,hu] at this; exact this
 have cw : ∀ w,Calls Tryz.prog 246 #[.string u] w fun e w' => e = .returned (.tuple #[.string x,.string y]) ∧ ∃ n,w' = w.drewN n := fun w => by
  have := cutd_any u w (max_small hbs.1)
  rw [show u.data.toList = pU l by rw [← hu,mkS_list],show (pU l).takeWhile isD = pW l from rfl,show (pU l).dropWhile isD = pR l from rfl,hx,hy] at this; exact this
 have cd : ∀ w,Calls Tryz.prog 139 #[.string y,.string ⟨#[46]⟩] w fun e w' => e = .returned (.tuple #[.string y1,.bool (pDot l)]) ∧ w' = w := fun w => by
  have := cutp_any y 46 w; rw [HY.out,(cut_dot l).1,(cut_dot l).2,hy1] at this; exact this
 have cf : pDot l = true → ∀ w,Calls Tryz.prog 246 #[.string y1] w fun e w' => e = .returned (.tuple #[.string f,.string z]) ∧ ∃ n,w' = w.drewN n := fun hD w => by
  have := cutd_any y1 w (max_small hbs.2.1)
  rw [show y1.data.toList = (pR l).drop 1 by rw [← hy1,mkS_list,if_pos hD],show ((pR l).drop 1).takeWhile isD = pF l by unfold pF; rw [if_pos hD],show ((pR l).drop 1).dropWhile isD = pS l by unfold pS; rw [if_pos hD],hf,hz] at this; exact this
 have cp : ∀ w,Calls Tryz.prog 247 #[.string z] w fun e w' => e = .returned (.tuple #[.int .i64 (rpV (pS l)),.bool (rpB (pS l))]) ∧ ((∃ n,w' = w.drewN n) ∨ ∃ o n,w' = (w.alloc o).drewN n) := fun w => by
  have := readp_any z w hbs.2.2.2.2; rw [HS.out] at this; exact this
 have cl : ∀ w,Calls Tryz.prog 248 #[.bool (pNeg l),.string x,.string f,.int .i64 (rpV (pS l))] w fun e w' => e = .returned (plV (pNeg l) (pW l) (pF l) (rpV (pS l))) ∧ ((∃ o,w' = w.alloc o) ∨ ∃ o u,w' = (w.alloc o).alloc u) := fun w => by
  have := plainD_any (pNeg l) x f (rpV (pS l)) w hbs.2.2.1 hbs.2.2.2.1 (rpV_bd _); rw [HX.out,HF.out] at this; exact this
 have HFE := hid (show pDot l = false → f = ⟨#[]⟩ ∧ z = y by
  intro hD; constructor
  ·rw [← hf]; unfold pF; rw [hD]; rfl
  ·rw [← hz,← hy]; unfold pS; rw [hD]; rfl)
 clear hu hx hy hy1 hf hz
 go_enter Tryz.func191,Tryz.ntmps191
 go_upto_region 5 with (first
  | (go_at_call 139; go_must (refine (cn _).mono ?_; rintro e w' ⟨rfl,hw⟩; obtain rfl := hw.symm))
  | (go_at_call 246; go_must (refine (cw _).mono ?_; rintro e w' ⟨rfl,n,rfl⟩)))
 go_cut [37] from 12 (fun v wx => v = .bool (!pWok l) ∧ wx = (w.alloc (Obj.cells #[.int .i64 0,.string ⟨#[]⟩,.int .i64 0] 235)).drewN n)
 case first =>
  by_cases he : x.data.toList = []
  ·have h1 := emp_yes x he
   have H := hid (show pWok l = false by unfold pWok; rw [← HX.out,he]; rfl)
   clear he
   go_wp2_with fail
   go_meet
   exact ⟨by rw [H.out]; rfl,rfl⟩
  ·have h1 := emp_no x he
   have h0 := emp_size x he
   have E := hid (getD_at x 0 h0)
   have HE := hid he
   have HXS := hid (size_list x)
   clear he
   by_cases h2 : 1 < x.size
   ·by_cases hm : x[0].toNat = 48
    ·have h2 : ((x[0].toNat : Int) == 48) = true := byte_is _ _ hm
     have H := hid (show pWok l = false by unfold pWok; rw [← HX.out,E.out,hm,HXS.out]; simp; omega)
     clear hm
     go_wp2_with fail
     go_meet
     exact ⟨by rw [H.out]; rfl,rfl⟩
    ·have h2 : ((x[0].toNat : Int) == 48) = false := byte_not _ _ hm
     have H := hid (show pWok l = true by unfold pWok; rw [← HX.out,E.out]; simp [hm]; simpa using HE.out)
     clear hm
     go_wp2_with fail
     go_meet
     exact ⟨by rw [H.out]; rfl,rfl⟩
   ·have H := hid (show pWok l = true by unfold pWok; rw [← HX.out,HXS.out]; simp [h2]; simpa using HE.out)
    go_wp2_with fail
    go_meet
    exact ⟨by rw [H.out]; rfl,rfl⟩
 case rest =>
 obtain ⟨rfl,rfl⟩ := hcut
 cases hW : pWok l with
 | false =>
  go_wp2_with fail
  refine bodyPost_ret (v := .tuple #[noV,.bool false]) (by simp [results,Tryz.results191,go_sem,noV]) rfl ⟨?_,?_⟩
  ·rw [num_no l (Or.inr (Or.inl hW))]
  ·repeat (first | exact Below.refl _ _ | apply below_drewN | apply alloc_bel | refine set_bel (a := _) ?_ (Nat.le_refl w.heap.size))
 | true =>
 go_upto_if 44 with (go_at_call 139; go_must (refine (cd _).mono ?_; rintro e w' ⟨rfl,hw⟩; obtain rfl := hw.symm))
 go_cut [4,7,9] from 12 (fun v g b wx => v = .string z ∧ g = .string f ∧ b = .bool (pDot l) ∧ Hid (pFok l = true) ∧ ∃ n,wx = (w.alloc (Obj.cells #[.int .i64 0,.string ⟨#[]⟩,.int .i64 0] 235)).drewN n)
 case first =>
  cases hD : pDot l with
  | false =>
   obtain ⟨h1,h2⟩ := HFE.out hD
   have H3 := hid (show pFok l = true by unfold pFok; rw [hD]; rfl)
   have H1 := hid h1
   have H2 := hid h2
   clear h1 h2
   go_wp2_with fail
   go_meet
   exact ⟨by rw [H2.out],by rw [H1.out],by rw [hD],H3,_,rfl⟩
  | true =>
   have cf := cf hD
   by_cases he : f.data.toList = []
   ·have h2 := emp_yes f he
    have H := hid (show pFok l = false by unfold pFok; rw [hD,← HF.out,he]; rfl)
    clear he
    go_wp2_with (go_at_call 246; go_must (refine (cf _).mono ?_; rintro e w' ⟨rfl,n,rfl⟩))
    refine bodyPost_ret (v := .tuple #[noV,.bool false]) (by simp [results,Tryz.results191,go_sem,noV]) rfl ⟨?_,?_⟩
    ·rw [num_no l (Or.inr (Or.inr (Or.inl H.out)))]
    ·repeat (first | exact Below.refl _ _ | apply below_drewN | apply alloc_bel | refine set_bel (a := _) ?_ (Nat.le_refl w.heap.size))
   ·have h2 := emp_no f he
    have H := hid (show pFok l = true by unfold pFok; rw [hD,← HF.out]; simp; simpa using he)
    clear he
    go_wp2_with (go_at_call 246; go_must (refine (cf _).mono ?_; rintro e w' ⟨rfl,n,rfl⟩))
    go_meet
    exact ⟨rfl,rfl,by rw [hD],H,_,rfl⟩
 case rest =>
 obtain ⟨rfl,rfl,rfl,HO,k,rfl⟩ := hcut
 cases hB : rpB (pS l) with
 | false =>
  have HB := hid (num_no l (Or.inr (Or.inr (Or.inr hB))))
  rw [hB] at cp
  go_wp2_with (go_at_call 247; go_must (refine (cp _).mono ?_; rintro e w' ⟨rfl,⟨m,rfl⟩ | ⟨o,m,rfl⟩⟩))
  all_goals
   refine bodyPost_ret (v := .tuple #[noV,.bool false]) (by simp [results,Tryz.results191,go_sem,noV]) rfl ⟨?_,?_⟩
   ·rw [HB.out]
   ·repeat (first | exact Below.refl _ _ | apply below_drewN | apply alloc_bel | refine set_bel (a := _) ?_ (Nat.le_refl w.heap.size))
 | true =>
  have hN : numB l = true := by rw [num_split,hW,HO.out,hB,HZ.out,decide_eq_true (by omega)]; rfl
  have HN := hid hN
  rw [hB] at cp
  rw [← rdA_yes l hN] at cl
  unfold rdaD at cl
  clear hN
  go_wp2_with (first
   | (go_at_call 247; go_must (refine (cp _).mono ?_; rintro e w' ⟨rfl,⟨m,rfl⟩ | ⟨o,m,rfl⟩⟩))
   | (go_at_call 248; go_must (refine (cl _).mono ?_; rintro e w' ⟨rfl,⟨o1,rfl⟩ | ⟨o1,o2,rfl⟩⟩)))
  all_goals
   refine bodyPost_ret (v := .tuple #[rdaD l,.bool true]) (by simp [results,Tryz.results191,go_sem,rdaD]) rfl ⟨?_,?_⟩
   ·unfold rdV; rw [HN.out]
   ·repeat (first | exact Below.refl _ _ | apply below_drewN | apply alloc_bel | refine set_bel (a := _) ?_ (Nat.le_refl w.heap.size))
set_option maxRecDepth 100000 in
set_option maxHeartbeats 400000 in
theorem dgood_max (s : ByteArray) (w : World) (hs : s.size ≤ maxLen) :
  Calls Tryz.prog 136 #[.string s] w fun e w' => e = .returned (.bool (numB s.data.toList)) ∧ Below w.heap.size w w' := by
 go_enter Tryz.func136,Tryz.ntmps136
 go_wp2_with (go_at_call 191; go_must (refine (readD_any _ _ hs).mono ?_; rintro e w' ⟨rfl,hb⟩; unfold rdV rdaD))
 go_ret
 exact ⟨rfl,alloc_bel hb _⟩
def cmpS (d e : List UInt8) : Int := if ltB d e then -1 else if ltB e d then 1 else 0
def cmpZ (n m : Int) : Int := if n < m then -1 else if m < n then 1 else 0
def orI (x y : Int) : Int := if x = 0 then y else x
theorem cmpz_any (x y : Int) (w : World) :
  Calls Tryz.prog 215 #[.int .i64 x,.int .i64 y] w fun e w' => e = .returned (.int .i64 (cmpZ x y)) ∧ w' = w := Tryz.cmp_Compare_int x y w
theorem onto {w a b : World} (h : Below w.heap.size w a) (k : Below a.heap.size a b) : Below w.heap.size w b := h.trans (k.mono h.size)
def NumAt (w : World) (b : Nat) (l : List UInt8) : Prop := w.cell? ⟨b,0,none⟩ = some (.int .i64 (rdS l)) ∧ w.cell? ⟨b,1,none⟩ = some (.string (mkS (rdD l))) ∧ w.cell? ⟨b,2,none⟩ = some (.int .i64 (rdT l))
structure Glob (w : World) : Prop where
 syn : ∃ tp p, w.var? Tryz.prog "strconv.ErrSyntax" = some #[.iface tp p]
 ran : ∃ tp p, w.var? Tryz.prog "strconv.ErrRange" = some #[.iface tp p]
theorem var_on {w w' : World} {n : String} {cs : Array Value} (hb : Below w.heap.size w w') (h : w.var? Tryz.prog n = some cs) : w'.var? Tryz.prog n = some cs := by
 unfold World.var? at *
 cases hg : Tryz.prog.globalNamed n with
 | none => simp [hg] at h
 | some g =>
  simp only [hg,Option.bind_some] at h ⊢
  have hlt : g < w.heap.size := by
   rcases Nat.lt_or_ge g w.heap.size with h' | h'
   ·exact h'
   ·rw [Array.getElem?_eq_none h'] at h; simp at h
  rw [hb.block g hlt]
  exact h
theorem Glob.on {w w' : World} (h : Glob w) (hb : Below w.heap.size w w') : Glob w' :=
 ⟨let ⟨a,b,e⟩ := h.syn; ⟨a,b,var_on hb e⟩,let ⟨a,b,e⟩ := h.ran; ⟨a,b,var_on hb e⟩⟩
theorem ret_str {a b : ByteArray} (h : a = b) : Ending.returned (.string a) = .returned (.string b) := by rw [h]
theorem str_eq (s : ByteArray) (l : List UInt8) (hl : s.data.toList = l) (k : List UInt8) : (s.toList == k) = decide (l = k) := by
 rw [Lib.toList_data,hl]
 by_cases h : l = k
 ·rw [h]; simp
 ·rw [decide_eq_false h]; exact beq_eq_false_iff_ne.2 h
theorem pint_any (s : ByteArray) (w : World) (hg : Glob w) (hs : s.size ≤ 400) :
  Calls Tryz.prog 249 #[.string s,.int .i64 10,.int .i64 64] w fun e w' => Below w.heap.size w w' ∧
   ((∃ v,Hid (Lib.parseIntB 64 s.data.toList = .ok v) ∧ e = .returned (.tuple #[.int .i64 v,.nilIface])) ∨ (Hid (∀ v,¬ Lib.parseIntB 64 s.data.toList = .ok v) ∧ ∃ v t p,e = .returned (.tuple #[.int .i64 v,.iface t p]))) := by
 generalize hq : Lib.parseIntB 64 s.data.toList = q
 have h := hq
 clear hq
 rcases q with v | _ | _
 ·refine (Tryz.strconv_ParseInt_10_at64_ok s (by omega) v h w).mono ?_
  rintro e w' ⟨rfl,rfl | ⟨t,rfl⟩⟩
  ·exact ⟨Below.refl _ _,Or.inl ⟨v,hid rfl,rfl⟩⟩
  ·exact ⟨Lib.bytesWorld_below _ _ _,Or.inl ⟨v,hid rfl,rfl⟩⟩
 ·obtain ⟨tp,p,hv⟩ := hg.syn
  refine (Any.strconv_ParseInt_10_at64_syntax_var Tryz.laysC174 s (by omega) h tp p w hv).mono ?_
  rintro e w' ⟨N,rfl,-,-,hb⟩
  exact ⟨hb,Or.inr ⟨(show ∀ v,¬ _ = _ from fun v => by intro e; cases e),_,_,_,rfl⟩⟩
 ·obtain ⟨tp,p,hv⟩ := hg.ran
  refine (Tryz.strconv_ParseInt_10_at64_range_var s (by omega) h tp p w hv).mono ?_
  rintro e w' ⟨N,rfl,-,-,hb⟩
  exact ⟨hb,Or.inr ⟨(show ∀ v,¬ _ = _ from fun v => by intro e; cases e),_,_,_,rfl⟩⟩
set_option maxRecDepth 100000 in
set_option maxHeartbeats 400000 in
theorem dint_max (s : ByteArray) (w : World) (hg : Glob w) (hs : s.size ≤ maxLen) :
  Calls Tryz.prog 192 #[.string s] w fun e w' => e = .returned (.tuple #[.int .i64 (intV s.data.toList),.bool (intB s.data.toList)]) ∧ Below w.heap.size w w' := by
 have dg := hid (fun w => dgood_max s w hs)
 have pi := hid (fun w (hg : Glob w) (h : s.size ≤ 400) => pint_any s w hg h)
 have HG := hid hg
 have HZ := hid (size_list s)
 have HE := hid (str_eq s s.data.toList rfl [45,48])
 generalize s.data.toList = l at dg pi HZ HE ⊢
 clear hg
 cases hn : numB l with
 | false =>
  have H := hid (show intB l = false by unfold intB; rw [hn]; rfl)
  go_enter Tryz.func192,Tryz.ntmps192
  go_wp2_with (go_at_call 136; go_must (refine (dg.out _).mono ?_; rintro e w1 ⟨rfl,hb⟩; rw [hn]))
  go_ret2
  exact ⟨ret_ib (by unfold intV; rw [H.out]; rfl) H.out.symm,hb⟩
 | true =>
  have h4 : s.size ≤ 400 := by
   rw [← HZ.out]; unfold numB at hn; simp only [Bool.and_eq_true,decide_eq_true_eq] at hn; exact hn.2
  by_cases h0 : l = [45,48]
  ·have g : (s.toList == [45,48]) = true := by rw [HE.out,decide_eq_true h0]
   have H := hid (show intB l = false by unfold intB; rw [decide_eq_true h0]; simp)
   clear h0
   go_enter Tryz.func192,Tryz.ntmps192
   go_wp2_with (go_at_call 136; go_must (refine (dg.out _).mono ?_; rintro e w1 ⟨rfl,hb⟩; rw [hn]))
   go_ret2
   exact ⟨ret_ib (by unfold intV; rw [H.out]; rfl) H.out.symm,hb⟩
  ·have g : (s.toList == [45,48]) = false := by rw [HE.out,decide_eq_false h0]
   have H := hid (int_par l hn h0)
   clear h0
   go_enter Tryz.func192,Tryz.ntmps192
   go_wp2_with (first
    | (go_at_call 136; go_must (refine (dg.out _).mono ?_; rintro e w1 ⟨rfl,hb⟩; rw [hn]))
    | (go_at_call 249; go_must (refine (pi.out _ (HG.out.on hb) h4).mono ?_; rintro e w2 ⟨hb2,⟨v,HV,rfl⟩ | ⟨HV,v,t,p,rfl⟩⟩)))
   ·go_ret2
    have hI : intB l = true := by
     cases hi : intB l with
     | true => rfl
     | false => exact absurd HV.out (H.out.2 hi v)
    have e := (H.out.1 hI).symm.trans HV.out
    exact ⟨ret_ib (by cases e; rfl) hI.symm,onto hb hb2⟩
   ·go_ret2
    have hI : intB l = false := by
     cases hi : intB l with
     | false => rfl
     | true => exact absurd (H.out.1 hi) (HV.out _)
    exact ⟨ret_ib (by unfold intV; rw [hI]; rfl) hI.symm,onto hb hb2⟩
end Go.Proofs.YteimbjamnfkapaaGreatDoor
