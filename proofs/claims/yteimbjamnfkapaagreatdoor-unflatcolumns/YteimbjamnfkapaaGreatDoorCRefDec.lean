import Derived.Test.YteimbjamnfkapaaGreatDoorCOrders
import Derived.Deep.DeepCutAuto
import Derived.Deep.CutRange
import Derived.Test.YteimbjamnfkapaaGreatDoorCMathDecAll
import Derived.Deep.RegionWith
/- The document's own reckoning of numbers' texts, walked: digit, run, power, sign. -/
/- The document's own reckoning of a number's text, walked: parts. -/
/- The document's own reckoning of numbers' texts, walked: Form, Number, scaled, Whole. -/
/- The document's own order of numbers, walked: Cmp. -/
/- The document's own reading of whole numbers, walked: Int. -/
namespace Go.Proofs.YteimbjamnfkapaaGreatDoor
open Go.RowKit
set_option maxRecDepth 100000 in
set_option maxHeartbeats 400000 in
theorem digit_any (b : UInt8) (w : World) :
  Calls Tryz.prog 203 #[.int .u8 (b.toNat : Int)] w fun e w' => e = .returned (.bool (isD b)) ∧ w' = w := by
 have hb := b.toNat_lt
 by_cases h1 : 48 ≤ b.toNat
 ·by_cases h2 : b.toNat ≤ 57
  ·go_enter Tryz.func203, Tryz.ntmps203
   go_wp2
   go_ret
   exact ⟨ret_bool (by simp [isD, h1, h2]; omega), rfl⟩
  ·go_enter Tryz.func203, Tryz.ntmps203
   go_wp2
   go_ret
   exact ⟨ret_bool (by simp [isD, h2]; omega), rfl⟩
 ·go_enter Tryz.func203, Tryz.ntmps203
  go_wp2
  go_ret
  exact ⟨ret_bool (by simp [isD, h1]), rfl⟩
set_option maxRecDepth 100000 in
set_option maxHeartbeats 400000 in
theorem sign_any (n : Bool) (d : ByteArray) (w : World) :
  Calls Tryz.prog 90 #[.bool n, .string d] w fun e w' => e = .returned (.int .i64 (sgI n d.data.toList)) ∧ w' = w := by
 by_cases h : d.data.toList = []
 ·have h1 := emp_yes d h
  have H := hid h
  clear h
  go_enter Tryz.func90, Tryz.ntmps90
  go_wp2
  go_ret
  exact ⟨ret_int (by simp [sgI, H.out]), rfl⟩
 ·have h1 := emp_no d h
  have H := hid h
  clear h
  cases n
  all_goals
   go_enter Tryz.func90, Tryz.ntmps90
   go_wp2
   go_ret
   exact ⟨ret_int (by simp [sgI, H.out]), rfl⟩
set_option maxRecDepth 100000 in
set_option maxHeartbeats 400000 in
theorem run_any (s : ByteArray) (w : World) (hs : s.size ≤ maxLen) :
  Calls Tryz.prog 202 #[.string s] w fun e w' => e = .returned (.int .i64 (runN s.data.toList)) ∧ w' = w := by
 unfold maxLen at hs
 have hr := runN_le s.data.toList
 rw [size_list] at hr
 go_enter Tryz.func202, Tryz.ntmps202
 go_wp2_with fail
 go_loop [3] (fun x => ∃ k : Nat, x = .int .i64 k ∧ k ≤ runN s.data.toList) (fun x => s.size - (intOf x).toNat)
 case atStart => exact ⟨0, rfl, Nat.zero_le _⟩
 case round =>
  obtain ⟨k, rfl, hk⟩ := hrel
  by_cases hlt : k < s.size
  ·have E := hid (getD_at s k hlt)
   by_cases hd : k < runN s.data.toList
   ·have hD : isD s[k] = true := by rw [← E.out]; exact runN_lt _ _ hd
    go_wp2_with (go_at_call 203; go_must (refine (digit_any _ _).mono ?_; rintro e w' ⟨rfl, rfl⟩))
    go_round
    case rel => exact ⟨k + 1, by go_num, hd⟩
    case measure => simp [intOf]; omega
   ·have hk' : k = runN s.data.toList := by omega
    have hD : isD s[k] = false := by
     rw [← E.out, hk']; exact runN_at _ (by rw [size_list]; omega)
    have HK := hid hk'
    clear hk'
    go_wp2_with (go_at_call 203; go_must (refine (digit_any _ _).mono ?_; rintro e w' ⟨rfl, rfl⟩))
    go_ret
    exact ⟨ret_int (by rw [← HK.out]), rfl⟩
  ·have HK := hid (show k = runN s.data.toList by omega)
   go_wp2_with fail
   go_ret
   exact ⟨ret_int (by rw [← HK.out]), rfl⟩
set_option maxRecDepth 100000 in
set_option maxHeartbeats 400000 in
theorem power_any (s : ByteArray) (w : World) (hs : s.size ≤ maxLen) :
  Calls Tryz.prog 148 #[.string s] w fun e w' => e = .returned (.tuple #[.int .i64 (pwV s.data.toList), .bool (pwOk s.data.toList)]) ∧ w' = w := by
 unfold maxLen at hs
 have HZ := hid (size_list s)
 go_enter Tryz.func148, Tryz.ntmps148
 go_wp2_with fail
 go_loop [4, 5] (fun v x => ∃ k : Nat, v = .int .i64 (pval (s.data.toList.take k)) ∧ x = .int .i64 k ∧ k ≤ s.size ∧ pval (s.data.toList.take k) ≤ 100000) (fun _ x => s.size - (intOf x).toNat)
 case atStart => exact ⟨0, rfl, rfl, Nat.zero_le _, by simp [pval]⟩
 case round =>
  obtain ⟨k, rfl, rfl, hk, hv⟩ := hrel
  by_cases hlt : k < s.size
  ·have E := hid (getD_at s k hlt)
   have P := hid (pval_take s.data.toList k (by rw [HZ.out]; exact hlt))
   cases hd : isD s[k] with
   | false =>
    have HP := hid (show pval (s.data.toList.take (k + 1)) = pval (s.data.toList.take k) by rw [P.out, E.out, hd]; rfl)
    go_wp2_with (go_at_call 203; go_must (refine (digit_any _ _).mono ?_; rintro e w' ⟨rfl, rfl⟩))
    go_round
    case rel => exact ⟨k + 1, by rw [HP.out], by go_num, hlt, by rw [HP.out]; exact hv⟩
    case measure => simp [intOf]; omega
   | true =>
    have hb := isD_bd hd
    have HP := hid (show ((pval (s.data.toList.take (k + 1)) : Nat) : Int) = 10 * (pval (s.data.toList.take k) : Int) + ((s[k].toNat : Int) - 48) by rw [P.out, E.out, hd]; simp; omega)
    by_cases hg : 10 * (pval (s.data.toList.take k) : Int) + ((s[k].toNat : Int) - 48) > 100000
    ·have HN := hid (show pwOk s.data.toList = false by
      have h1 := pval_le s.data.toList (k + 1); have h2 := HP.out
      unfold pwOk; simp; omega)
     go_wp2_with (go_at_call 203; go_must (refine (digit_any _ _).mono ?_; rintro e w' ⟨rfl, rfl⟩))
     go_ret2
     exact ⟨ret_ib (by unfold pwV; rw [HN.out]; rfl) HN.out.symm, rfl⟩
    ·go_wp2_with (go_at_call 203; go_must (refine (digit_any _ _).mono ?_; rintro e w' ⟨rfl, rfl⟩))
     go_round
     case rel => exact ⟨k + 1, val_int HP.out.symm, by go_num, hlt, by have := HP.out; omega⟩
     case measure => simp [intOf]; omega
  ·have hk' : k = s.size := by omega
   have HE := hid (show s.data.toList.take k = s.data.toList by rw [hk', ← HZ.out, List.take_length])
   rw [HE.out] at hv ⊢
   have HO := hid (show pwOk s.data.toList = true by unfold pwOk; simpa using hv)
   clear hk'
   by_cases he : s.data.toList = []
   ·have h1 := emp_yes s he
    have H := hid he
    clear he
    go_wp2_with fail
    go_ret2
    exact ⟨ret_ib (by unfold pwV; rw [HO.out, H.out]; rfl) HO.out.symm, rfl⟩
   ·have h1 := emp_no s he
    have h0 := emp_size s he
    have E := hid (getD_at s 0 h0)
    clear he
    by_cases hm : s[0] = 45
    ·have h2 : ((s[0].toNat : Int) == 45) = true := by rw [hm]; rfl
     have HM := hid (E.out.trans hm)
     clear hm
     go_wp2_with fail
     go_ret2
     exact ⟨ret_ib (by unfold pwV; rw [HO.out, HM.out]; rfl) HO.out.symm, rfl⟩
    ·have h2 : ((s[0].toNat : Int) == 45) = false := by
      rw [beq_eq_false_iff_ne]; intro hc; apply hm; apply UInt8.toNat_inj.1; show _ = 45; omega
     have HM := hid (show ¬ s.data.toList.getD 0 0 = 45 by rw [E.out]; exact hm)
     clear hm
     go_wp2_with fail
     go_ret2
     exact ⟨ret_ib (by unfold pwV; rw [HO.out, if_neg HM.out]; rfl) HO.out.symm, rfl⟩
set_option maxRecDepth 100000 in
set_option maxHeartbeats 1000000 in
theorem parts_any (s : ByteArray) (w : World) (hs : s.size ≤ maxLen) :
  Calls Tryz.prog 147 #[.string s] w fun e w' => e = .returned (partsV s.data.toList) ∧ w' = w := by
 unfold maxLen at hs
 obtain ⟨l, hl⟩ : ∃ l, s.data.toList = l := ⟨_, rfl⟩
 have HL := hid hl
 clear hl
 go_enter Tryz.func147, Tryz.ntmps147
 rw [HL.out]
 go_upto_region 1 with fail
 go_cut [7] from 13 (fun v wx => v = .bool (pNeg l) ∧ wx = w)
 case first =>
  by_cases he : s.data.toList = []
  ·have h1 := emp_yes s he
   have H := hid (show pNeg l = false by rw [← HL.out, he]; rfl)
   clear he
   go_wp2_with fail
   go_meet
   exact ⟨by rw [H.out], rfl⟩
  ·have h1 := emp_no s he
   have h0 := emp_size s he
   have E := hid (getD_at s 0 h0)
   clear he
   by_cases hm : s[0].toNat = 45
   ·have h2 : ((s[0].toNat : Int) == 45) = true := byte_is _ _ hm
    have H := hid (show pNeg l = true by rw [← HL.out]; unfold pNeg; rw [E.out, hm]; rfl)
    clear hm
    go_wp2_with fail
    go_meet
    exact ⟨by rw [H.out], rfl⟩
   ·have h2 : ((s[0].toNat : Int) == 45) = false := byte_not _ _ hm
    have H := hid (show pNeg l = false by rw [← HL.out]; unfold pNeg; rw [E.out]; simp [hm])
    clear hm
    go_wp2_with fail
    go_meet
    exact ⟨by rw [H.out], rfl⟩
 case rest =>
 obtain ⟨rfl, rfl⟩ := hcut
 go_upto_if 20 with fail
 go_cut [0, 7] from 13 (fun v y wx => ∃ u : ByteArray, v = .string u ∧ y = .bool (pNeg l) ∧ Hid (u.data.toList = pU l) ∧ u.size ≤ 2 ^ 63 - 1 ∧ wx = wc)
 case first =>
  cases hn : pNeg l
  ·go_wp2_with fail
   go_meet
   exact ⟨s, rfl, by rw [hn], show s.data.toList = pU l by rw [HL.out]; unfold pU; rw [hn]; rfl, hs, rfl⟩
  ·have h1 : 1 ≤ s.size := by
    have h2 := first_is s 45 (by rw [HL.out]; exact of_decide_eq_true hn) (by decide)
    exact emp_size s h2
   go_wp2_with fail
   go_meet
   exact ⟨s.extract 1 s.size, rfl, by rw [hn], show (s.extract 1 s.size).data.toList = pU l by rw [drop_list, HL.out]; unfold pU; rw [hn]; rfl, by rw [ByteArray.size_extract]; omega, rfl⟩
 case rest =>
 obtain ⟨u, rfl, rfl, HU, hus, rfl⟩ := hcut
 have hr := runN_le u.data.toList
 rw [size_list] at hr
 obtain ⟨n, hn⟩ : ∃ n, runN u.data.toList = n := ⟨_, rfl⟩
 have HN := hid hn
 rw [hn] at hr
 obtain ⟨x, hx⟩ : ∃ x, u.extract 0 n = x := ⟨_, rfl⟩
 obtain ⟨y, hy⟩ : ∃ y, u.extract n u.size = y := ⟨_, rfl⟩
 have HX := hid (show x.data.toList = pW l by rw [← hx, cut_list, ← hn, runN_take, HU.out]; rfl)
 have HY := hid (show y.data.toList = pR l by rw [← hy, drop_list, ← hn, runN_drop, HU.out]; rfl)
 have hys : y.size ≤ 2 ^ 63 - 1 := by rw [← hy, ByteArray.size_extract]; omega
 have hxs : x.size ≤ 2 ^ 63 - 1 := by rw [← hx, ByteArray.size_extract]; omega
 clear hn
 go_upto_region 7 with (go_at_call 202; go_must (refine (run_any _ _ hus).mono ?_; rintro e w' ⟨rfl, hw⟩; obtain rfl := hw.symm; rw [HN.out]))
 go_cut [42] from 13 (fun v wx => v = .bool (!pWok l) ∧ wx = wc)
 case first =>
  by_cases he : x.data.toList = []
  ·have h1 := emp_yes x he
   have H := hid (show pWok l = false by unfold pWok; rw [← HX.out, he]; rfl)
   clear he
   go_wp2_with fail
   go_meet
   exact ⟨by rw [H.out]; rfl, rfl⟩
  ·have h1 := emp_no x he
   have h0 := emp_size x he
   have E := hid (getD_at x 0 h0)
   have HE := hid he
   have HS := hid (size_list x)
   clear he
   by_cases h2 : 1 < x.size
   ·by_cases hm : x[0].toNat = 48
    ·have h2 : ((x[0].toNat : Int) == 48) = true := byte_is _ _ hm
     have H := hid (show pWok l = false by unfold pWok; rw [← HX.out, E.out, hm, HS.out]; simp; omega)
     clear hm
     go_wp2_with fail
     go_meet
     exact ⟨by rw [H.out]; rfl, rfl⟩
    ·have h2 : ((x[0].toNat : Int) == 48) = false := byte_not _ _ hm
     have H := hid (show pWok l = true by unfold pWok; rw [← HX.out, E.out]; simp [hm]; simpa using HE.out)
     clear hm
     go_wp2_with fail
     go_meet
     exact ⟨by rw [H.out]; rfl, rfl⟩
   ·have H := hid (show pWok l = true by unfold pWok; rw [← HX.out, HS.out]; simp [h2]; simpa using HE.out)
    go_wp2_with fail
    go_meet
    exact ⟨by rw [H.out]; rfl, rfl⟩
 case rest =>
 obtain ⟨rfl, rfl⟩ := hcut
 cases hW : pWok l with
 | false =>
  go_wp2_with fail
  refine bodyPost_ret (results_tmp5 rfl _ _ _) rfl ⟨?_, rfl⟩
  rw [partsV_no l (Or.inl hW)]; rfl
 | true =>
 go_upto_region 10 with fail
 go_cut [49] from 13 (fun v wx => v = .bool (pDot l) ∧ wx = wc)
 case first =>
  by_cases he : y.data.toList = []
  ·have h1 := emp_yes y he
   have H := hid (show pDot l = false by unfold pDot; rw [← HY.out, he]; rfl)
   clear he
   go_wp2_with fail
   go_meet
   exact ⟨by rw [H.out], rfl⟩
  ·have h1 := emp_no y he
   have h0 := emp_size y he
   have E := hid (getD_at y 0 h0)
   clear he
   by_cases hm : y[0].toNat = 46
   ·have h2 : ((y[0].toNat : Int) == 46) = true := byte_is _ _ hm
    have H := hid (show pDot l = true by unfold pDot; rw [← HY.out, E.out, hm]; rfl)
    clear hm
    go_wp2_with fail
    go_meet
    exact ⟨by rw [H.out], rfl⟩
   ·have h2 : ((y[0].toNat : Int) == 46) = false := byte_not _ _ hm
    have H := hid (show pDot l = false by unfold pDot; rw [← HY.out, E.out]; simp [hm])
    clear hm
    go_wp2_with fail
    go_meet
    exact ⟨by rw [H.out], rfl⟩
 case rest =>
 obtain ⟨rfl, rfl⟩ := hcut
 go_upto_if 49 with fail
 go_cut [0, 10] from 13 (fun v g wx => ∃ z f : ByteArray, v = .string z ∧ g = .string f ∧ Hid (z.data.toList = pS l) ∧ Hid (f.data.toList = pF l) ∧ Hid (pFok l = true) ∧ z.size ≤ 2 ^ 63 - 1 ∧ wx = wc)
 case first =>
  cases hD : pDot l with
  | false =>
   have H1 := hid (show pS l = pR l by unfold pS; rw [hD]; rfl)
   have H2 := hid (show pF l = [] by unfold pF; rw [hD]; rfl)
   have H3 := hid (show pFok l = true by unfold pFok; rw [hD]; rfl)
   go_wp2_with fail
   go_meet
   exact ⟨y, ⟨#[]⟩, rfl, rfl, HY.out.trans H1.out.symm, H2.out.symm, H3, hys, rfl⟩
  | true =>
   have h1 : 1 ≤ y.size := emp_size y (first_is y 46 (by rw [HY.out]; exact of_decide_eq_true hD) (by decide))
   obtain ⟨y1, hy1⟩ : ∃ x, y.extract 1 y.size = x := ⟨_, rfl⟩
   have hl1 : y1.data.toList = (pR l).drop 1 := by rw [← hy1, drop_list, HY.out]
   have hs1 : y1.size = y.size - 1 := by rw [← hy1, ByteArray.size_extract]; omega
   have hs1' : y1.size ≤ 2 ^ 63 - 1 := by omega
   have hr1 := runN_le y1.data.toList
   rw [size_list] at hr1
   obtain ⟨m, hm⟩ : ∃ m, runN y1.data.toList = m := ⟨_, rfl⟩
   have HM := hid hm
   rw [hm] at hr1
   have hm1 : 1 + m ≤ y.size := by omega
   obtain ⟨f, hf⟩ : ∃ x, y.extract 1 (1 + m) = x := ⟨_, rfl⟩
   obtain ⟨z, hz⟩ : ∃ x, y.extract (1 + m) y.size = x := ⟨_, rfl⟩
   have HF := hid (show f.data.toList = pF l by
    rw [← hf]; unfold pF; rw [hD, if_pos rfl, ← runN_take, ← hl1, hm, hl1, ← HY.out]; simp)
   have HZ := hid (show z.data.toList = pS l by
    rw [← hz, drop_list]; unfold pS; rw [hD, if_pos rfl, ← runN_drop, ← hl1, hm, hl1, ← HY.out, List.drop_drop])
   have hzs : z.size ≤ 2 ^ 63 - 1 := by rw [← hz, ByteArray.size_extract]; omega
   clear hm hl1 hs1
   by_cases he : f.data.toList = []
   ·have h2 := emp_yes f he
    have H := hid (show pFok l = false by unfold pFok; rw [hD, ← HF.out, he]; rfl)
    clear he
    go_wp2_with (go_at_call 202; go_must (refine (run_any _ _ hs1').mono ?_; rintro e w' ⟨rfl, hw⟩; obtain rfl := hw.symm; rw [HM.out]))
    refine bodyPost_ret (results_tmp5 rfl _ _ _) rfl ⟨?_, rfl⟩
    rw [partsV_no l (Or.inr (Or.inl H.out))]; rfl
   ·have h2 := emp_no f he
    have H := hid (show pFok l = true by unfold pFok; rw [hD, ← HF.out]; simp; simpa using he)
    clear he
    go_wp2_with (go_at_call 202; go_must (refine (run_any _ _ hs1').mono ?_; rintro e w' ⟨rfl, hw⟩; obtain rfl := hw.symm; rw [HM.out]))
    go_meet
    exact ⟨z, f, by first | rfl | rw [hz], by rw [hf], HZ, HF, H, hzs, rfl⟩
 case rest =>
 obtain ⟨z, f, rfl, rfl, HZ, HF, HFO, hzs, rfl⟩ := hcut
 by_cases he : z.data.toList = []
 ·have h2 := emp_yes z he
  have H := hid (show pEok l = true by unfold pEok; rw [← HZ.out, he]; rfl)
  have H2 := hid (show pP l = [] by unfold pP; rw [← HZ.out, he]; rfl)
  clear he
  go_wp2_with fail
  refine bodyPost_ret (results_tmp5 rfl _ _ _) rfl ⟨?_, rfl⟩
  rw [partsV_yes l hW HFO.out H.out, H2.out, mkS_of x _ HX.out, mkS_of f _ HF.out]; rfl
 ·have h2 := emp_no z he
  have h0 := emp_size z he
  have E := hid (getD_at z 0 h0)
  have HE := hid (show ¬ pS l = [] by rw [← HZ.out]; exact he)
  clear he
  go_upto_region 18 with fail
  go_cut [75] from 13 (fun v wx => v = .bool (!pE l) ∧ wx = wc)
  case first =>
   by_cases h5 : z[0].toNat = 101
   ·have h6 : ((z[0].toNat : Int) != 101) = false := byte_nis _ _ h5
    have H := hid (show pE l = true by unfold pE; rw [← HZ.out, E.out, h5]; rfl)
    clear h5
    go_wp2_with fail
    go_meet
    exact ⟨by rw [H.out]; rfl, rfl⟩
   ·have h6 : ((z[0].toNat : Int) != 101) = true := byte_nnot _ _ h5
    by_cases h7 : z[0].toNat = 69
    ·have h8 : ((z[0].toNat : Int) != 69) = false := byte_nis _ _ h7
     have H := hid (show pE l = true by unfold pE; rw [← HZ.out, E.out, h7]; rfl)
     clear h5 h7
     go_wp2_with fail
     go_meet
     exact ⟨by rw [H.out]; rfl, rfl⟩
    ·have h8 : ((z[0].toNat : Int) != 69) = true := byte_nnot _ _ h7
     have H := hid (show pE l = false by unfold pE; rw [← HZ.out, E.out]; simp [h5, h7])
     clear h5 h7
     go_wp2_with fail
     go_meet
     exact ⟨by rw [H.out]; rfl, rfl⟩
  case rest =>
  obtain ⟨rfl, rfl⟩ := hcut
  cases hE : pE l with
  | false =>
   have H := hid (show pEok l = false by unfold pEok; rw [hE]; simp [HE.out])
   go_wp2_with fail
   refine bodyPost_ret (results_tmp5 rfl _ _ _) rfl ⟨?_, rfl⟩
   rw [partsV_no l (Or.inr (Or.inr H.out))]; rfl
  | true =>
  obtain ⟨p, hp⟩ : ∃ x, z.extract 1 z.size = x := ⟨_, rfl⟩
  have HP := hid (show p.data.toList = pP l by rw [← hp, drop_list, HZ.out]; rfl)
  have hps : p.size ≤ 2 ^ 63 - 1 := by rw [← hp, ByteArray.size_extract]; omega
  go_upto_region 22 with fail
  go_cut [90] from 13 (fun v wx => v = .bool (pSg (pP l)) ∧ wx = wc)
  case first =>
   by_cases he : p.data.toList = []
   ·have h3 := emp_yes p he
    have H := hid (show pSg (pP l) = false by rw [← HP.out, he]; rfl)
    clear he
    go_wp2_with fail
    go_meet
    exact ⟨by rw [H.out], rfl⟩
   ·have h3 := emp_no p he
    have h4 := emp_size p he
    have E4 := hid (getD_at p 0 h4)
    clear he
    by_cases h5 : p[0].toNat = 43
    ·have h6 : ((p[0].toNat : Int) == 43) = true := byte_is _ _ h5
     have H := hid (show pSg (pP l) = true by unfold pSg; rw [← HP.out, E4.out, h5]; rfl)
     clear h5
     go_wp2_with fail
     go_meet
     exact ⟨by rw [H.out], rfl⟩
    ·have h6 : ((p[0].toNat : Int) == 43) = false := byte_not _ _ h5
     by_cases h7 : p[0].toNat = 45
     ·have h8 : ((p[0].toNat : Int) == 45) = true := byte_is _ _ h7
      have H := hid (show pSg (pP l) = true by unfold pSg; rw [← HP.out, E4.out, h7]; rfl)
      clear h5 h7
      go_wp2_with fail
      go_meet
      exact ⟨by rw [H.out], rfl⟩
     ·have h8 : ((p[0].toNat : Int) == 45) = false := byte_not _ _ h7
      have H := hid (show pSg (pP l) = false by unfold pSg; rw [← HP.out, E4.out]; simp [h5, h7])
      clear h5 h7
      go_wp2_with fail
      go_meet
      exact ⟨by rw [H.out], rfl⟩
  case rest =>
  obtain ⟨rfl, rfl⟩ := hcut
  go_upto_if 90 with fail
  go_cut [12] from 13 (fun v wx => ∃ d : ByteArray, v = .string d ∧ Hid (d.data.toList = pD (pP l)) ∧ d.size ≤ 2 ^ 63 - 1 ∧ wx = wc)
  case first =>
   cases hG : pSg (pP l) with
   | false =>
    have H := hid (show pD (pP l) = pP l by unfold pD; rw [hG]; rfl)
    go_wp2_with fail
    go_meet
    exact ⟨p, rfl, HP.out.trans H.out.symm, hps, rfl⟩
   | true =>
    have H := hid (show pD (pP l) = (pP l).drop 1 by unfold pD; rw [hG]; rfl)
    have h1 : 1 ≤ p.size := emp_size p (by
     rw [HP.out]; intro hc; rw [hc] at hG; exact absurd hG (by decide))
    go_wp2_with fail
    go_meet
    exact ⟨p.extract 1 p.size, rfl, show _ = _ by rw [drop_list, HP.out, H.out], by rw [ByteArray.size_extract]; omega, rfl⟩
  case rest =>
  obtain ⟨d, rfl, HD, hds, rfl⟩ := hcut
  have hrd := runN_le d.data.toList
  rw [size_list] at hrd
  have HSD := hid (size_list d)
  by_cases he : d.data.toList = []
  ·have h3 := emp_yes d he
   have H := hid (show pEok l = false by unfold pEok; rw [← HD.out, he]; simp [HE.out])
   clear he
   go_wp2_with fail
   refine bodyPost_ret (results_tmp5 rfl _ _ _) rfl ⟨?_, rfl⟩
   rw [partsV_no l (Or.inr (Or.inr H.out))]; rfl
  ·have h3 := emp_no d he
   have HE2 := hid he
   clear he
   by_cases hq : runN d.data.toList = d.size
   ·have H := hid (show pEok l = true by unfold pEok; rw [hE, ← HD.out, HSD.out, hq]; simp; exact Or.inr (by simpa using HE2.out))
    have HQ := hid hq
    clear hq
    go_wp2_with (go_at_call 202; go_must (refine (run_any _ _ hds).mono ?_; rintro e w' ⟨rfl, hw⟩; obtain rfl := hw.symm; rw [HQ.out]))
    refine bodyPost_ret (results_tmp5 rfl _ _ _) rfl ⟨?_, rfl⟩
    rw [partsV_yes l hW HFO.out H.out, mkS_of x _ HX.out, mkS_of f _ HF.out, mkS_of p _ HP.out]; rfl
   ·have hq' : ((runN d.data.toList : Int) != (d.size : Int)) = true := by rw [bne_iff_ne]; omega
    have H := hid (show pEok l = false by unfold pEok; rw [← HD.out, HSD.out]; simp [HE.out, hq])
    clear hq
    go_wp2_with (go_at_call 202; go_must (refine (run_any _ _ hds).mono ?_; rintro e w' ⟨rfl, hw⟩; obtain rfl := hw.symm))
    refine bodyPost_ret (results_tmp5 rfl _ _ _) rfl ⟨?_, rfl⟩
    rw [partsV_no l (Or.inr (Or.inr H.out))]; rfl
theorem parts_yes (s : ByteArray) (w : World) (hs : s.size ≤ maxLen) (h : pOk s.data.toList = true) :
  Calls Tryz.prog 147 #[.string s] w fun e w' => e = .returned (.tuple #[.bool (pNeg s.data.toList), .string (mkS (pW s.data.toList)), .string (mkS (pF s.data.toList)), .string (mkS (pP s.data.toList)), .bool true]) ∧ w' = w := by
 refine (parts_any s w hs).mono ?_
 rintro e w' ⟨rfl, rfl⟩
 exact ⟨by unfold partsV; rw [h]; rfl, rfl⟩
theorem parts_none (s : ByteArray) (w : World) (hs : s.size ≤ maxLen) (h : pOk s.data.toList = false) :
  Calls Tryz.prog 147 #[.string s] w fun e w' => e = .returned (.tuple #[.bool false, .string ⟨#[]⟩, .string ⟨#[]⟩, .string ⟨#[]⟩, .bool false]) ∧ w' = w := by
 refine (parts_any s w hs).mono ?_
 rintro e w' ⟨rfl, rfl⟩
 exact ⟨by unfold partsV; rw [h]; rfl, rfl⟩
theorem power_mk (l : List UInt8) (w : World) (hs : l.length ≤ maxLen) :
  Calls Tryz.prog 148 #[.string (mkS l)] w fun e w' => e = .returned (.tuple #[.int .i64 (pwV l), .bool (pwOk l)]) ∧ w' = w := by
 have := power_any (mkS l) w (by rw [mkS_size]; exact hs)
 rwa [mkS_list] at this
set_option maxRecDepth 100000 in
set_option maxHeartbeats 400000 in
theorem form_any (s : ByteArray) (w : World) (hs : s.size ≤ maxLen) :
  Calls Tryz.prog 145 #[.string s] w fun e w' => e = .returned (.tuple #[.bool (pOk s.data.toList), .bool (pOk s.data.toList && !pwOk (pP s.data.toList))]) ∧ w' = w := by
 have HP := hid (show (pP s.data.toList).length ≤ maxLen by have := parts_len s.data.toList; rw [size_list] at this; omega)
 cases hp : pOk s.data.toList with
 | false =>
  go_enter Tryz.func145, Tryz.ntmps145
  go_wp2_with (first
   | (go_at_call 147; go_must (refine (parts_none _ _ hs hp).mono ?_; rintro e w' ⟨rfl, hw⟩; obtain rfl := hw.symm))
   | (go_at_call 148; go_must (refine (power_any _ _ (by decide)).mono ?_; rintro e w' ⟨rfl, hw⟩; obtain rfl := hw.symm)))
  go_ret2
  exact ⟨rfl, rfl⟩
 | true =>
  cases hq : pwOk (pP s.data.toList)
  all_goals
   go_enter Tryz.func145, Tryz.ntmps145
   go_wp2_with (first
    | (go_at_call 147; go_must (refine (parts_yes _ _ hs hp).mono ?_; rintro e w' ⟨rfl, hw⟩; obtain rfl := hw.symm))
    | (go_at_call 148; go_must (refine (power_mk _ _ HP.out).mono ?_; rintro e w' ⟨rfl, hw⟩; obtain rfl := hw.symm)))
   go_ret2
   exact ⟨rfl, rfl⟩
set_option maxRecDepth 100000 in
set_option maxHeartbeats 400000 in
theorem number_any (s : ByteArray) (w : World) (hs : s.size ≤ maxLen) :
  Calls Tryz.prog 85 #[.string s] w fun e w' => e = .returned (.bool (numB s.data.toList)) ∧ w' = w := by
 have HZ := hid (size_list s)
 cases hp : pOk s.data.toList with
 | false =>
  have H := hid (show numB s.data.toList = false by unfold numB; rw [hp]; rfl)
  go_enter Tryz.func85, Tryz.ntmps85
  go_wp2_with (go_at_call 145; go_must (refine (form_any _ _ hs).mono ?_; rintro e w' ⟨rfl, hw⟩; obtain rfl := hw.symm; rw [hp]))
  go_ret
  exact ⟨ret_bool H.out.symm, rfl⟩
 | true =>
  cases hq : pwOk (pP s.data.toList) with
  | false =>
   have H := hid (show numB s.data.toList = false by unfold numB; rw [hp, hq]; rfl)
   go_enter Tryz.func85, Tryz.ntmps85
   go_wp2_with (go_at_call 145; go_must (refine (form_any _ _ hs).mono ?_; rintro e w' ⟨rfl, hw⟩; obtain rfl := hw.symm; rw [hp, hq]))
   go_ret
   exact ⟨ret_bool H.out.symm, rfl⟩
  | true =>
   by_cases h4 : s.size ≤ 400
   ·have H := hid (show numB s.data.toList = true by unfold numB; rw [hp, hq, HZ.out]; simpa using h4)
    go_enter Tryz.func85, Tryz.ntmps85
    go_wp2_with (go_at_call 145; go_must (refine (form_any _ _ hs).mono ?_; rintro e w' ⟨rfl, hw⟩; obtain rfl := hw.symm; rw [hp, hq]))
    go_ret
    exact ⟨ret_bool (by rw [H.out]; simp; omega), rfl⟩
   ·have H := hid (show numB s.data.toList = false by unfold numB; rw [hp, hq, HZ.out]; simpa using h4)
    go_enter Tryz.func85, Tryz.ntmps85
    go_wp2_with (go_at_call 145; go_must (refine (form_any _ _ hs).mono ?_; rintro e w' ⟨rfl, hw⟩; obtain rfl := hw.symm; rw [hp, hq]))
    go_ret
    exact ⟨ret_bool (by rw [H.out]; simp; omega), rfl⟩
theorem mkS_add (a b : List UInt8) : mkS a ++ mkS b = mkS (a ++ b) := by
 apply mkS_of; simp [mkS]
theorem first_rest (x : ByteArray) (h : 0 < x.size) : x.data.toList = x[0] :: (x.extract 1 x.size).data.toList := by
 rw [drop_list]; exact list_of x h
theorem last_rest (x : ByteArray) (k : Nat) (h : k + 1 = x.size) : x.data.toList = (x.extract 0 k).data.toList ++ [x[k]] := by
 rw [cut_list]
 have hk : k < x.data.toList.length := by rw [size_list]; omega
 have e := List.take_succ_eq_append_getElem hk
 rw [List.take_of_length_le (by rw [size_list]; omega)] at e
 exact e
theorem ret_bst {n m : Bool} {x y : ByteArray} {a b : Int} (h : n = m) (g : x = y) (k : a = b) : Ending.returned (.tuple #[.bool n, .string x, .int .i64 a]) = .returned (.tuple #[.bool m, .string y, .int .i64 b]) := by rw [h, g, k]
def szOf (v : Value) : Nat := match v with | .string x => x.size | _ => 0
set_option maxRecDepth 100000 in
set_option maxHeartbeats 1000000 in
theorem scaled_any (s : ByteArray) (w : World) (hs : s.size ≤ 1000000) (hp : pOk s.data.toList = true) :
  Calls Tryz.prog 89 #[.string s] w fun e w' => e = .returned (.tuple #[.bool (scN s.data.toList), .string (mkS (scD s.data.toList)), .int .i64 (scT s.data.toList)]) ∧ w' = w := by
 obtain ⟨l, hl⟩ : ∃ l, s.data.toList = l := ⟨_, rfl⟩
 have HO := hid hp
 rw [hl] at hp ⊢
 have hpl := parts_len l
 have hll : l.length ≤ 1000000 := by rw [← hl, size_list]; exact hs
 have HL := hid hl
 clear hl
 have HP := hid (show (pP l).length ≤ 1000000 by omega)
 have hW : (mkS (pW l)).size = (pW l).length := mkS_size _
 have hF : (mkS (pF l)).size = (pF l).length := mkS_size _
 have hFl : (pF l).length ≤ 1000000 := by omega
 have hWl : (pW l).length ≤ 1000000 := by omega
 have hv := pwV_bd (pP l)
 have hadd := mkS_add (pW l) (pF l)
 have hz := lz_le (pW l ++ pF l)
 rw [List.length_append] at hz
 go_enter Tryz.func89, Tryz.ntmps89
 go_wp2_with (first
  | (go_at_call 147; go_must (refine (parts_yes _ _ (max_le hs) HO.out).mono ?_; rintro e w' ⟨rfl, hw⟩; obtain rfl := hw.symm; rw [HL.out]))
  | (go_at_call 148; go_must (refine (power_mk _ _ (max_le HP.out)).mono ?_; rintro e w' ⟨rfl, hw⟩; obtain rfl := hw.symm)))
 go_loop [12, 13] (fun d t => ∃ (x : ByteArray) (k : Nat), d = .string x ∧ t = .int .i64 (((pW l).length : Int) - 1 + pwV (pP l) - k) ∧ k ≤ 1000000 ∧ x.size ≤ 1000000 ∧ Hid (lst x.data.toList = lst (pW l ++ pF l) ∧ lz x.data.toList + k = lz (pW l ++ pF l))) (fun d _ => szOf d)
 case atStart => exact ⟨mkS (pW l ++ pF l), 0, rfl, val_int (by simp), by omega, by rw [mkS_size, List.length_append]; omega, ⟨by rw [mkS_list], by rw [mkS_list]; rfl⟩⟩
 case round =>
  obtain ⟨x, k, rfl, rfl, hk, hx, HX⟩ := hrel
  by_cases hz0 : 0 < x.size ∧ (x.data.toList.getD 0 0).toNat = 48
  ·obtain ⟨h0, h48⟩ := hz0
   have h1 := emp_no x (by intro hc; rw [hc] at h48; exact absurd h48 (by decide))
   have F := hid (first_rest x h0)
   rw [getD_at x 0 h0] at h48
   have h2 : ((x[0].toNat : Int) == 48) = true := byte_is _ _ h48
   have HC := hid (lz_cons x[0] (x.extract 1 x.size).data.toList h48)
   have hk' : k + 1 ≤ 1000000 := by
    have h3 := HX.out.2; rw [F.out, HC.out.1] at h3; omega
   clear h48
   go_wp2_with fail
   go_round
   case rel => exact ⟨x.extract 1 x.size, k + 1, rfl, val_int (by omega), hk', by rw [ByteArray.size_extract]; omega, ⟨by rw [← HX.out.1, F.out, HC.out.2], by have h3 := HX.out.2; rw [F.out, HC.out.1] at h3; omega⟩⟩
   case measure => simp [szOf]; omega
  ·have hX : lst x.data.toList = x.data.toList ∧ lz x.data.toList = 0 ∧ (x.data.toList = [] ∨ (0 < x.size ∧ ¬ (x.data.toList.getD 0 0).toNat = 48)) := by
    by_cases h0 : 0 < x.size
    ·have h48 : ¬ (x.data.toList.getD 0 0).toNat = 48 := fun h => hz0 ⟨h0, h⟩
     have := first_rest x h0
     rw [getD_at x 0 h0] at h48
     have h5 := lz_stop x[0] (x.extract 1 x.size).data.toList h48
     rw [← this] at h5
     exact ⟨h5.2, h5.1, Or.inr ⟨h0, by rw [getD_at x 0 h0]; exact h48⟩⟩
    ·have : x.data.toList = [] := List.eq_nil_of_length_eq_zero (by rw [size_list]; omega)
     rw [this]; exact ⟨rfl, rfl, Or.inl rfl⟩
   obtain ⟨hX1, hX2, hX3⟩ := hX
   have HD := hid (show rst x.data.toList = scD l by unfold scD; rw [← HX.out.1, hX1])
   have HK := hid (show k = lz (pW l ++ pF l) by have := HX.out.2; omega)
   clear hX1 hX2 hz0
   have hcase : (x.toList.isEmpty = true) ∨ ∃ h0 : 0 < x.size, x.toList.isEmpty = false ∧ ((x[0].toNat : Int) == 48) = false := by
    rcases hX3 with h | ⟨h0, h⟩
    ·exact Or.inl (emp_yes x h)
    ·exact Or.inr ⟨h0, emp_no x (by intro hc; have := size_list x; rw [hc] at this; simp at this; omega), byte_not _ _ (by rw [← getD_at x 0 h0]; exact h)⟩
   clear hX3
   rcases hcase with h1 | ⟨h0, h1, h2⟩
   all_goals
    go_wp2_with fail
    clear h1
    go_loop [12] (fun d => ∃ y : ByteArray, d = .string y ∧ y.size ≤ 1000000 ∧ Hid (rst y.data.toList = scD l)) (fun d => szOf d)
    case atStart => exact ⟨x, rfl, hx, HD⟩
    case round =>
     obtain ⟨y, rfl, hy, HY⟩ := hrel
     by_cases he : y.data.toList = []
     ·have h3 := emp_yes y he
      have H := hid (show scD l = [] by rw [← HY.out, he]; rfl)
      clear he
      go_wp2_with fail
      go_ret3
      exact ⟨ret_bst (by unfold scN; rw [H.out]; rfl) (by rw [H.out]; rfl) (by unfold scT; rw [H.out]; rfl), rfl⟩
     ·have h3 := emp_no y he
      have h4 := emp_size y he
      have HE := hid he
      clear he
      obtain ⟨j, hj⟩ : ∃ j, y.size = j + 1 := ⟨y.size - 1, by omega⟩
      have hjy : j < y.size := by omega
      have L := hid (last_rest y j hj.symm)
      have ej : ((j + 1 : Nat) : Int) - 1 = (j : Int) := by omega
      by_cases h48 : y[j].toNat = 48
      ·have h5 : ((y[j].toNat : Int) == 48) = true := byte_is _ _ h48
       have HS := hid (rst_snoc y[j] (y.extract 0 j).data.toList h48)
       clear h48
       go_wp2_with fail
       go_round
       case rel => exact ⟨y.extract 0 j, rfl, by rw [ByteArray.size_extract]; omega, show _ = _ by rw [← HS.out, ← L.out]; exact HY.out⟩
       case measure => simp [szOf]; omega
      ·have h5 : ((y[j].toNat : Int) == 48) = false := byte_not _ _ h48
       have HS := hid (rst_stop y[j] (y.extract 0 j).data.toList h48)
       have H := hid (show scD l = y.data.toList by rw [← HY.out, L.out, HS.out])
       have HN := hid (show ¬ scD l = [] by rw [H.out]; exact HE.out)
       clear h48
       go_wp2_with fail
       go_ret3
       exact ⟨ret_bst (by unfold scN; rw [if_neg HN.out]) (mkS_of _ _ H.out.symm) (by unfold scT; rw [if_neg HN.out, ← HK.out]), rfl⟩
theorem num_ok {l : List UInt8} (h : numB l = true) : pOk l = true := by
 unfold numB at h; simp only [Bool.and_eq_true] at h; exact h.1.1
theorem num_len {l : List UInt8} (h : numB l = true) : l.length ≤ 400 := by
 unfold numB at h; simp only [Bool.and_eq_true, decide_eq_true_eq] at h; exact h.2
theorem num_size {s : ByteArray} (h : numB s.data.toList = true) : s.size ≤ 1000000 := by have := num_len h; rw [size_list] at this; omega
theorem sign_mk (n : Bool) (d : List UInt8) (w : World) :
  Calls Tryz.prog 90 #[.bool n, .string (mkS d)] w fun e w' => e = .returned (.int .i64 (sgI n d)) ∧ w' = w := by
 have := sign_any n (mkS d) w
 rwa [mkS_list] at this
set_option maxRecDepth 100000 in
set_option maxHeartbeats 1000000 in
theorem cmp_any (a b : ByteArray) (w : World) (ha : a.size ≤ maxLen) (hb : b.size ≤ maxLen) :
  Calls Tryz.prog 46 #[.string a, .string b] w fun e w' => e = .returned (.int .i64 (cmpI a.data.toList b.data.toList)) ∧ w' = w := by
 have NA := hid (fun w => number_any a w ha)
 have NB := hid (fun w => number_any b w hb)
 obtain ⟨k, hk⟩ : ∃ k, a.data.toList = k := ⟨_, rfl⟩
 obtain ⟨l, hl⟩ : ∃ l, b.data.toList = l := ⟨_, rfl⟩
 rw [hk, hl]
 rw [hk] at NA
 rw [hl] at NB
 have SA := hid (fun w (h : numB a.data.toList = true) => scaled_any a w (num_size h) (num_ok h))
 have SB := hid (fun w (h : numB b.data.toList = true) => scaled_any b w (num_size h) (num_ok h))
 rw [hk] at SA
 rw [hl] at SB
 clear hk hl
 cases hx : numB k
 ·cases hy : numB l
  all_goals
   have H := hid (show cmpI k l = _ by unfold cmpI; rw [hx, hy])
   go_enter Tryz.func46, Tryz.ntmps46
   go_wp2_with (first
    | (go_at_call_of 85 a; go_must (refine (NA.out _).mono ?_; rintro e w' ⟨rfl, hw⟩; obtain rfl := hw.symm; rw [hx]))
    | (go_at_call_of 85 b; go_must (refine (NB.out _).mono ?_; rintro e w' ⟨rfl, hw⟩; obtain rfl := hw.symm; rw [hy])))
   go_ret
   exact ⟨ret_int H.out.symm, rfl⟩
 ·cases hy : numB l
  ·have H := hid (show cmpI k l = _ by unfold cmpI; rw [hx, hy])
   go_enter Tryz.func46, Tryz.ntmps46
   go_wp2_with (first
    | (go_at_call_of 85 a; go_must (refine (NA.out _).mono ?_; rintro e w' ⟨rfl, hw⟩; obtain rfl := hw.symm; rw [hx]))
    | (go_at_call_of 85 b; go_must (refine (NB.out _).mono ?_; rintro e w' ⟨rfl, hw⟩; obtain rfl := hw.symm; rw [hy])))
   go_ret
   exact ⟨ret_int H.out.symm, rfl⟩
  ·have H := hid (show cmpI k l = tcmp (scN k) (scD k) (scT k) (scN l) (scD l) (scT l) by unfold cmpI; rw [hx, hy]; rfl)
   have SA' := hid (fun w => SA.out w hx)
   have SB' := hid (fun w => SB.out w hy)
   rw [H.out]
   generalize scN k = p at SA' ⊢
   generalize scD k = d at SA' ⊢
   generalize scT k = n at SA' ⊢
   generalize scN l = q at SB' ⊢
   generalize scD l = e at SB' ⊢
   generalize scT l = m at SB' ⊢
   go_enter Tryz.func46, Tryz.ntmps46
   go_upto_region 10 with (first
    | (go_at_call_of 85 a; go_must (refine (NA.out _).mono ?_; rintro e w' ⟨rfl, hw⟩; obtain rfl := hw.symm; rw [hx]))
    | (go_at_call_of 85 b; go_must (refine (NB.out _).mono ?_; rintro e w' ⟨rfl, hw⟩; obtain rfl := hw.symm; rw [hy]))
    | (go_at_call_of 89 a; go_must (refine (SA'.out _).mono ?_; rintro e w' ⟨rfl, hw⟩; obtain rfl := hw.symm))
    | (go_at_call_of 89 b; go_must (refine (SB'.out _).mono ?_; rintro e w' ⟨rfl, hw⟩; obtain rfl := hw.symm)))
   go_cut [56] from 16 (fun v wx => v = .bool (decide (d = e ∧ p = q ∧ n = m)) ∧ wx = w)
   case first =>
    by_cases h1 : d = e
    ·have h2 : ((mkS d).toList == (mkS e).toList) = true := by rw [h1]; simp
     by_cases h3 : p = q
     ·have h4 : (p == q) = true := by rw [h3]; simp
      by_cases h5 : n = m
      ·have h6 : (n == m) = true := by rw [h5]; simp
       have H := hid (show decide (d = e ∧ p = q ∧ n = m) = true by simp [h1, h3, h5])
       clear h1 h3 h5
       go_wp2_with fail
       go_meet
       exact ⟨by rw [H.out], rfl⟩
      ·have h6 : (n == m) = false := by simp [h5]
       have H := hid (show decide (d = e ∧ p = q ∧ n = m) = false by simp [h5])
       clear h1 h3 h5
       go_wp2_with fail
       go_meet
       exact ⟨by rw [H.out], rfl⟩
     ·have h4 : (p == q) = false := by simp [h3]
      have H := hid (show decide (d = e ∧ p = q ∧ n = m) = false by simp [h3])
      clear h1 h3
      go_wp2_with fail
      go_meet
      exact ⟨by rw [H.out], rfl⟩
    ·have h2 : ((mkS d).toList == (mkS e).toList) = false := by
      rw [beq_eq_false_iff_ne, Lib.toList_data, Lib.toList_data, mkS_list, mkS_list]; exact h1
     have H := hid (show decide (d = e ∧ p = q ∧ n = m) = false by simp [h1])
     clear h1
     go_wp2_with fail
     go_meet
     exact ⟨by rw [H.out], rfl⟩
   case rest =>
   obtain ⟨rfl, rfl⟩ := hcut
   by_cases hall : d = e ∧ p = q ∧ n = m
   ·have h1 : decide (d = e ∧ p = q ∧ n = m) = true := by simpa using hall
    have H := hid (show tcmp p d n q e m = 0 by unfold tcmp; rw [if_pos hall])
    clear hall
    rw [h1]
    go_wp2_with fail
    go_ret
    exact ⟨ret_int H.out.symm, rfl⟩
   ·have h1 : decide (d = e ∧ p = q ∧ n = m) = false := by simpa using hall
    have HA := hid hall
    clear hall
    rw [h1]
    by_cases hst : sgI p d = sgI q e
    ·have h2 : (sgI p d != sgI q e) = false := by rw [hst]; simp
     have HS := hid hst
     have hB : Op.bytesLess (mkS d).toList (mkS e).toList = ltB d e := by rw [Lib.toList_data, Lib.toList_data, mkS_list, mkS_list]; rfl
     clear hst
     go_upto_region 17 with (go_at_call 90; go_must (refine (sign_mk _ _ _).mono ?_; rintro e w' ⟨rfl, hw⟩; obtain rfl := hw.symm))
     go_cut [15] from 16 (fun v wx => v = .bool (lessB d n e m) ∧ wx = wc)
     case first =>
      by_cases h3 : n < m
      ·have H := hid (show lessB d n e m = true by simp [lessB, h3])
       go_wp2_with fail
       go_meet
       exact ⟨by rw [H.out], rfl⟩
      ·by_cases h5 : n = m
       ·have h6 : (n == m) = true := by rw [h5]; simp
        have H := hid (show lessB d n e m = ltB d e by simp [lessB, h5])
        clear h5
        go_wp2_with fail
        go_meet
        exact ⟨by rw [H.out], rfl⟩
       ·have h6 : (n == m) = false := by simp [h5]
        have H := hid (show lessB d n e m = false by simp [lessB, h5, h3])
        clear h5
        go_wp2_with fail
        go_meet
        exact ⟨by rw [H.out], rfl⟩
     case rest =>
     obtain ⟨rfl, rfl⟩ := hcut
     by_cases hq : lessB d n e m = decide (0 < sgI p d)
     ·have h5 : (lessB d n e m == decide (0 < sgI p d)) = true := by rw [hq]; simp
      have H := hid (show tcmp p d n q e m = -1 by unfold tcmp; rw [if_neg HA.out, if_pos HS.out, if_pos hq])
      clear hq
      go_wp2_with fail
      go_ret
      exact ⟨ret_int H.out.symm, rfl⟩
     ·have h5 : (lessB d n e m == decide (0 < sgI p d)) = false := by simpa using hq
      have H := hid (show tcmp p d n q e m = 1 by unfold tcmp; rw [if_neg HA.out, if_pos HS.out, if_neg hq])
      clear hq
      go_wp2_with fail
      go_ret
      exact ⟨ret_int H.out.symm, rfl⟩
    ·have h2 : (sgI p d != sgI q e) = true := by simpa using hst
     have HS := hid hst
     clear hst
     by_cases h3 : sgI p d < sgI q e
     ·have H := hid (show tcmp p d n q e m = -1 by unfold tcmp; rw [if_neg HA.out, if_neg HS.out, if_pos h3])
      go_wp2_with (go_at_call 90; go_must (refine (sign_mk _ _ _).mono ?_; rintro e w' ⟨rfl, hw⟩; obtain rfl := hw.symm))
      go_ret
      exact ⟨ret_int H.out.symm, rfl⟩
     ·have H := hid (show tcmp p d n q e m = 1 by unfold tcmp; rw [if_neg HA.out, if_neg HS.out, if_neg h3])
      go_wp2_with (go_at_call 90; go_must (refine (sign_mk _ _ _).mono ?_; rintro e w' ⟨rfl, hw⟩; obtain rfl := hw.symm))
      go_ret
      exact ⟨ret_int H.out.symm, rfl⟩
end Go.Proofs.YteimbjamnfkapaaGreatDoor
