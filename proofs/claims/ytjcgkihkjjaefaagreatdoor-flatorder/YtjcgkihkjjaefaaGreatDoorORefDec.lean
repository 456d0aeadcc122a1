
import Derived.Test.YtjcgkihkjjaefaaGreatDoorOOrders
import Derived.Deep.DeepCutAuto
import Derived.Deep.CutRange
import Derived.Test.YtjcgkihkjjaefaaGreatDoorOMathDecAll
import Derived.Deep.RegionWith
/- The document's own reckoning of numbers' texts, walked: digit, run, power, sign. -/
/- The document's own reckoning of a number's text, walked: parts. -/
/- The document's own reckoning of numbers' texts, walked: Form, Number, scaled, Whole. -/
/- The document's own order of numbers, walked: Cmp. -/
/- The document's own reading of whole numbers, walked: Int. -/
namespace Go.Proofs.YtjcgkihkjjaefaaGreatDoor
open Go.RowKit

set_option maxRecDepth 100000 in
set_option maxHeartbeats 400000 in
theorem digit_any (b : UInt8) (w : World) :
    Calls Tryz.prog 104 #[.int .u8 (b.toNat : Int)] w fun e w' => e = .returned (.bool (isD b)) ∧ w' = w := by
  have hb := b.toNat_lt
  by_cases h1 : 48 ≤ b.toNat
  · by_cases h2 : b.toNat ≤ 57
    · go_enter Tryz.func104, Tryz.ntmps104
      go_wp2
      go_ret
      exact ⟨ret_bool (by simp [isD, h1, h2]; omega), rfl⟩
    · go_enter Tryz.func104, Tryz.ntmps104
      go_wp2
      go_ret
      exact ⟨ret_bool (by simp [isD, h2]; omega), rfl⟩
  · go_enter Tryz.func104, Tryz.ntmps104
    go_wp2
    go_ret
    exact ⟨ret_bool (by simp [isD, h1]), rfl⟩
set_option maxRecDepth 100000 in
set_option maxHeartbeats 400000 in
theorem run_any (s : ByteArray) (w : World) (hs : s.size ≤ maxLen) :
    Calls Tryz.prog 102 #[.string s] w fun e w' => e = .returned (.int .i64 (runN s.data.toList)) ∧ w' = w := by
  unfold maxLen at hs
  have hr := runN_le s.data.toList
  rw [size_list] at hr
  go_enter Tryz.func102, Tryz.ntmps102
  go_wp2_with fail
  go_loop [3] (fun x => ∃ k : Nat, x = .int .i64 k ∧ k ≤ runN s.data.toList) (fun x => s.size - (intOf x).toNat)
  case atStart => exact ⟨0, rfl, Nat.zero_le _⟩
  case round =>
    obtain ⟨k, rfl, hk⟩ := hrel
    by_cases hlt : k < s.size
    · have E := hid (getD_at s k hlt)
      by_cases hd : k < runN s.data.toList
      · have hD : isD s[k] = true := by rw [← E.out]; exact runN_lt _ _ hd
        go_wp2_with (go_at_call 104; go_must (refine (digit_any _ _).mono ?_; rintro e w' ⟨rfl, rfl⟩))
        go_round
        case rel => exact ⟨k + 1, by go_num, hd⟩
        case measure => simp [intOf]; omega
      · have hk' : k = runN s.data.toList := by omega
        have hD : isD s[k] = false := by
          rw [← E.out, hk']; exact runN_at _ (by rw [size_list]; omega)
        have HK := hid hk'
        clear hk'
        go_wp2_with (go_at_call 104; go_must (refine (digit_any _ _).mono ?_; rintro e w' ⟨rfl, rfl⟩))
        go_ret
        exact ⟨ret_int (by rw [← HK.out]), rfl⟩
    · have HK := hid (show k = runN s.data.toList by omega)
      go_wp2_with fail
      go_ret
      exact ⟨ret_int (by rw [← HK.out]), rfl⟩
set_option maxRecDepth 100000 in
set_option maxHeartbeats 400000 in
theorem power_any (s : ByteArray) (w : World) (hs : s.size ≤ maxLen) :
    Calls Tryz.prog 82 #[.string s] w fun e w' => e = .returned (.tuple #[.int .i64 (pwV s.data.toList), .bool (pwOk s.data.toList)]) ∧ w' = w := by
  unfold maxLen at hs
  have HZ := hid (size_list s)
  go_enter Tryz.func82, Tryz.ntmps82
  go_wp2_with fail
  go_loop [4, 5] (fun v x => ∃ k : Nat, v = .int .i64 (pval (s.data.toList.take k)) ∧ x = .int .i64 k ∧ k ≤ s.size ∧ pval (s.data.toList.take k) ≤ 100000) (fun _ x => s.size - (intOf x).toNat)
  case atStart => exact ⟨0, rfl, rfl, Nat.zero_le _, by simp [pval]⟩
  case round =>
    obtain ⟨k, rfl, rfl, hk, hv⟩ := hrel
    by_cases hlt : k < s.size
    · have E := hid (getD_at s k hlt)
      have P := hid (pval_take s.data.toList k (by rw [HZ.out]; exact hlt))
      cases hd : isD s[k] with
      | false =>
        have HP := hid (show pval (s.data.toList.take (k + 1)) = pval (s.data.toList.take k) by rw [P.out, E.out, hd]; rfl)
        go_wp2_with (go_at_call 104; go_must (refine (digit_any _ _).mono ?_; rintro e w' ⟨rfl, rfl⟩))
        go_round
        case rel => exact ⟨k + 1, by rw [HP.out], by go_num, hlt, by rw [HP.out]; exact hv⟩
        case measure => simp [intOf]; omega
      | true =>
        have hb := isD_bd hd
        have HP := hid (show ((pval (s.data.toList.take (k + 1)) : Nat) : Int) = 10 * (pval (s.data.toList.take k) : Int) + ((s[k].toNat : Int) - 48) by rw [P.out, E.out, hd]; simp; omega)
        by_cases hg : 10 * (pval (s.data.toList.take k) : Int) + ((s[k].toNat : Int) - 48) > 100000
        · have HN := hid (show pwOk s.data.toList = false by
            have h1 := pval_le s.data.toList (k + 1); have h2 := HP.out
            unfold pwOk; simp; omega)
          go_wp2_with (go_at_call 104; go_must (refine (digit_any _ _).mono ?_; rintro e w' ⟨rfl, rfl⟩))
          go_ret2
          exact ⟨ret_ib (by unfold pwV; rw [HN.out]; rfl) HN.out.symm, rfl⟩
        · go_wp2_with (go_at_call 104; go_must (refine (digit_any _ _).mono ?_; rintro e w' ⟨rfl, rfl⟩))
          go_round
          case rel => exact ⟨k + 1, val_int HP.out.symm, by go_num, hlt, by have := HP.out; omega⟩
          case measure => simp [intOf]; omega
    · have hk' : k = s.size := by omega
      have HE := hid (show s.data.toList.take k = s.data.toList by rw [hk', ← HZ.out, List.take_length])
      rw [HE.out] at hv ⊢
      have HO := hid (show pwOk s.data.toList = true by unfold pwOk; simpa using hv)
      clear hk'
      by_cases he : s.data.toList = []
      · have h1 := emp_yes s he
        have H := hid he
        clear he
        go_wp2_with fail
        go_ret2
        exact ⟨ret_ib (by unfold pwV; rw [HO.out, H.out]; rfl) HO.out.symm, rfl⟩
      · have h1 := emp_no s he
        have h0 := emp_size s he
        have E := hid (getD_at s 0 h0)
        clear he
        by_cases hm : s[0] = 45
        · have h2 : ((s[0].toNat : Int) == 45) = true := by rw [hm]; rfl
          have HM := hid (E.out.trans hm)
          clear hm
          go_wp2_with fail
          go_ret2
          exact ⟨ret_ib (by unfold pwV; rw [HO.out, HM.out]; rfl) HO.out.symm, rfl⟩
        · have h2 : ((s[0].toNat : Int) == 45) = false := by
            rw [beq_eq_false_iff_ne]; intro hc; apply hm; apply UInt8.toNat_inj.1; show _ = 45; omega
          have HM := hid (show ¬ s.data.toList.getD 0 0 = 45 by rw [E.out]; exact hm)
          clear hm
          go_wp2_with fail
          go_ret2
          exact ⟨ret_ib (by unfold pwV; rw [HO.out, if_neg HM.out]; rfl) HO.out.symm, rfl⟩
end Go.Proofs.YtjcgkihkjjaefaaGreatDoor
namespace Go.Proofs.YtjcgkihkjjaefaaGreatDoor
open Go.RowKit

set_option maxRecDepth 100000 in
set_option maxHeartbeats 1000000 in
theorem parts_any (s : ByteArray) (w : World) (hs : s.size ≤ maxLen) :
    Calls Tryz.prog 79 #[.string s] w fun e w' => e = .returned (partsV s.data.toList) ∧ w' = w := by
  unfold maxLen at hs
  obtain ⟨l, hl⟩ : ∃ l, s.data.toList = l := ⟨_, rfl⟩
  have HL := hid hl
  clear hl
  go_enter Tryz.func79, Tryz.ntmps79
  rw [HL.out]
  go_upto_region 1 with fail
  go_cut [7] from 13 (fun v wx => v = .bool (pNeg l) ∧ wx = w)
  case first =>
    by_cases he : s.data.toList = []
    · have h1 := emp_yes s he
      have H := hid (show pNeg l = false by rw [← HL.out, he]; rfl)
      clear he
      go_wp2_with fail
      go_meet
      exact ⟨by rw [H.out], rfl⟩
    · have h1 := emp_no s he
      have h0 := emp_size s he
      have E := hid (getD_at s 0 h0)
      clear he
      by_cases hm : s[0].toNat = 45
      · have h2 : ((s[0].toNat : Int) == 45) = true := byte_is _ _ hm
        have H := hid (show pNeg l = true by rw [← HL.out]; unfold pNeg; rw [E.out, hm]; rfl)
        clear hm
        go_wp2_with fail
        go_meet
        exact ⟨by rw [H.out], rfl⟩
      · have h2 : ((s[0].toNat : Int) == 45) = false := byte_not _ _ hm
        have H := hid (show pNeg l = false by rw [← HL.out]; unfold pNeg; rw [E.out]; simp [hm])
        clear hm
        go_wp2_with fail
        go_meet
        exact ⟨by rw [H.out], rfl⟩
  case rest =>
  obtain ⟨rfl, rfl⟩ := hcut
  go_upto_if 20 with fail
  go_cut [0, 7] from 13 (fun v y wx => ∃ u : ByteArray, v = .string u ∧ y = .bool (pNeg l) ∧ Hid (u.data.toList = pU l) ∧ u.size ≤ 2 ^ 63 - 1 ∧ wx = wc)
  case first =>
    cases hn : pNeg l
    · go_wp2_with fail
      go_meet
      exact ⟨s, rfl, by rw [hn], show s.data.toList = pU l by rw [HL.out]; unfold pU; rw [hn]; rfl, hs, rfl⟩
    · have h1 : 1 ≤ s.size := by
        have h2 := first_is s 45 (by rw [HL.out]; exact of_decide_eq_true hn) (by decide)
        exact emp_size s h2
      go_wp2_with fail
      go_meet
      exact ⟨s.extract 1 s.size, rfl, by rw [hn], show (s.extract 1 s.size).data.toList = pU l by rw [drop_list, HL.out]; unfold pU; rw [hn]; rfl, by rw [ByteArray.size_extract]; omega, rfl⟩
  case rest =>
  obtain ⟨u, rfl, rfl, HU, hus, rfl⟩ := hcut
  have hr := runN_le u.data.toList
  rw [size_list] at hr
  obtain ⟨n, hn⟩ : ∃ n, runN u.data.toList = n := ⟨_, rfl⟩
  have HN := hid hn
  rw [hn] at hr
  obtain ⟨x, hx⟩ : ∃ x, u.extract 0 n = x := ⟨_, rfl⟩
  obtain ⟨y, hy⟩ : ∃ y, u.extract n u.size = y := ⟨_, rfl⟩
  have HX := hid (show x.data.toList = pW l by rw [← hx, cut_list, ← hn, runN_take, HU.out]; rfl)
  have HY := hid (show y.data.toList = pR l by rw [← hy, drop_list, ← hn, runN_drop, HU.out]; rfl)
  have hys : y.size ≤ 2 ^ 63 - 1 := by rw [← hy, ByteArray.size_extract]; omega
  have hxs : x.size ≤ 2 ^ 63 - 1 := by rw [← hx, ByteArray.size_extract]; omega
  clear hn
  go_upto_region 7 with (go_at_call 102; go_must (refine (run_any _ _ hus).mono ?_; rintro e w' ⟨rfl, hw⟩; obtain rfl := hw.symm; rw [HN.out]))
  go_cut [42] from 13 (fun v wx => v = .bool (!pWok l) ∧ wx = wc)
  case first =>
    by_cases he : x.data.toList = []
    · have h1 := emp_yes x he
      have H := hid (show pWok l = false by unfold pWok; rw [← HX.out, he]; rfl)
      clear he
      go_wp2_with fail
      go_meet
      exact ⟨by rw [H.out]; rfl, rfl⟩
    · have h1 := emp_no x he
      have h0 := emp_size x he
      have E := hid (getD_at x 0 h0)
      have HE := hid he
      have HS := hid (size_list x)
      clear he
      by_cases h2 : 1 < x.size
      · by_cases hm : x[0].toNat = 48
        · have h2 : ((x[0].toNat : Int) == 48) = true := byte_is _ _ hm
          have H := hid (show pWok l = false by unfold pWok; rw [← HX.out, E.out, hm, HS.out]; simp; omega)
          clear hm
          go_wp2_with fail
          go_meet
          exact ⟨by rw [H.out]; rfl, rfl⟩
        · have h2 : ((x[0].toNat : Int) == 48) = false := byte_not _ _ hm
          have H := hid (show pWok l = true by unfold pWok; rw [← HX.out, E.out]; simp [hm]; simpa using HE.out)
          clear hm
          go_wp2_with fail
          go_meet
          exact ⟨by rw [H.out]; rfl, rfl⟩
      · have H := hid (show pWok l = true by unfold pWok; rw [← HX.out, HS.out]; simp [h2]; simpa using HE.out)
        go_wp2_with fail
        go_meet
        exact ⟨by rw [H.out]; rfl, rfl⟩
  case rest =>
  obtain ⟨rfl, rfl⟩ := hcut
  cases hW : pWok l with
  | false =>
    go_wp2_with fail
    refine bodyPost_ret (results_tmp5 rfl _ _ _) rfl ⟨?_, rfl⟩
    rw [partsV_no l (Or.inl hW)]; rfl
  | true =>
  go_upto_region 10 with fail
  go_cut [49] from 13 (fun v wx => v = .bool (pDot l) ∧ wx = wc)
  case first =>
    by_cases he : y.data.toList = []
    · have h1 := emp_yes y he
      have H := hid (show pDot l = false by unfold pDot; rw [← HY.out, he]; rfl)
      clear he
      go_wp2_with fail
      go_meet
      exact ⟨by rw [H.out], rfl⟩
    · have h1 := emp_no y he
      have h0 := emp_size y he
      have E := hid (getD_at y 0 h0)
      clear he
      by_cases hm : y[0].toNat = 46
      · have h2 : ((y[0].toNat : Int) == 46) = true := byte_is _ _ hm
        have H := hid (show pDot l = true by unfold pDot; rw [← HY.out, E.out, hm]; rfl)
        clear hm
        go_wp2_with fail
        go_meet
        exact ⟨by rw [H.out], rfl⟩
      · have h2 : ((y[0].toNat : Int) == 46) = false := byte_not _ _ hm
        have H := hid (show pDot l = false by unfold pDot; rw [← HY.out, E.out]; simp [hm])
        clear hm
        go_wp2_with fail
        go_meet
        exact ⟨by rw [H.out], rfl⟩
  case rest =>
  obtain ⟨rfl, rfl⟩ := hcut
  go_upto_if 49 with fail
  go_cut [0, 10] from 13 (fun v g wx => ∃ z f : ByteArray, v = .string z ∧ g = .string f ∧ Hid (z.data.toList = pS l) ∧ Hid (f.data.toList = pF l) ∧ Hid (pFok l = true) ∧ z.size ≤ 2 ^ 63 - 1 ∧ wx = wc)
  case first =>
    cases hD : pDot l with
    | false =>
      have H1 := hid (show pS l = pR l by unfold pS; rw [hD]; rfl)
      have H2 := hid (show pF l = [] by unfold pF; rw [hD]; rfl)
      have H3 := hid (show pFok l = true by unfold pFok; rw [hD]; rfl)
      go_wp2_with fail
      go_meet
      exact ⟨y, ⟨#[]⟩, rfl, rfl, HY.out.trans H1.out.symm, H2.out.symm, H3, hys, rfl⟩
    | true =>
      have h1 : 1 ≤ y.size := emp_size y (first_is y 46 (by rw [HY.out]; exact of_decide_eq_true hD) (by decide))
      obtain ⟨y1, hy1⟩ : ∃ x, y.extract 1 y.size = x := ⟨_, rfl⟩
      have hl1 : y1.data.toList = (pR l).drop 1 := by rw [← hy1, drop_list, HY.out]
      have hs1 : y1.size = y.size - 1 := by rw [← hy1, ByteArray.size_extract]; omega
      have hs1' : y1.size ≤ 2 ^ 63 - 1 := by omega
      have hr1 := runN_le y1.data.toList
      rw [size_list] at hr1
      obtain ⟨m, hm⟩ : ∃ m, runN y1.data.toList = m := ⟨_, rfl⟩
      have HM := hid hm
      rw [hm] at hr1
      have hm1 : 1 + m ≤ y.size := by omega
      obtain ⟨f, hf⟩ : ∃ x, y.extract 1 (1 + m) = x := ⟨_, rfl⟩
      obtain ⟨z, hz⟩ : ∃ x, y.extract (1 + m) y.size = x := ⟨_, rfl⟩
      have HF := hid (show f.data.toList = pF l by
        rw [← hf]; unfold pF; rw [hD, if_pos rfl, ← runN_take, ← hl1, hm, hl1, ← HY.out]; simp)
      have HZ := hid (show z.data.toList = pS l by
        rw [← hz, drop_list]; unfold pS; rw [hD, if_pos rfl, ← runN_drop, ← hl1, hm, hl1, ← HY.out, List.drop_drop])
      have hzs : z.size ≤ 2 ^ 63 - 1 := by rw [← hz, ByteArray.size_extract]; omega
      clear hm hl1 hs1
      by_cases he : f.data.toList = []
      · have h2 := emp_yes f he
        have H := hid (show pFok l = false by unfold pFok; rw [hD, ← HF.out, he]; rfl)
        clear he
        go_wp2_with (go_at_call 102; go_must (refine (run_any _ _ hs1').mono ?_; rintro e w' ⟨rfl, hw⟩; obtain rfl := hw.symm; rw [HM.out]))
        refine bodyPost_ret (results_tmp5 rfl _ _ _) rfl ⟨?_, rfl⟩
        rw [partsV_no l (Or.inr (Or.inl H.out))]; rfl
      · have h2 := emp_no f he
        have H := hid (show pFok l = true by unfold pFok; rw [hD, ← HF.out]; simp; simpa using he)
        clear he
        go_wp2_with (go_at_call 102; go_must (refine (run_any _ _ hs1').mono ?_; rintro e w' ⟨rfl, hw⟩; obtain rfl := hw.symm; rw [HM.out]))
        go_meet
        exact ⟨z, f, by first | rfl | rw [hz], by rw [hf], HZ, HF, H, hzs, rfl⟩
  case rest =>
  obtain ⟨z, f, rfl, rfl, HZ, HF, HFO, hzs, rfl⟩ := hcut
  by_cases he : z.data.toList = []
  · have h2 := emp_yes z he
    have H := hid (show pEok l = true by unfold pEok; rw [← HZ.out, he]; rfl)
    have H2 := hid (show pP l = [] by unfold pP; rw [← HZ.out, he]; rfl)
    clear he
    go_wp2_with fail
    refine bodyPost_ret (results_tmp5 rfl _ _ _) rfl ⟨?_, rfl⟩
    rw [partsV_yes l hW HFO.out H.out, H2.out, mkS_of x _ HX.out, mkS_of f _ HF.out]; rfl
  · have h2 := emp_no z he
    have h0 := emp_size z he
    have E := hid (getD_at z 0 h0)
    have HE := hid (show ¬ pS l = [] by rw [← HZ.out]; exact he)
    clear he
    go_upto_region 18 with fail
    go_cut [75] from 13 (fun v wx => v = .bool (!pE l) ∧ wx = wc)
    case first =>
      by_cases h5 : z[0].toNat = 101
      · have h6 : ((z[0].toNat : Int) != 101) = false := byte_nis _ _ h5
        have H := hid (show pE l = true by unfold pE; rw [← HZ.out, E.out, h5]; rfl)
        clear h5
        go_wp2_with fail
        go_meet
        exact ⟨by rw [H.out]; rfl, rfl⟩
      · have h6 : ((z[0].toNat : Int) != 101) = true := byte_nnot _ _ h5
        by_cases h7 : z[0].toNat = 69
        · have h8 : ((z[0].toNat : Int) != 69) = false := byte_nis _ _ h7
          have H := hid (show pE l = true by unfold pE; rw [← HZ.out, E.out, h7]; rfl)
          clear h5 h7
          go_wp2_with fail
          go_meet
          exact ⟨by rw [H.out]; rfl, rfl⟩
        · have h8 : ((z[0].toNat : Int) != 69) = true := byte_nnot _ _ h7
          have H := hid (show pE l = false by unfold pE; rw [← HZ.out, E.out]; simp [h5, h7])
          clear h5 h7
          go_wp2_with fail
          go_meet
          exact ⟨by rw [H.out]; rfl, rfl⟩
    case rest =>
    obtain ⟨rfl, rfl⟩ := hcut
    cases hE : pE l with
    | false =>
      have H := hid (show pEok l = false by unfold pEok; rw [hE]; simp [HE.out])
      go_wp2_with fail
      refine bodyPost_ret (results_tmp5 rfl _ _ _) rfl ⟨?_, rfl⟩
      rw [partsV_no l (Or.inr (Or.inr H.out))]; rfl
    | true =>
    obtain ⟨p, hp⟩ : ∃ x, z.extract 1 z.size = x := ⟨_, rfl⟩
    have HP := hid (show p.data.toList = pP l by rw [← hp, drop_list, HZ.out]; rfl)
    have hps : p.size ≤ 2 ^ 63 - 1 := by rw [← hp, ByteArray.size_extract]; omega
    go_upto_region 22 with fail
    go_cut [90] from 13 (fun v wx => v = .bool (pSg (pP l)) ∧ wx = wc)
    case first =>
      by_cases he : p.data.toList = []
      · have h3 := emp_yes p he
        have H := hid (show pSg (pP l) = false by rw [← HP.out, he]; rfl)
        clear he
        go_wp2_with fail
        go_meet
        exact ⟨by rw [H.out], rfl⟩
      · have h3 := emp_no p he
        have h4 := emp_size p he
        have E4 := hid (getD_at p 0 h4)
        clear he
        by_cases h5 : p[0].toNat = 43
        · have h6 : ((p[0].toNat : Int) == 43) = true := byte_is _ _ h5
          have H := hid (show pSg (pP l) = true by unfold pSg; rw [← HP.out, E4.out, h5]; rfl)
          clear h5
          go_wp2_with fail
          go_meet
          exact ⟨by rw [H.out], rfl⟩
        · have h6 : ((p[0].toNat : Int) == 43) = false := byte_not _ _ h5
          by_cases h7 : p[0].toNat = 45
          · have h8 : ((p[0].toNat : Int) == 45) = true := byte_is _ _ h7
            have H := hid (show pSg (pP l) = true by unfold pSg; rw [← HP.out, E4.out, h7]; rfl)
            clear h5 h7
            go_wp2_with fail
            go_meet
            exact ⟨by rw [H.out], rfl⟩
          · have h8 : ((p[0].toNat : Int) == 45) = false := byte_not _ _ h7
            have H := hid (show pSg (pP l) = false by unfold pSg; rw [← HP.out, E4.out]; simp [h5, h7])
            clear h5 h7
            go_wp2_with fail
            go_meet
            exact ⟨by rw [H.out], rfl⟩
    case rest =>
    obtain ⟨rfl, rfl⟩ := hcut
    go_upto_if 90 with fail
    go_cut [12] from 13 (fun v wx => ∃ d : ByteArray, v = .string d ∧ Hid (d.data.toList = pD (pP l)) ∧ d.size ≤ 2 ^ 63 - 1 ∧ wx = wc)
    case first =>
      cases hG : pSg (pP l) with
      | false =>
        have H := hid (show pD (pP l) = pP l by unfold pD; rw [hG]; rfl)
        go_wp2_with fail
        go_meet
        exact ⟨p, rfl, HP.out.trans H.out.symm, hps, rfl⟩
      | true =>
        have H := hid (show pD (pP l) = (pP l).drop 1 by unfold pD; rw [hG]; rfl)
        have h1 : 1 ≤ p.size := emp_size p (by
          rw [HP.out]; intro hc; rw [hc] at hG; exact absurd hG (by decide))
        go_wp2_with fail
        go_meet
        exact ⟨p.extract 1 p.size, rfl, show _ = _ by rw [drop_list, HP.out, H.out], by rw [ByteArray.size_extract]; omega, rfl⟩
    case rest =>
    obtain ⟨d, rfl, HD, hds, rfl⟩ := hcut
    have hrd := runN_le d.data.toList
    rw [size_list] at hrd
    have HSD := hid (size_list d)
    by_cases he : d.data.toList = []
    · have h3 := emp_yes d he
      have H := hid (show pEok l = false by unfold pEok; rw [← HD.out, he]; simp [HE.out])
      clear he
      go_wp2_with fail
      refine bodyPost_ret (results_tmp5 rfl _ _ _) rfl ⟨?_, rfl⟩
      rw [partsV_no l (Or.inr (Or.inr H.out))]; rfl
    · have h3 := emp_no d he
      have HE2 := hid he
      clear he
      by_cases hq : runN d.data.toList = d.size
      · have H := hid (show pEok l = true by unfold pEok; rw [hE, ← HD.out, HSD.out, hq]; simp; exact Or.inr (by simpa using HE2.out))
        have HQ := hid hq
        clear hq
        go_wp2_with (go_at_call 102; go_must (refine (run_any _ _ hds).mono ?_; rintro e w' ⟨rfl, hw⟩; obtain rfl := hw.symm; rw [HQ.out]))
        refine bodyPost_ret (results_tmp5 rfl _ _ _) rfl ⟨?_, rfl⟩
        rw [partsV_yes l hW HFO.out H.out, mkS_of x _ HX.out, mkS_of f _ HF.out, mkS_of p _ HP.out]; rfl
      · have hq' : ((runN d.data.toList : Int) != (d.size : Int)) = true := by rw [bne_iff_ne]; omega
        have H := hid (show pEok l = false by unfold pEok; rw [← HD.out, HSD.out]; simp [HE.out, hq])
        clear hq
        go_wp2_with (go_at_call 102; go_must (refine (run_any _ _ hds).mono ?_; rintro e w' ⟨rfl, hw⟩; obtain rfl := hw.symm))
        refine bodyPost_ret (results_tmp5 rfl _ _ _) rfl ⟨?_, rfl⟩
        rw [partsV_no l (Or.inr (Or.inr H.out))]; rfl
end Go.Proofs.YtjcgkihkjjaefaaGreatDoor
namespace Go.Proofs.YtjcgkihkjjaefaaGreatDoor
open Go.RowKit

theorem parts_yes (s : ByteArray) (w : World) (hs : s.size ≤ maxLen) (h : pOk s.data.toList = true) :
    Calls Tryz.prog 79 #[.string s] w fun e w' => e = .returned (.tuple #[.bool (pNeg s.data.toList), .string (mkS (pW s.data.toList)), .string (mkS (pF s.data.toList)), .string (mkS (pP s.data.toList)), .bool true]) ∧ w' = w := by
  refine (parts_any s w hs).mono ?_
  rintro e w' ⟨rfl, rfl⟩
  exact ⟨by unfold partsV; rw [h]; rfl, rfl⟩
theorem parts_none (s : ByteArray) (w : World) (hs : s.size ≤ maxLen) (h : pOk s.data.toList = false) :
    Calls Tryz.prog 79 #[.string s] w fun e w' => e = .returned (.tuple #[.bool false, .string ⟨#[]⟩, .string ⟨#[]⟩, .string ⟨#[]⟩, .bool false]) ∧ w' = w := by
  refine (parts_any s w hs).mono ?_
  rintro e w' ⟨rfl, rfl⟩
  exact ⟨by unfold partsV; rw [h]; rfl, rfl⟩
theorem power_mk (l : List UInt8) (w : World) (hs : l.length ≤ maxLen) :
    Calls Tryz.prog 82 #[.string (mkS l)] w fun e w' => e = .returned (.tuple #[.int .i64 (pwV l), .bool (pwOk l)]) ∧ w' = w := by
  have := power_any (mkS l) w (by rw [mkS_size]; exact hs)
  rwa [mkS_list] at this
set_option maxRecDepth 100000 in
set_option maxHeartbeats 400000 in
theorem form_any (s : ByteArray) (w : World) (hs : s.size ≤ maxLen) :
    Calls Tryz.prog 80 #[.string s] w fun e w' => e = .returned (.tuple #[.bool (pOk s.data.toList), .bool (pOk s.data.toList && !pwOk (pP s.data.toList))]) ∧ w' = w := by
  have HP := hid (show (pP s.data.toList).length ≤ maxLen by have := parts_len s.data.toList; rw [size_list] at this; omega)
  cases hp : pOk s.data.toList with
  | false =>
    go_enter Tryz.func80, Tryz.ntmps80
    go_wp2_with (first
      | (go_at_call 79; go_must (refine (parts_none _ _ hs hp).mono ?_; rintro e w' ⟨rfl, hw⟩; obtain rfl := hw.symm))
      | (go_at_call 82; go_must (refine (power_any _ _ (by decide)).mono ?_; rintro e w' ⟨rfl, hw⟩; obtain rfl := hw.symm)))
    go_ret2
    exact ⟨rfl, rfl⟩
  | true =>
    cases hq : pwOk (pP s.data.toList)
    all_goals
      go_enter Tryz.func80, Tryz.ntmps80
      go_wp2_with (first
        | (go_at_call 79; go_must (refine (parts_yes _ _ hs hp).mono ?_; rintro e w' ⟨rfl, hw⟩; obtain rfl := hw.symm))
        | (go_at_call 82; go_must (refine (power_mk _ _ HP.out).mono ?_; rintro e w' ⟨rfl, hw⟩; obtain rfl := hw.symm)))
      go_ret2
      exact ⟨rfl, rfl⟩
set_option maxRecDepth 100000 in
set_option maxHeartbeats 400000 in
theorem number_any (s : ByteArray) (w : World) (hs : s.size ≤ maxLen) :
    Calls Tryz.prog 51 #[.string s] w fun e w' => e = .returned (.bool (numB s.data.toList)) ∧ w' = w := by
  have HZ := hid (size_list s)
  cases hp : pOk s.data.toList with
  | false =>
    have H := hid (show numB s.data.toList = false by unfold numB; rw [hp]; rfl)
    go_enter Tryz.func51, Tryz.ntmps51
    go_wp2_with (go_at_call 80; go_must (refine (form_any _ _ hs).mono ?_; rintro e w' ⟨rfl, hw⟩; obtain rfl := hw.symm; rw [hp]))
    go_ret
    exact ⟨ret_bool H.out.symm, rfl⟩
  | true =>
    cases hq : pwOk (pP s.data.toList) with
    | false =>
      have H := hid (show numB s.data.toList = false by unfold numB; rw [hp, hq]; rfl)
      go_enter Tryz.func51, Tryz.ntmps51
      go_wp2_with (go_at_call 80; go_must (refine (form_any _ _ hs).mono ?_; rintro e w' ⟨rfl, hw⟩; obtain rfl := hw.symm; rw [hp, hq]))
      go_ret
      exact ⟨ret_bool H.out.symm, rfl⟩
    | true =>
      by_cases h4 : s.size ≤ 400
      · have H := hid (show numB s.data.toList = true by unfold numB; rw [hp, hq, HZ.out]; simpa using h4)
        go_enter Tryz.func51, Tryz.ntmps51
        go_wp2_with (go_at_call 80; go_must (refine (form_any _ _ hs).mono ?_; rintro e w' ⟨rfl, hw⟩; obtain rfl := hw.symm; rw [hp, hq]))
        go_ret
        exact ⟨ret_bool (by rw [H.out]; simp; omega), rfl⟩
      · have H := hid (show numB s.data.toList = false by unfold numB; rw [hp, hq, HZ.out]; simpa using h4)
        go_enter Tryz.func51, Tryz.ntmps51
        go_wp2_with (go_at_call 80; go_must (refine (form_any _ _ hs).mono ?_; rintro e w' ⟨rfl, hw⟩; obtain rfl := hw.symm; rw [hp, hq]))
        go_ret
        exact ⟨ret_bool (by rw [H.out]; simp; omega), rfl⟩
def szOf (v : Value) : Nat := match v with | .string x => x.size | _ => 0
end Go.Proofs.YtjcgkihkjjaefaaGreatDoor
namespace Go.Proofs.YtjcgkihkjjaefaaGreatDoor
open Go.RowKit

theorem num_ok {l : List UInt8} (h : numB l = true) : pOk l = true := by
  unfold numB at h; simp only [Bool.and_eq_true] at h; exact h.1.1
theorem num_len {l : List UInt8} (h : numB l = true) : l.length ≤ 400 := by
  unfold numB at h; simp only [Bool.and_eq_true, decide_eq_true_eq] at h; exact h.2
theorem emp_mk_yes (l : List UInt8) (h : l = []) : (mkS l).toList.isEmpty = true := emp_yes _ (by rw [mkS_list]; exact h)
theorem emp_mk_no (l : List UInt8) (h : ¬ l = []) : (mkS l).toList.isEmpty = false := emp_no _ (by rw [mkS_list]; exact h)
end Go.Proofs.YtjcgkihkjjaefaaGreatDoor
namespace Go.Proofs.YtjcgkihkjjaefaaGreatDoor
open Go.RowKit

theorem tw_dig (x : List UInt8) (k : Nat) (h : k < (x.takeWhile isD).length) : isD ((x.takeWhile isD).getD k 0) = true := by
  rw [List.getD, List.getElem?_eq_getElem h, Option.getD_some]
  exact List.all_eq_true.1 (List.all_takeWhile (p := isD) (l := x)) _ (List.getElem_mem h)
theorem neg_tdiv (d : Int) (h : d ≤ 9 ) : (-9223372036854775808 + d).tdiv 10 = -((9223372036854775808 - d) / 10) := by
  rw [show -9223372036854775808 + d = -(9223372036854775808 - d) by omega, Int.neg_tdiv, Int.tdiv_eq_ediv_of_nonneg (by omega)]
set_option maxRecDepth 100000 in
set_option maxHeartbeats 1000000 in
theorem int_any (s : ByteArray) (w : World) (hs : s.size ≤ maxLen) :
    Calls Tryz.prog 50 #[.string s] w fun e w' => e = .returned (.tuple #[.int .i64 (intV s.data.toList), .bool (intB s.data.toList)]) ∧ w' = w := by
  have hN := hid (fun w => number_any s w hs)
  have hP := hid (fun w h => parts_yes s w hs h)
  have hT := Lib.toList_data s
  obtain ⟨l, hl⟩ : ∃ l, s.data.toList = l := ⟨_, rfl⟩
  rw [hl] at hN hP hT ⊢
  clear hl
  by_cases hn : numB l = true ∧ ¬ l = [45, 48]
  · obtain ⟨hn, hm⟩ := hn
    have h1 : (l == [45, 48]) = false := by simpa using hm
    have HP := hid (fun w => hP.out w (num_ok hn))
    have hl4 := num_len hn
    have hpl := parts_len l
    by_cases hf : pF l = []
    · have h2 := emp_mk_yes _ hf
      by_cases hp : pP l = []
      · have h3 := emp_mk_yes _ hp
        obtain ⟨x, hx⟩ : ∃ x, mkS (pW l) = x := ⟨_, rfl⟩
        have HXL := hid (show x.data.toList = pW l by rw [← hx]; exact mkS_list _)
        have hxs : x.size ≤ 1000 := by rw [← hx, mkS_size]; omega
        have HD := hid (fun k (hk : k < x.size) => show isD x[k] = true by
          have hk' : k < (pW l).length := by rw [← HXL.out, size_list]; exact hk
          have := tw_dig (pU l) k hk'
          rw [← getD_at x k hk, HXL.out]; exact this)
        have HB := hid (show intB l = (if pNeg l then decide (pval (pW l) ≤ 9223372036854775808) else decide (pval (pW l) < 9223372036854775808)) by unfold intB; rw [hn]; simp [hm, hf, hp])
        rw [hx] at HP
        clear hm hf hp hx
        go_enter Tryz.func50, Tryz.ntmps50
        go_wp2_with (first
          | (go_at_call 51; go_must (refine (hN.out _).mono ?_; rintro e w' ⟨rfl, hw⟩; obtain rfl := hw.symm; rw [hn]))
          | (go_at_call 79; go_must (refine (HP.out _).mono ?_; rintro e w' ⟨rfl, hw⟩; obtain rfl := hw.symm)))
        go_loop [9, 10] (fun v i => ∃ k : Nat, v = .int .i64 (-(pval ((pW l).take k) : Int)) ∧ i = .int .i64 k ∧ k ≤ x.size ∧ pval ((pW l).take k) ≤ 9223372036854775808) (fun _ i => x.size - (intOf i).toNat)
        case atStart => exact ⟨0, rfl, rfl, Nat.zero_le _, by simp [pval]⟩
        case round =>
          obtain ⟨k, rfl, rfl, hk, hv⟩ := hrel
          by_cases hlt : k < x.size
          · have hd := HD.out k hlt
            have hb := isD_bd hd
            have HV := hid (show pval ((pW l).take (k + 1)) = 10 * pval ((pW l).take k) + (x[k].toNat - 48) by
              rw [pval_take _ k (by rw [← HXL.out, size_list]; exact hlt), ← HXL.out, getD_at x k hlt, hd]; rfl)
            obtain ⟨V, hV⟩ : ∃ V, pval ((pW l).take k) = V := ⟨_, rfl⟩
            rw [hV] at hv HV ⊢
            have ht := neg_tdiv ((x[k].toNat : Int) - 48) (by omega)
            have HM := hid (show pval ((pW l).take (k + 1)) ≤ pval (pW l) from pval_le _ _)
            clear hV hd
            by_cases hg : 10 * V + (x[k].toNat - 48) ≤ 9223372036854775808
            · have ho : (-9223372036854775808 + ((x[k].toNat : Int) - 48)).tdiv 10 ≤ -(V : Int) := by rw [ht]; omega
              have hg' : 10 * (V : Int) + ((x[k].toNat : Int) - 48) ≤ 9223372036854775808 := by omega
              clear ht
              go_wp2_with fail
              go_round
              case rel => exact ⟨k + 1, val_int (by rw [HV.out]; omega), by go_num, hlt, by rw [HV.out]; exact hg⟩
              case measure => simp [intOf]; omega
            · have ho : -(V : Int) < (-9223372036854775808 + ((x[k].toNat : Int) - 48)).tdiv 10 := by rw [ht]; omega
              have HG := hid (show intB l = false by
                have h5 := HM.out; rw [HV.out] at h5
                rw [HB.out]; split <;> simp <;> omega)
              clear ht
              go_wp2_with fail
              go_ret2
              exact ⟨ret_ib (by unfold intV; rw [HG.out]; rfl) HG.out.symm, rfl⟩
          · have HE := hid (show (pW l).take k = pW l from List.take_of_length_le (by rw [← HXL.out, size_list]; omega))
            rw [HE.out] at hv ⊢
            obtain ⟨V, hV⟩ : ∃ V, pval (pW l) = V := ⟨_, rfl⟩
            rw [hV] at hv HB ⊢
            have HV := hid hV
            clear hV
            cases hng : pNeg l with
            | true =>
              have HG := hid (show intB l = true by rw [HB.out, hng, if_pos rfl]; simpa using hv)
              go_wp2_with fail
              go_ret2
              exact ⟨ret_ib (by unfold intV; rw [HG.out, hng, HV.out]; rfl) HG.out.symm, rfl⟩
            | false =>
              by_cases hq : V = 9223372036854775808
              · have HG := hid (show intB l = false by rw [HB.out, hng, hq]; rfl)
                have hq' : (-(V : Int) == -9223372036854775808) = true := by rw [hq]; rfl
                clear hq
                go_wp2_with fail
                go_ret2
                exact ⟨ret_ib (by unfold intV; rw [HG.out]; rfl) HG.out.symm, rfl⟩
              · have hlt' : V < 9223372036854775808 := by omega
                have HG := hid (show intB l = true by rw [HB.out, hng]; simpa using hlt')
                have hq' : (-(V : Int) == -9223372036854775808) = false := by rw [beq_eq_false_iff_ne]; omega
                clear hq
                go_wp2_with fail
                go_ret2
                exact ⟨ret_ib (by unfold intV; rw [HG.out, hng, HV.out]; simp) HG.out.symm, rfl⟩
      · have h3 := emp_mk_no _ hp
        have HG := hid (show intB l = false by unfold intB; simp [hp])
        clear hf hp hm
        go_enter Tryz.func50, Tryz.ntmps50
        go_wp2_with (first
          | (go_at_call 51; go_must (refine (hN.out _).mono ?_; rintro e w' ⟨rfl, hw⟩; obtain rfl := hw.symm; rw [hn]))
          | (go_at_call 79; go_must (refine (HP.out _).mono ?_; rintro e w' ⟨rfl, hw⟩; obtain rfl := hw.symm)))
        go_ret2
        exact ⟨ret_ib (by unfold intV; rw [HG.out]; rfl) HG.out.symm, rfl⟩
    · have h3 := emp_mk_no _ hf
      have HG := hid (show intB l = false by unfold intB; simp [hf])
      clear hf hm
      go_enter Tryz.func50, Tryz.ntmps50
      go_wp2_with (first
        | (go_at_call 51; go_must (refine (hN.out _).mono ?_; rintro e w' ⟨rfl, hw⟩; obtain rfl := hw.symm; rw [hn]))
        | (go_at_call 79; go_must (refine (HP.out _).mono ?_; rintro e w' ⟨rfl, hw⟩; obtain rfl := hw.symm)))
      go_ret2
      exact ⟨ret_ib (by unfold intV; rw [HG.out]; rfl) HG.out.symm, rfl⟩
  · cases hq : numB l with
    | false =>
      have HG := hid (show intB l = false by unfold intB; rw [hq]; rfl)
      clear hn
      go_enter Tryz.func50, Tryz.ntmps50
      go_wp2_with (go_at_call 51; go_must (refine (hN.out _).mono ?_; rintro e w' ⟨rfl, hw⟩; obtain rfl := hw.symm; rw [hq]))
      go_ret2
      exact ⟨ret_ib (by unfold intV; rw [HG.out]; rfl) HG.out.symm, rfl⟩
    | true =>
      have hm : l = [45, 48] := Classical.byContradiction fun h => hn ⟨hq, h⟩
      have h1 : (l == [45, 48]) = true := by rw [hm]; rfl
      have HG := hid (show intB l = false by unfold intB; rw [hm]; simp)
      clear hn hm
      go_enter Tryz.func50, Tryz.ntmps50
      go_wp2_with (go_at_call 51; go_must (refine (hN.out _).mono ?_; rintro e w' ⟨rfl, hw⟩; obtain rfl := hw.symm; rw [hq]))
      go_ret2
      exact ⟨ret_ib (by unfold intV; rw [HG.out]; rfl) HG.out.symm, rfl⟩
end Go.Proofs.YtjcgkihkjjaefaaGreatDoor
