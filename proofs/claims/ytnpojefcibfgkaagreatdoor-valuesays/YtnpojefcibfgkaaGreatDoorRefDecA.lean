/- The document's own reckoning of numbers' texts, walked: digit, run, power, sign. -/
import Derived.Test.YtnpojefcibfgkaaGreatDoorBase
import Derived.Test.YtnpojefcibfgkaaGreatDoorMathDecAll
import Derived.Lib.Strings
namespace Go.Proofs.YtnpojefcibfgkaaGreatDoor
open Go.RowKit

set_option maxRecDepth 100000 in
set_option maxHeartbeats 400000 in
theorem digit_any (b : UInt8) (w : World) :
    Calls Tryz.prog 98 #[.int .u8 (b.toNat : Int)] w fun e w' => e = .returned (.bool (isD b)) ∧ w' = w := by
  have hb := b.toNat_lt
  by_cases h1 : 48 ≤ b.toNat
  · by_cases h2 : b.toNat ≤ 57
    · go_enter Tryz.func98, Tryz.ntmps98
      go_wp2
      go_ret
      exact ⟨ret_bool (by simp [isD, h1, h2]; omega), rfl⟩
    · go_enter Tryz.func98, Tryz.ntmps98
      go_wp2
      go_ret
      exact ⟨ret_bool (by simp [isD, h2]; omega), rfl⟩
  · go_enter Tryz.func98, Tryz.ntmps98
    go_wp2
    go_ret
    exact ⟨ret_bool (by simp [isD, h1]), rfl⟩
theorem emp_yes (d : ByteArray) (h : d.data.toList = []) : d.toList.isEmpty = true := by rw [Lib.toList_data, h]; rfl
theorem emp_no (d : ByteArray) (h : ¬ d.data.toList = []) : d.toList.isEmpty = false := by
  rw [Lib.toList_data]; cases hd : d.data.toList with
  | nil => exact absurd hd h
  | cons => rfl
theorem emp_size (d : ByteArray) (h : ¬ d.data.toList = []) : 0 < d.size := by
  have := size_list d
  cases hd : d.data.toList with
  | nil => exact absurd hd h
  | cons a l => rw [hd] at this; simp at this; omega
set_option maxRecDepth 100000 in
set_option maxHeartbeats 400000 in
theorem sign_any (n : Bool) (d : ByteArray) (w : World) :
    Calls Tryz.prog 71 #[.bool n, .string d] w fun e w' => e = .returned (.int .i64 (sgI n d.data.toList)) ∧ w' = w := by
  by_cases h : d.data.toList = []
  · have h1 := emp_yes d h
    have H := hid h
    clear h
    go_enter Tryz.func71, Tryz.ntmps71
    go_wp2
    go_ret
    exact ⟨ret_int (by simp [sgI, H.out]), rfl⟩
  · have h1 := emp_no d h
    have H := hid h
    clear h
    cases n
    all_goals
      go_enter Tryz.func71, Tryz.ntmps71
      go_wp2
      go_ret
      exact ⟨ret_int (by simp [sgI, H.out]), rfl⟩
set_option maxRecDepth 100000 in
set_option maxHeartbeats 400000 in
theorem run_any (s : ByteArray) (w : World) (hs : s.size ≤ maxLen) :
    Calls Tryz.prog 72 #[.string s] w fun e w' => e = .returned (.int .i64 (runN s.data.toList)) ∧ w' = w := by
  unfold maxLen at hs
  have hr := runN_le s.data.toList
  rw [size_list] at hr
  go_enter Tryz.func72, Tryz.ntmps72
  go_wp2_with fail
  go_loop [3] (fun x => ∃ k : Nat, x = .int .i64 k ∧ k ≤ runN s.data.toList) (fun x => s.size - (intOf x).toNat)
  case atStart => exact ⟨0, rfl, Nat.zero_le _⟩
  case round =>
    obtain ⟨k, rfl, hk⟩ := hrel
    by_cases hlt : k < s.size
    · have E := hid (getD_at s k hlt)
      by_cases hd : k < runN s.data.toList
      · have hD : isD s[k] = true := by rw [← E.out]; exact runN_lt _ _ hd
        go_wp2_with (go_at_call 98; go_must (refine (digit_any _ _).mono ?_; rintro e w' ⟨rfl, rfl⟩))
        go_round
        case rel => exact ⟨k + 1, by go_num, hd⟩
        case measure => simp [intOf]; omega
      · have hk' : k = runN s.data.toList := by omega
        have hD : isD s[k] = false := by
          rw [← E.out, hk']; exact runN_at _ (by rw [size_list]; omega)
        have HK := hid hk'
        clear hk'
        go_wp2_with (go_at_call 98; go_must (refine (digit_any _ _).mono ?_; rintro e w' ⟨rfl, rfl⟩))
        go_ret
        exact ⟨ret_int (by rw [← HK.out]), rfl⟩
    · have HK := hid (show k = runN s.data.toList by omega)
      go_wp2_with fail
      go_ret
      exact ⟨ret_int (by rw [← HK.out]), rfl⟩
theorem sub48 (b : UInt8) (h : isD b = true) : ((b.toNat : Int) - 48) = ((b.toNat - 48 : Nat) : Int) := by have := isD_bd h; omega
set_option maxRecDepth 100000 in
set_option maxHeartbeats 400000 in
theorem power_any (s : ByteArray) (w : World) (hs : s.size ≤ maxLen) :
    Calls Tryz.prog 73 #[.string s] w fun e w' => e = .returned (.tuple #[.int .i64 (pwV s.data.toList), .bool (pwOk s.data.toList)]) ∧ w' = w := by
  unfold maxLen at hs
  have HZ := hid (size_list s)
  go_enter Tryz.func73, Tryz.ntmps73
  go_wp2_with fail
  go_loop [4, 5] (fun v x => ∃ k : Nat, v = .int .i64 (pval (s.data.toList.take k)) ∧ x = .int .i64 k ∧ k ≤ s.size ∧ pval (s.data.toList.take k) ≤ 100000) (fun _ x => s.size - (intOf x).toNat)
  case atStart => exact ⟨0, rfl, rfl, Nat.zero_le _, by simp [pval]⟩
  case round =>
    obtain ⟨k, rfl, rfl, hk, hv⟩ := hrel
    by_cases hlt : k < s.size
    · have E := hid (getD_at s k hlt)
      have P := hid (pval_take s.data.toList k (by rw [HZ.out]; exact hlt))
      cases hd : isD s[k] with
      | false =>
        have HP := hid (show pval (s.data.toList.take (k + 1)) = pval (s.data.toList.take k) by rw [P.out, E.out, hd]; rfl)
        go_wp2_with (go_at_call 98; go_must (refine (digit_any _ _).mono ?_; rintro e w' ⟨rfl, rfl⟩))
        go_round
        case rel => exact ⟨k + 1, by rw [HP.out], by go_num, hlt, by rw [HP.out]; exact hv⟩
        case measure => simp [intOf]; omega
      | true =>
        have hb := isD_bd hd
        have HP := hid (show ((pval (s.data.toList.take (k + 1)) : Nat) : Int) = 10 * (pval (s.data.toList.take k) : Int) + ((s[k].toNat : Int) - 48) by rw [P.out, E.out, hd]; simp; omega)
        by_cases hg : 10 * (pval (s.data.toList.take k) : Int) + ((s[k].toNat : Int) - 48) > 100000
        · have HN := hid (show pwOk s.data.toList = false by
            have h1 := pval_le s.data.toList (k + 1); have h2 := HP.out
            unfold pwOk; simp; omega)
          go_wp2_with (go_at_call 98; go_must (refine (digit_any _ _).mono ?_; rintro e w' ⟨rfl, rfl⟩))
          go_ret2
          exact ⟨ret_ib (by unfold pwV; rw [HN.out]; rfl) HN.out.symm, rfl⟩
        · go_wp2_with (go_at_call 98; go_must (refine (digit_any _ _).mono ?_; rintro e w' ⟨rfl, rfl⟩))
          go_round
          case rel => exact ⟨k + 1, val_int HP.out.symm, by go_num, hlt, by have := HP.out; omega⟩
          case measure => simp [intOf]; omega
    · have hk' : k = s.size := by omega
      have HE := hid (show s.data.toList.take k = s.data.toList by rw [hk', ← HZ.out, List.take_length])
      rw [HE.out] at hv ⊢
      have HO := hid (show pwOk s.data.toList = true by unfold pwOk; simpa using hv)
      clear hk'
      by_cases he : s.data.toList = []
      · have h1 := emp_yes s he
        have H := hid he
        clear he
        go_wp2_with fail
        go_ret2
        exact ⟨ret_ib (by unfold pwV; rw [HO.out, H.out]; rfl) HO.out.symm, rfl⟩
      · have h1 := emp_no s he
        have h0 := emp_size s he
        have E := hid (getD_at s 0 h0)
        clear he
        by_cases hm : s[0] = 45
        · have h2 : ((s[0].toNat : Int) == 45) = true := by rw [hm]; rfl
          have HM := hid (E.out.trans hm)
          clear hm
          go_wp2_with fail
          go_ret2
          exact ⟨ret_ib (by unfold pwV; rw [HO.out, HM.out]; rfl) HO.out.symm, rfl⟩
        · have h2 : ((s[0].toNat : Int) == 45) = false := by
            rw [beq_eq_false_iff_ne]; intro hc; apply hm; apply UInt8.toNat_inj.1; show _ = 45; omega
          have HM := hid (show ¬ s.data.toList.getD 0 0 = 45 by rw [E.out]; exact hm)
          clear hm
          go_wp2_with fail
          go_ret2
          exact ⟨ret_ib (by unfold pwV; rw [HO.out, if_neg HM.out]; rfl) HO.out.symm, rfl⟩
end Go.Proofs.YtnpojefcibfgkaaGreatDoor
