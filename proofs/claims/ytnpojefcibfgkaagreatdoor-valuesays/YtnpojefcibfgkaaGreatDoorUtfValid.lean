import Derived.Test.YtnpojefcibfgkaaGreatDoorUtfTake
namespace Go.Proofs.YtnpojefcibfgkaaGreatDoor
open Go.RowKit

set_option maxRecDepth 100000 in
set_option maxHeartbeats 400000 in
theorem valid_any (s : ByteArray) (w : World) (hs : s.size ≤ maxLen) :
    Calls Tryz.prog 63 #[.string s] w fun e w' => e = .returned (.tuple #[.int .i64 (pos s.data.toList (vlk s.data.toList)), .bool (decide (pos s.data.toList (vlk s.data.toList) = s.size))]) ∧ w' = w := by
  have HS := hid hs
  have HZ := hid (size_list s)
  unfold maxLen at hs
  go_enter Tryz.func63, Tryz.ntmps63
  go_wp2
  go_loop [4] (fun i => ∃ k : Nat, i = .int .i64 (pos s.data.toList k) ∧ pos s.data.toList k ≤ s.size ∧ ∀ j < k, vgo s.data.toList j = true) (fun i => s.size - (intOf i).toNat)
  case atStart => exact ⟨0, rfl, Nat.zero_le _, fun j hj => absurd hj (Nat.not_lt_zero j)⟩
  case round =>
    obtain ⟨k, rfl, hp, hj⟩ := hrel
    have hk := pos_ge s.data.toList k
    have HJ := hid hj
    clear hj
    have hz := HZ.out
    by_cases hlt : pos s.data.toList k < s.size
    · by_cases h0 : tkN (s.data.toList.drop (pos s.data.toList k)) = 0
      · have HC := hid (vlk_eq s.data.toList k (by simp [vgo, h0]) HJ.out (by omega))
        have h0' : (((tkN (s.data.toList.drop (pos s.data.toList k)) : Nat) : Int) == 0) = true := by rw [h0]; rfl
        clear hz h0
        go_wp2_with (first | (go_at_call 81; go_must (refine (take_at _ _ _ HS.out).mono ?_; rintro e w' ⟨rfl, rfl⟩)))
        go_ret2
        exact ⟨ret_ib (by rw [← HC.out]) (by rw [← HC.out, decide_eq_false (by omega)]), rfl⟩
      · have hn := pos_next s.data.toList k (by omega)
        have HV := hid (show vgo s.data.toList k = true by simp only [vgo, Bool.and_eq_true, decide_eq_true_eq]; exact ⟨by omega, h0⟩)
        have h0' : (((tkN (s.data.toList.drop (pos s.data.toList k)) : Nat) : Int) == 0) = false := by rw [beq_eq_false_iff_ne]; omega
        have hn' : pos s.data.toList k + tkN (s.data.toList.drop (pos s.data.toList k)) ≤ s.size := by simp only [pos, stp] at hn; omega
        have H0 := hid h0
        clear hz hn h0
        go_wp2_with (first | (go_at_call 81; go_must (refine (take_at _ _ _ HS.out).mono ?_; rintro e w' ⟨rfl, rfl⟩)))
        go_round
        case rel =>
          have h0 := H0.out
          refine ⟨k + 1, val_int (pos_succ' _ _ h0), by simp only [pos, stp]; omega, fun j hj => ?_⟩
          by_cases hjk : j = k
          · rw [hjk]; exact HV.out
          · exact HJ.out j (by omega)
        case measure => have h0 := H0.out; simp [intOf]; omega
    · have HC := hid (vlk_eq s.data.toList k (by simp [vgo]; omega) HJ.out (by omega))
      clear hz
      go_wp2
      go_ret2
      exact ⟨ret_ib (by rw [← HC.out]) (by rw [← HC.out, decide_eq_true (by omega)]), rfl⟩
end Go.Proofs.YtnpojefcibfgkaaGreatDoor
