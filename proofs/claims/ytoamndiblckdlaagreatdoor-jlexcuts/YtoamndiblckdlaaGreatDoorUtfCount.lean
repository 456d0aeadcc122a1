import Derived.Test.YtoamndiblckdlaaGreatDoorUtfStride
namespace Go.Proofs.YtoamndiblckdlaaGreatDoor
open Go.RowKit

set_option maxRecDepth 100000 in
set_option maxHeartbeats 400000 in
theorem count_any (s : ByteArray) (w : World) (hs : s.size ≤ maxLen) :
    Calls Tryz.prog 42 #[.string s] w fun e w' => e = .returned (.int .i64 (cnt s.data.toList)) ∧ w' = w := by
  have HS := hid hs
  have HZ := hid (size_list s)
  unfold maxLen at hs
  go_enter Tryz.func42, Tryz.ntmps42
  go_wp2
  go_loop [3, 4] (fun c i => ∃ k : Nat, c = .int .i64 k ∧ i = .int .i64 (pos s.data.toList k) ∧ pos s.data.toList k ≤ s.size) (fun _ i => s.size - (intOf i).toNat)
  case atStart => exact ⟨0, rfl, rfl, Nat.zero_le _⟩
  case round =>
    obtain ⟨k, rfl, rfl, hp⟩ := hrel
    have hk := pos_ge s.data.toList k
    have hz := HZ.out
    by_cases hlt : pos s.data.toList k < s.size
    · have hn := pos_next s.data.toList k (by omega)
      have hl := stp_pos (s.data.toList.drop (pos s.data.toList k))
      have hn' : pos s.data.toList k + stp (s.data.toList.drop (pos s.data.toList k)) ≤ s.size := by simp only [pos] at hn; omega
      clear hz hn
      go_wp2_with (first | (go_at_call 55; go_must (refine (stride_at _ _ _ HS.out).mono ?_; rintro e w' ⟨rfl, rfl⟩)))
      go_round
      case rel => exact ⟨k + 1, by go_num, val_int (pos_succ _ _), by simp only [pos]; omega⟩
      case measure => simp [intOf]; omega
    · have hc := hid (at_cnt s.data.toList k (by omega))
      clear hz
      go_wp2
      go_ret
      exact ⟨ret_int (by rw [← hc.out]), rfl⟩
end Go.Proofs.YtoamndiblckdlaaGreatDoor
