import Derived.Test.YtmgbnjadfhjbfaaRefTake
namespace Go.Proofs.Ytmgbnjadfhjbfaa
open Go.RowKit

/-- where the first byte stands that begins no letter; -1: there is none -/
def rvI (l : List UInt8) : Int := if pos l (vlk l) = l.length then -1 else (pos l (vlk l) : Int)
set_option maxRecDepth 100000 in
set_option maxHeartbeats 400000 in
theorem rvalid_any (s : ByteArray) (w : World) (hs : s.size ≤ maxLen) :
    Calls Try.prog 14 #[.string s] w fun e w' => e = .returned (.int .i64 (rvI s.data.toList)) ∧ Below w.heap.size w w' := by
  have HS := hid hs
  have HZ := hid (size_list s)
  unfold maxLen at hs
  go_enter Try.func14, Try.ntmps14
  go_wp2
  go_loopw [3] (fun i wr => ∃ k : Nat, i = .int .i64 (pos s.data.toList k) ∧ pos s.data.toList k ≤ s.size ∧ (∀ j < k, vgo s.data.toList j = true) ∧ Below w.heap.size w wr) (fun i _ => s.size - (intOf i).toNat)
  case atStart => exact ⟨0, rfl, Nat.zero_le _, fun j hj => absurd hj (Nat.not_lt_zero j), Below.refl _ _⟩
  case round =>
    obtain ⟨k, rfl, hp, hj, hbel⟩ := hrel
    have hk := pos_ge s.data.toList k
    have HJ := hid hj
    have HB := hid hbel
    clear hj hbel
    have hz := HZ.out
    by_cases hlt : pos s.data.toList k < s.size
    · by_cases h0 : tkN (s.data.toList.drop (pos s.data.toList k)) = 0
      · have HC := hid (vlk_eq s.data.toList k (by simp [vgo, h0]) HJ.out (by omega))
        have h0' : (((tkN (s.data.toList.drop (pos s.data.toList k)) : Nat) : Int) == 0) = true := by rw [h0]; rfl
        clear hz h0
        go_wp2_with (first | (go_at_call 22; go_must (refine (rtake_at _ _ _ HS.out).mono ?_; rintro e w' ⟨rfl, hb'⟩)))
        go_ret
        exact ⟨ret_int (by have hz := HZ.out; unfold rvI; rw [← HC.out, if_neg (by omega)]), HB.out.trans (hb'.mono HB.out.size)⟩
      · have hn := pos_next s.data.toList k (by omega)
        have HV := hid (show vgo s.data.toList k = true by simp only [vgo, Bool.and_eq_true, decide_eq_true_eq]; exact ⟨by omega, h0⟩)
        have h0' : (((tkN (s.data.toList.drop (pos s.data.toList k)) : Nat) : Int) == 0) = false := by rw [beq_eq_false_iff_ne]; omega
        have hn' : pos s.data.toList k + tkN (s.data.toList.drop (pos s.data.toList k)) ≤ s.size := by simp only [pos, stp] at hn; omega
        have H0 := hid h0
        clear hz hn h0
        go_wp2_with (first | (go_at_call 22; go_must (refine (rtake_at _ _ _ HS.out).mono ?_; rintro e w' ⟨rfl, hb'⟩)))
        go_roundw
        case rel =>
          have h0 := H0.out
          refine ⟨k + 1, val_int (pos_succ' _ _ h0), by simp only [pos, stp]; omega, fun j hj => ?_, HB.out.trans (hb'.mono HB.out.size)⟩
          by_cases hjk : j = k
          · rw [hjk]; exact HV.out
          · exact HJ.out j (by omega)
        case measure => have h0 := H0.out; simp [intOf]; omega
    · have HC := hid (vlk_eq s.data.toList k (by simp [vgo]; omega) HJ.out (by omega))
      clear hz
      go_wp2
      go_ret
      exact ⟨ret_int (by have hz := HZ.out; unfold rvI; rw [← HC.out, if_pos (by omega)]), HB.out⟩
theorem rv_yes (l : List UInt8) (h : pos l (vlk l) = l.length) : rvI l = -1 := by unfold rvI; rw [if_pos h]
theorem rv_no (l : List UInt8) (h : ¬ pos l (vlk l) = l.length) : rvI l = (pos l (vlk l) : Int) := by unfold rvI; rw [if_neg h]
end Go.Proofs.Ytmgbnjadfhjbfaa
