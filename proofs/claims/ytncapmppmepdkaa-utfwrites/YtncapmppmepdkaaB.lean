import Derived.Test.YtncapmppmepdkaaA
namespace Go.Proofs.Ytncapmppmepdkaa
open Go.RowKit

theorem take_none (s : ByteArray) (w : World) (h0 : s.size = 0) :
    Calls Try.prog 9 #[.string s] w fun e w' => e = .returned (.tuple #[.int .i64 (tkR s.data.toList), .int .i64 (tkN s.data.toList)]) ∧ w' = w := by
  have e : s.data.toList = [] := by
    have : s.data.toList.length = 0 := by simpa using h0
    exact List.length_eq_zero_iff.1 this
  rw [e]
  have hz : ((s.size : Int) == 0) = true := by simp [h0]
  clear e h0
  go_enter Try.func9, Try.ntmps9
  go_wp2
  go_ret2
  exact ⟨rfl, rfl⟩

theorem take_tests (F n : Nat) : ((goodN F && decide (wdN F = n)) = true → goodB (F : Int) = true ∧ (wdI (F : Int) != (n : Int)) = false)
    ∧ ((goodN F && decide (wdN F = n)) = false → goodB (F : Int) = false ∨ (goodB (F : Int) = true ∧ (wdI (F : Int) != (n : Int)) = true)) := by
  rw [goodB_goodN]
  have hw : wdI (F : Int) = (wdN F : Int) := wdI_wdN F
  rw [hw]
  cases goodN F <;> simp <;> omega

set_option maxRecDepth 100000 in
set_option maxHeartbeats 400000 in
theorem take_any (s : ByteArray) (w : World) (hs : s.size ≤ maxLen) (h0 : 0 < s.size) :
    Calls Try.prog 9 #[.string s] w fun e w' => e = .returned (.tuple #[.int .i64 (tkR s.data.toList), .int .i64 (tkN s.data.toList)]) ∧ w' = w := by
  unfold maxLen at hs
  have hb : s[0].toNat < 256 := s[0].toNat_lt
  have hz : ((s.size : Int) == 0) = false := by rw [beq_eq_false_iff_ne]; omega
  by_cases hn : begN s[0].toNat = 0 ∨ s.size < begN s[0].toNat
  · have hno : tkOk s[0] (s.data.toList.drop 1) = false := by
      rw [tkOk_of s h0]; rcases hn with h | h
      · simp [h]
      · have : ¬ begN s[0].toNat ≤ s.size := by omega
        simp [this]
    obtain ⟨e1, e2⟩ := tk_no s h0 hno
    rw [e1, e2]
    clear hno e1 e2
    by_cases hn1 : begN s[0].toNat = 0
    all_goals
      go_enter Try.func9, Try.ntmps9
      go_wp2_with (first | (go_at_call 20; go_must (refine (begin_any _ hb _).mono ?_; rintro e w' ⟨rfl, rfl⟩)))
      go_ret2
      exact ⟨rfl, rfl⟩
  · obtain ⟨hn1, hn2⟩ : begN s[0].toNat ≠ 0 ∧ begN s[0].toNat ≤ s.size := by omega
    have hn0 : (((begN s[0].toNat : Nat) : Int) == 0) = false := by simp; omega
    have hn4 := begN_le s[0].toNat
    clear hn
    go_enter Try.func9, Try.ntmps9
    go_wp2_with (first | (go_at_call 20; go_must (refine (begin_any _ hb _).mono ?_; rintro e w' ⟨rfl, rfl⟩)))
    go_loop [4, 6] (fun r i => ∃ k : Nat, 1 ≤ k ∧ k ≤ begN s[0].toNat ∧ i = .int .i64 k ∧ r = .int .i64 (fol (begR s[0].toNat) (rest s k)) ∧ (rest s k).all cont = true) (fun _ i => begN s[0].toNat - (intOf i).toNat)
    case atStart => exact ⟨1, by omega, by omega, rfl, by simp [rest, fol], by simp [rest]⟩
    case round =>
      obtain ⟨k, hk1, hk2, rfl, rfl, hall⟩ := hrel
      have hfs := fol_small s[0].toNat (rest s k) hall (by have := rest_len s k; omega)
      by_cases hlt : k < begN s[0].toNat
      · have hks : k < s.size := by omega
        have hcb := cont_test s[k]
        have hp := (and_parts s[k].toNat s[k].toNat_lt).2.2.2
        by_cases hc : cont s[k] = true
        · rw [hc] at hcb
          simp only [Bool.not_true] at hcb
          have HF := hid (fol_step s s[0].toNat k hk1 hks hc hfs)
          have HA := hid (all_step s k hk1 hks hc hall)
          go_wp2
          go_round
          case rel => exact ⟨k + 1, by omega, by omega, by go_num, by rw [HF.out], HA.out⟩
          case measure => simp [intOf]; omega
        · have hc' : cont s[k] = false := by simpa using hc
          rw [hc'] at hcb
          simp only [Bool.not_false] at hcb
          have hno : tkOk s[0] (s.data.toList.drop 1) = false := by
            rw [tkOk_of s h0, all_no s k _ hk1 hlt hks hc']; simp
          have E := hid (tk_no s h0 hno)
          clear hno hc hc'
          go_wp2
          go_ret2
          exact ⟨ret_two (by rw [E.out.1]; rfl) (by rw [E.out.2]; rfl), rfl⟩
      · obtain rfl : k = begN s[0].toNat := by omega
        have hok := tkOk_of s h0
        rw [hall, decide_eq_true (show begN s[0].toNat ≠ 0 ∧ begN s[0].toNat ≤ s.size by omega)] at hok
        have ht := take_tests (fol (begR s[0].toNat) (rest s (begN s[0].toNat))) (begN s[0].toNat)
        by_cases hyes : tkOk s[0] (s.data.toList.drop 1) = true
        · rw [hyes] at hok
          obtain ⟨hg, hw⟩ := ht.1 (by simpa using hok)
          have E := hid (tk_yes s h0 hyes)
          clear hok ht hyes
          go_wp2_with (first | (go_at_call 12; go_must (refine (good_any _ _).mono ?_; rintro e w' ⟨rfl, rfl⟩)) | (go_at_call 21; go_must (refine (width_any _ _).mono ?_; rintro e w' ⟨rfl, rfl⟩)))
          go_ret2
          exact ⟨ret_two (by rw [E.out.1]) (by rw [E.out.2]), rfl⟩
        · have hno : tkOk s[0] (s.data.toList.drop 1) = false := by simpa using hyes
          rw [hno] at hok
          have ht2 := ht.2 (by simpa using hok)
          have E := hid (tk_no s h0 hno)
          clear hok ht hyes hno
          rcases ht2 with hg | ⟨hg, hw⟩
          all_goals
            go_wp2_with (first | (go_at_call 12; go_must (refine (good_any _ _).mono ?_; rintro e w' ⟨rfl, rfl⟩)) | (go_at_call 21; go_must (refine (width_any _ _).mono ?_; rintro e w' ⟨rfl, rfl⟩)))
            go_ret2
            exact ⟨ret_two (by rw [E.out.1]; rfl) (by rw [E.out.2]; rfl), rfl⟩

theorem take_all (s : ByteArray) (w : World) (hs : s.size ≤ maxLen) :
    Calls Try.prog 9 #[.string s] w fun e w' => e = .returned (.tuple #[.int .i64 (tkR s.data.toList), .int .i64 (tkN s.data.toList)]) ∧ w' = w := by
  by_cases h : s.size = 0
  · exact take_none s w h
  · exact take_any s w hs (by omega)

set_option maxRecDepth 100000 in
set_option maxHeartbeats 400000 in
theorem stride_any (s : ByteArray) (w : World) (hs : s.size ≤ maxLen) :
    Calls Try.prog 22 #[.string s] w fun e w' => e = .returned (.int .i64 (stp s.data.toList)) ∧ w' = w := by
  go_enter Try.func22, Try.ntmps22
  go_wp2_with (first | (go_at_call 9; go_must (refine (take_all _ _ hs).mono ?_; rintro e w' ⟨rfl, rfl⟩)))
  all_goals
    go_ret
    exact ⟨ret_int (by unfold stp; omega), rfl⟩
theorem cut_size (s : ByteArray) (p : Nat) (hs : s.size ≤ maxLen) : (s.extract p s.size).size ≤ maxLen := by
  have : (s.extract p s.size).size ≤ s.size := by simp
  exact Nat.le_trans this hs
theorem take_at (s : ByteArray) (p : Nat) (w : World) (hs : s.size ≤ maxLen) :
    Calls Try.prog 9 #[.string (s.extract p s.size)] w fun e w' => e = .returned (.tuple #[.int .i64 (tkR (s.data.toList.drop p)), .int .i64 (tkN (s.data.toList.drop p))]) ∧ w' = w := by
  have h := take_all (s.extract p s.size) w (cut_size s p hs)
  rw [drop_list] at h
  exact h
theorem stride_at (s : ByteArray) (p : Nat) (w : World) (hs : s.size ≤ maxLen) :
    Calls Try.prog 22 #[.string (s.extract p s.size)] w fun e w' => e = .returned (.int .i64 (stp (s.data.toList.drop p))) ∧ w' = w := by
  have h := stride_any (s.extract p s.size) w (cut_size s p hs)
  rw [drop_list] at h
  exact h

theorem val_int {k : IntKind} {a b : Int} (h : a = b) : Value.int k a = Value.int k b := by rw [h]
theorem ret_ib {k : IntKind} {a b : Int} {c d : Bool} (h : a = b) (g : c = d) : Ending.returned (.tuple #[.int k a, .bool c]) = .returned (.tuple #[.int k b, .bool d]) := by rw [h, g]

set_option maxRecDepth 100000 in
set_option maxHeartbeats 400000 in
theorem count_any (s : ByteArray) (w : World) (hs : s.size ≤ maxLen) :
    Calls Try.prog 17 #[.string s] w fun e w' => e = .returned (.int .i64 (cnt s.data.toList)) ∧ w' = w := by
  have HS := hid hs
  have HZ := hid (size_list s)
  unfold maxLen at hs
  go_enter Try.func17, Try.ntmps17
  go_wp2
  go_loop [3, 4] (fun c i => ∃ k : Nat, c = .int .i64 k ∧ i = .int .i64 (pos s.data.toList k) ∧ pos s.data.toList k ≤ s.size) (fun _ i => s.size - (intOf i).toNat)
  case atStart => exact ⟨0, rfl, rfl, Nat.zero_le _⟩
  case round =>
    obtain ⟨k, rfl, rfl, hp⟩ := hrel
    have hk := pos_ge s.data.toList k
    have hz := HZ.out
    by_cases hlt : pos s.data.toList k < s.size
    · have hn := pos_next s.data.toList k (by omega)
      have hl := stp_pos (s.data.toList.drop (pos s.data.toList k))
      have hn' : pos s.data.toList k + stp (s.data.toList.drop (pos s.data.toList k)) ≤ s.size := by simp only [pos] at hn; omega
      clear hz hn
      go_wp2_with (first | (go_at_call 22; go_must (refine (stride_at _ _ _ HS.out).mono ?_; rintro e w' ⟨rfl, rfl⟩)))
      go_round
      case rel => exact ⟨k + 1, by go_num, val_int (pos_succ _ _), by simp only [pos]; omega⟩
      case measure => simp [intOf]; omega
    · have hc := hid (at_cnt s.data.toList k (by omega))
      clear hz
      go_wp2
      go_ret
      exact ⟨ret_int (by rw [← hc.out]), rfl⟩

set_option maxRecDepth 100000 in
set_option maxHeartbeats 400000 in
theorem valid_any (s : ByteArray) (w : World) (hs : s.size ≤ maxLen) :
    Calls Try.prog 10 #[.string s] w fun e w' => e = .returned (.tuple #[.int .i64 (pos s.data.toList (vlk s.data.toList)), .bool (decide (pos s.data.toList (vlk s.data.toList) = s.size))]) ∧ w' = w := by
  have HS := hid hs
  have HZ := hid (size_list s)
  unfold maxLen at hs
  go_enter Try.func10, Try.ntmps10
  go_wp2
  go_loop [4] (fun i => ∃ k : Nat, i = .int .i64 (pos s.data.toList k) ∧ pos s.data.toList k ≤ s.size ∧ ∀ j < k, vgo s.data.toList j = true) (fun i => s.size - (intOf i).toNat)
  case atStart => exact ⟨0, rfl, Nat.zero_le _, fun j hj => absurd hj (Nat.not_lt_zero j)⟩
  case round =>
    obtain ⟨k, rfl, hp, hj⟩ := hrel
    have hk := pos_ge s.data.toList k
    have HJ := hid hj
    clear hj
    have hz := HZ.out
    by_cases hlt : pos s.data.toList k < s.size
    · by_cases h0 : tkN (s.data.toList.drop (pos s.data.toList k)) = 0
      · have HC := hid (vlk_eq s.data.toList k (by simp [vgo, h0]) HJ.out (by omega))
        have h0' : (((tkN (s.data.toList.drop (pos s.data.toList k)) : Nat) : Int) == 0) = true := by rw [h0]; rfl
        clear hz h0
        go_wp2_with (first | (go_at_call 9; go_must (refine (take_at _ _ _ HS.out).mono ?_; rintro e w' ⟨rfl, rfl⟩)))
        go_ret2
        exact ⟨ret_ib (by rw [← HC.out]) (by rw [← HC.out, decide_eq_false (by omega)]), rfl⟩
      · have hn := pos_next s.data.toList k (by omega)
        have HV := hid (show vgo s.data.toList k = true by simp only [vgo, Bool.and_eq_true, decide_eq_true_eq]; exact ⟨by omega, h0⟩)
        have h0' : (((tkN (s.data.toList.drop (pos s.data.toList k)) : Nat) : Int) == 0) = false := by rw [beq_eq_false_iff_ne]; omega
        have hn' : pos s.data.toList k + tkN (s.data.toList.drop (pos s.data.toList k)) ≤ s.size := by simp only [pos, stp] at hn; omega
        have H0 := hid h0
        clear hz hn h0
        go_wp2_with (first | (go_at_call 9; go_must (refine (take_at _ _ _ HS.out).mono ?_; rintro e w' ⟨rfl, rfl⟩)))
        go_round
        case rel =>
          have h0 := H0.out
          refine ⟨k + 1, val_int (pos_succ' _ _ h0), by simp only [pos, stp]; omega, fun j hj => ?_⟩
          by_cases hjk : j = k
          · rw [hjk]; exact HV.out
          · exact HJ.out j (by omega)
        case measure => have h0 := H0.out; simp [intOf]; omega
    · have HC := hid (vlk_eq s.data.toList k (by simp [vgo]; omega) HJ.out (by omega))
      clear hz
      go_wp2
      go_ret2
      exact ⟨ret_ib (by rw [← HC.out]) (by rw [← HC.out, decide_eq_true (by omega)]), rfl⟩

set_option maxRecDepth 100000 in
set_option maxHeartbeats 400000 in
theorem at_any (s : ByteArray) (n : Int) (w : World) (hs : s.size ≤ maxLen) (hn : n ≤ 2 ^ 63 - 1) :
    Calls Try.prog 11 #[.string s, .int .i64 n] w fun e w' => e = .returned (.tuple #[.int .i64 (atP s.data.toList n), .bool (atB s.data.toList n)]) ∧ w' = w := by
  have HS := hid hs
  have HZ := hid (size_list s)
  unfold maxLen at hs
  by_cases hneg : n < 0
  · have E := hid (at_neg s.data.toList n hneg)
    go_enter Try.func11, Try.ntmps11
    go_wp2
    go_ret2
    exact ⟨ret_ib (by rw [E.out.1]) (by rw [E.out.2]), rfl⟩
  · go_enter Try.func11, Try.ntmps11
    go_wp2
    go_loop [1, 6] (fun m i => ∃ k : Nat, m = .int .i64 (n - k) ∧ (k : Int) ≤ n ∧ i = .int .i64 (pos s.data.toList k) ∧ pos s.data.toList k ≤ s.size) (fun m _ => (intOf m).toNat)
    case atStart => exact ⟨0, by simp, by omega, rfl, Nat.zero_le _⟩
    case round =>
      obtain ⟨k, rfl, hkn, rfl, hp⟩ := hrel
      have hk := pos_ge s.data.toList k
      have hz := HZ.out
      by_cases hlt : (k : Int) < n
      · by_cases hend : pos s.data.toList k = s.size
        · have E := hid (at_end s.data.toList n k (by omega) hlt)
          have ht : (((pos s.data.toList k : Nat) : Int) == ((s.size : Nat) : Int)) = true := by rw [hend]; simp
          clear hend hz
          go_wp2
          go_ret2
          exact ⟨ret_ib (by rw [E.out.1]) (by rw [E.out.2]), rfl⟩
        · have ht : (((pos s.data.toList k : Nat) : Int) == ((s.size : Nat) : Int)) = false := by rw [beq_eq_false_iff_ne]; omega
          have hn2 := pos_next s.data.toList k (by omega)
          have hl := stp_pos (s.data.toList.drop (pos s.data.toList k))
          have hn' : pos s.data.toList k + stp (s.data.toList.drop (pos s.data.toList k)) ≤ s.size := by simp only [pos] at hn2; omega
          clear hz hn2 hend
          go_wp2_with (first | (go_at_call 22; go_must (refine (stride_at _ _ _ HS.out).mono ?_; rintro e w' ⟨rfl, rfl⟩)))
          go_round
          case rel => exact ⟨k + 1, val_int (by omega), by omega, val_int (pos_succ _ _), by simp only [pos]; omega⟩
          case measure => simp [intOf]; omega
      · obtain rfl : n = (k : Int) := by omega
        have E := hid (at_there s.data.toList k (by omega))
        clear hz
        go_wp2
        go_ret2
        exact ⟨ret_ib (by rw [E.out.1]) (by rw [E.out.2]), rfl⟩
end Go.Proofs.Ytncapmppmepdkaa
