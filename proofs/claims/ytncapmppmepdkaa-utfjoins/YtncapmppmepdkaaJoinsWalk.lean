/- The walk of UtfJoins, out of the contracts of what it calls. -/
import Derived.Test.YtncapmppmepdkaaG
import Derived.Test.YtncapmppmepdkaaJ
import Derived.OpenShut
namespace Go.Proofs.Ytncapmppmepdkaa
open Go.RowKit

theorem at_cases (l : List UInt8) (n : Int) : (n < 0 ∧ atP l n = 0 ∧ atB l n = false) ∨ (∃ m : Nat, n = (m : Int) ∧ m ≤ cnt l ∧ atP l (m : Int) = (pos l m : Int) ∧ atB l (m : Int) = true) ∨ ((cnt l : Int) < n ∧ atP l n = 0 ∧ atB l n = false) := by
  by_cases h1 : n < 0
  · exact Or.inl ⟨h1, at_neg l n h1⟩
  · by_cases h2 : (cnt l : Int) < n
    · exact Or.inr (Or.inr ⟨h2, at_end l n (cnt l) (cnt_has l).1 h2⟩)
    · obtain ⟨m, rfl⟩ := Int.eq_ofNat_of_zero_le (show 0 ≤ n by omega)
      have hm : m ≤ cnt l := by omega
      have hp := pos_mono l m (cnt l) hm
      rw [(cnt_has l).1] at hp
      exact Or.inr (Or.inl ⟨m, rfl, hm, at_there l m hp⟩)
theorem wrap64_le (x : Int) : wrap64 x ≤ 2 ^ 63 - 1 := by unfold wrap64; omega
theorem at_far (l : List UInt8) (c : Nat) (n : Int) (h : (cnt l : Int) < (c : Int) + n) (hc : c ≤ 200) (hn : n ≤ 2 ^ 63 - 1) : atP l (wrap64 ((c : Int) + n)) = 0 ∧ atB l (wrap64 ((c : Int) + n)) = false := by
  by_cases hlt : (c : Int) + n ≤ 2 ^ 63 - 1
  · have e : wrap64 ((c : Int) + n) = (c : Int) + n := by unfold wrap64; omega
    rw [e]
    exact at_end l _ (cnt l) (cnt_has l).1 h
  · exact at_neg l _ (by unfold wrap64; omega)
theorem add_list (a b : ByteArray) : (a ++ b).data.toList = a.data.toList ++ b.data.toList := by simp
theorem add_size (a b : ByteArray) : (a ++ b).size = a.size + b.size := by simp

theorem valid_join_c (a b : ByteArray) (w : World) (hab : (a ++ b).size ≤ maxLen) (h : pos (a.data.toList ++ b.data.toList) (vlk (a.data.toList ++ b.data.toList)) = (a.data.toList ++ b.data.toList).length) :
    Calls Try.prog 10 #[.string (a ++ b)] w fun e w' => e = .returned (.tuple #[.int .i64 ((a ++ b).size : Nat), .bool true]) ∧ w' = w := by
  have hv := valid_any (a ++ b) w hab
  rw [add_list, h] at hv
  have e : (a.data.toList ++ b.data.toList).length = (a ++ b).size := by simp
  rw [e] at hv
  simpa using hv
theorem count_join_c (a b : ByteArray) (w : World) (hab : (a ++ b).size ≤ maxLen) (h : cnt (a.data.toList ++ b.data.toList) = cnt a.data.toList + cnt b.data.toList) :
    Calls Try.prog 17 #[.string (a ++ b)] w fun e w' => e = .returned (.int .i64 ((cnt a.data.toList : Int) + (cnt b.data.toList : Int))) ∧ w' = w := by
  have hv := count_any (a ++ b) w hab
  rw [add_list, h, Int.natCast_add] at hv
  exact hv
theorem at_join_c (a b : ByteArray) (n m : Int) (w : World) (hab : (a ++ b).size ≤ maxLen) {B : Bool} (h : atB (a.data.toList ++ b.data.toList) n = B) (g : atP (a.data.toList ++ b.data.toList) n = m) (hn : n ≤ 2 ^ 63 - 1 := by omega) :
    Calls Try.prog 11 #[.string (a ++ b), .int .i64 n] w fun e w' => e = .returned (.tuple #[.int .i64 m, .bool B]) ∧ w' = w := by
  have hv := at_any (a ++ b) n w hab hn
  rw [add_list, h, g] at hv
  exact hv

set_option maxRecDepth 100000 in
set_option maxHeartbeats 1000000 in
theorem joins_walk (a b : ByteArray) (n : Int) (w0 : a.size ≤ maxLen) (w1 : b.size ≤ maxLen) (w2 : (Lit.int .i64 n).wf = true) (w : World) :
    Calls Try.prog 6 #[.string a, .string b, .int .i64 n] w fun e w' => e = .returned (.bool true) ∧ Below w.heap.size w w' := by
  by_cases hlen : a.size ≤ 200 ∧ b.size ≤ 200
  · obtain ⟨hla, hlb⟩ := hlen
    have hn63 : n ≤ 2 ^ 63 - 1 := (bounds_i64 w2).2
    go_enter Try.func6, Try.ntmps6
    go_wp2_with fail
    refine (awake_any _).mono ?_
    rintro e wa ⟨rfl, hba⟩
    go_wp2_with fail
    refine (valid_any _ _ w0).mono ?_
    rintro e wb ⟨rfl, hwb⟩
    obtain rfl := hwb.symm
    go_wp2_with fail
    refine (valid_any _ _ w1).mono ?_
    rintro e wb ⟨rfl, hwb⟩
    obtain rfl := hwb.symm
    by_cases hva : pos a.data.toList (vlk a.data.toList) = a.size
    · by_cases hvb : pos b.data.toList (vlk b.data.toList) = b.size
      · have ha := vld_of a.data.toList (by rw [hva, size_list])
        have hb := vld_of b.data.toList (by rw [hvb, size_list])
        have hvj := hid (vld_join _ _ ha hb)
        have hcj := hid (cnt_join a.data.toList b.data.toList ha)
        have haj := hid (at_join a.data.toList b.data.toList ha)
        have hca : cnt a.data.toList ≤ 200 := by have h1 := cnt_le a.data.toList; rw [size_list] at h1; omega
        have hcb : cnt b.data.toList ≤ 200 := by have h1 := cnt_le b.data.toList; rw [size_list] at h1; omega
        have hab : (a ++ b).size ≤ maxLen := by rw [add_size]; unfold maxLen; omega
        clear ha hb
        go_wp2_with fail
        refine (valid_join_c a b _ hab hvj.out).mono ?_
        rintro e wb ⟨rfl, hwb⟩
        obtain rfl := hwb.symm
        go_wp2_with fail
        refine (count_any _ _ w0).mono ?_
        rintro e wb ⟨rfl, hwb⟩
        obtain rfl := hwb.symm
        rcases at_cases b.data.toList n with ⟨hn, hP, hB⟩ | ⟨m, rfl, hm, hP, hB⟩ | ⟨hn, hP, hB⟩
        · go_wp2_with fail
          refine (at_any _ _ _ w1 hn63).mono ?_
          rintro e wb ⟨rfl, hwb⟩
          obtain rfl := hwb.symm
          go_wp2_with fail
          refine (at_any _ _ _ hab (wrap64_le _)).mono ?_
          rintro e wb ⟨rfl, hwb⟩
          obtain rfl := hwb.symm
          go_wp2_with (first | (go_at_call_of 17 (Value.string b); go_must (refine (count_any _ _ w1).mono ?_; rintro e w' ⟨rfl, hw'⟩; obtain rfl := hw'.symm)) | (go_at_call 17; go_must (refine (count_join_c a b _ hab hcj.out).mono ?_; rintro e w' ⟨rfl, hw'⟩; obtain rfl := hw'.symm)))
          go_ret
          exact ⟨rfl, hba⟩
        · have hpb : pos b.data.toList m ≤ 200 := by
            have h1 := pos_mono b.data.toList m _ hm
            rw [(cnt_has b.data.toList).1, size_list] at h1; omega
          have hj1 := (haj.out m).1.trans hB
          have hj2 := (haj.out m).2 hB
          rw [hP, size_list] at hj2
          go_wp2_with fail
          refine (at_any _ _ _ w1 hn63).mono ?_
          rintro e wb ⟨rfl, hwb⟩
          obtain rfl := hwb.symm
          go_wp2_with fail
          refine (at_join_c a b _ _ _ hab hj1 hj2).mono ?_
          rintro e wb ⟨rfl, hwb⟩
          obtain rfl := hwb.symm
          go_wp2_with (first | (go_at_call_of 17 (Value.string b); go_must (refine (count_any _ _ w1).mono ?_; rintro e w' ⟨rfl, hw'⟩; obtain rfl := hw'.symm)) | (go_at_call 17; go_must (refine (count_join_c a b _ hab hcj.out).mono ?_; rintro e w' ⟨rfl, hw'⟩; obtain rfl := hw'.symm)))
          go_ret
          exact ⟨rfl, hba⟩
        · go_wp2_with fail
          refine (at_any _ _ _ w1 hn63).mono ?_
          rintro e wb ⟨rfl, hwb⟩
          obtain rfl := hwb.symm
          have hfar := at_far (a.data.toList ++ b.data.toList) (cnt a.data.toList) n (by rw [hcj.out]; omega) (by omega) (by omega)
          go_wp2_with fail
          refine (at_join_c a b _ _ _ hab hfar.2 hfar.1 (wrap64_le _)).mono ?_
          rintro e wb ⟨rfl, hwb⟩
          obtain rfl := hwb.symm
          clear hfar
          go_wp2_with (first | (go_at_call_of 17 (Value.string b); go_must (refine (count_any _ _ w1).mono ?_; rintro e w' ⟨rfl, hw'⟩; obtain rfl := hw'.symm)) | (go_at_call 17; go_must (refine (count_join_c a b _ hab hcj.out).mono ?_; rintro e w' ⟨rfl, hw'⟩; obtain rfl := hw'.symm)))
          go_ret
          exact ⟨rfl, hba⟩
      · go_wp2_with fail
        go_ret
        exact ⟨rfl, hba⟩
    · go_wp2_with fail
      go_ret
      exact ⟨rfl, hba⟩
  · rcases (show (200 : Int) < a.size ∨ (((a.size : Nat) : Int) ≤ 200 ∧ (200 : Int) < b.size) by omega) with h | ⟨h, h'⟩
    all_goals
      go_enter Try.func6, Try.ntmps6
      go_wp2_with fail
      refine (awake_any _).mono ?_
      rintro e wa ⟨rfl, hba⟩
      go_wp2_with fail
      go_ret
      exact ⟨rfl, hba⟩
end Go.Proofs.Ytncapmppmepdkaa
