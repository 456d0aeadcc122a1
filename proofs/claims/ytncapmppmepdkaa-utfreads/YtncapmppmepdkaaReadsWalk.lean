/- The walk of UtfReads, out of the contracts of what it calls. -/
import Derived.Test.YtncapmppmepdkaaF
import Derived.Test.YtncapmppmepdkaaG
import Derived.OpenShut
namespace Go.Proofs.Ytncapmppmepdkaa
open Go.RowKit

theorem starts_at (s : ByteArray) (w : World) (hs : s.size ≤ 1000000) :
    Calls Try.prog 16 #[.string s] w fun e w' => ∃ g cap, e = .returned (.slice (some ⟨g, 0, none⟩) (cnt s.data.toList + 1) cap) ∧ (∀ j, j ≤ cnt s.data.toList → w'.cell? ⟨g, j, none⟩ = some (.int .i64 (pos s.data.toList j))) ∧ Below w.heap.size w w' := by
  refine (starts_any s w hs).mono fun e w' ⟨v, he, hown, hb⟩ => ?_
  have hs := hown
  rcases hs with ⟨-, h | ⟨g, cap, cur, rfl, -⟩⟩
  · exact absurd h.2 (by omega)
  · refine ⟨g, cap, he, fun j hj => ?_, hb⟩
    rw [hown.cellAt j (by omega)]
    have : j < cnt s.data.toList + 1 := by omega
    simp [startsV, this]
theorem rv_yes (l : List UInt8) (h : pos l (vlk l) = l.length) : rvI l = -1 := by unfold rvI; rw [if_pos h]
theorem rv_no (l : List UInt8) (h : ¬ pos l (vlk l) = l.length) : rvI l = (pos l (vlk l) : Int) := by unfold rvI; rw [if_neg h]

theorem reads_cases (l : List UInt8) (n : Int) : (n < 0 ∧ atP l n = 0 ∧ atB l n = false) ∨ (∃ m : Nat, n = (m : Int) ∧ m ≤ cnt l ∧ atP l (m : Int) = (pos l m : Int) ∧ atB l (m : Int) = true) ∨ ((cnt l : Int) < n ∧ atP l n = 0 ∧ atB l n = false) := by
  by_cases h1 : n < 0
  · exact Or.inl ⟨h1, at_neg l n h1⟩
  · by_cases h2 : (cnt l : Int) < n
    · exact Or.inr (Or.inr ⟨h2, at_end l n (cnt l) (cnt_has l).1 h2⟩)
    · obtain ⟨m, rfl⟩ := Int.eq_ofNat_of_zero_le (show 0 ≤ n by omega)
      have hm : m ≤ cnt l := by omega
      have hp := pos_mono l m (cnt l) hm
      rw [(cnt_has l).1] at hp
      exact Or.inr (Or.inl ⟨m, rfl, hm, at_there l m hp⟩)

set_option maxRecDepth 100000 in
set_option maxHeartbeats 1000000 in
theorem reads_walk (s : ByteArray) (n : Int) (w0 : s.size ≤ maxLen) (w1 : (Lit.int .i64 n).wf = true) (w : World) :
    Calls Try.prog 4 #[.string s, .int .i64 n] w fun e w' => e = .returned (.bool true) ∧ Below w.heap.size w w' := by
  by_cases hlen : s.size ≤ 400
  · have HZ := hid (size_list s)
    have hcn : cnt s.data.toList ≤ 400 := by have h1 := pos_ge s.data.toList (cnt s.data.toList); rw [(cnt_has s.data.toList).1, size_list] at h1; omega
    have hn63 : n ≤ 2 ^ 63 - 1 := (bounds_i64 w1).2
    go_enter Try.func4, Try.ntmps4
    go_wp2_with fail
    refine (awake_any _).mono ?_
    rintro e wa ⟨rfl, hba⟩
    go_wp2_with fail
    refine (take_all _ _ w0).mono ?_
    rintro e wb ⟨rfl, hwb⟩
    obtain rfl := hwb.symm
    go_wp2_with fail
    refine (rtake_all _ _ w0).mono ?_
    rintro e wb ⟨rfl, hbb⟩
    go_wp2_with fail
    refine (valid_any _ _ w0).mono ?_
    rintro e wc ⟨rfl, hwc⟩
    obtain rfl := hwc.symm
    go_wp2_with fail
    refine (rvalid_any _ _ w0).mono ?_
    rintro e wd ⟨rfl, hbd⟩
    have hrv : (pos s.data.toList (vlk s.data.toList) = s.size ∧ rvI s.data.toList = -1) ∨ (¬ pos s.data.toList (vlk s.data.toList) = s.size ∧ rvI s.data.toList = (pos s.data.toList (vlk s.data.toList) : Int)) := by
      have hz := HZ.out
      by_cases hv : pos s.data.toList (vlk s.data.toList) = s.size
      · exact Or.inl ⟨hv, rv_yes _ (by omega)⟩
      · exact Or.inr ⟨hv, rv_no _ (by omega)⟩
    have hd2 : decide (((pos s.data.toList (vlk s.data.toList) : Nat) : Int) < 0) = false := decide_eq_false (by omega)
    rcases hrv with ⟨hv, hrv⟩ | ⟨hv, hrv⟩
    all_goals
      go_wp2_with fail
      refine (starts_at _ _ (by omega)).mono ?_
      rintro e we ⟨g, cap, rfl, hcell, hbe⟩
      have HCL := hid hcell
      clear hcell
      go_wp2_with fail
      refine (at_any _ _ _ w0 hn63).mono ?_
      rintro e wf ⟨rfl, hwf⟩
      obtain rfl := hwf.symm
      rcases reads_cases s.data.toList n with ⟨hn, hP, hB⟩ | ⟨m, rfl, hm, hP, hB⟩ | ⟨hn, hP, hB⟩
      · go_wp2_with (first | (go_at_call 17; go_must (refine (count_any _ _ w0).mono ?_; rintro e w' ⟨rfl, hw'⟩; obtain rfl := hw'.symm)))
        go_ret
        exact ⟨rfl, ((hba.trans (hbb.mono hba.size)).trans (hbd.mono (Nat.le_trans hba.size hbb.size))).trans (hbe.mono (Nat.le_trans (Nat.le_trans hba.size hbb.size) hbd.size))⟩
      · have hc := HCL.out m hm
        go_wp2_with (first | (go_at_call 17; go_must (refine (count_any _ _ w0).mono ?_; rintro e w' ⟨rfl, hw'⟩; obtain rfl := hw'.symm)))
        go_ret
        exact ⟨rfl, ((hba.trans (hbb.mono hba.size)).trans (hbd.mono (Nat.le_trans hba.size hbb.size))).trans (hbe.mono (Nat.le_trans (Nat.le_trans hba.size hbb.size) hbd.size))⟩
      · have hd : decide (n < ((cnt s.data.toList : Nat) : Int) + 1) = false := decide_eq_false (by omega)
        have hd0 : decide (0 ≤ n) = true := decide_eq_true (by omega)
        go_wp2_with (first | (go_at_call 17; go_must (refine (count_any _ _ w0).mono ?_; rintro e w' ⟨rfl, hw'⟩; obtain rfl := hw'.symm)))
        go_ret
        exact ⟨rfl, ((hba.trans (hbb.mono hba.size)).trans (hbd.mono (Nat.le_trans hba.size hbb.size))).trans (hbe.mono (Nat.le_trans (Nat.le_trans hba.size hbb.size) hbd.size))⟩
  · go_enter Try.func4, Try.ntmps4
    go_wp2_with fail
    refine (awake_any _).mono ?_
    rintro e wa ⟨rfl, hba⟩
    go_wp2_with fail
    go_ret
    exact ⟨rfl, hba⟩
end Go.Proofs.Ytncapmppmepdkaa
