/- The library's searches, walked at the text of one line end: strings.Index, strings.Count, strings.LastIndex. -/
import Derived.Test.YtoamndiblckdlaaGreatDoorBase
import Derived.Test.YtoamndiblckdlaaGreatDoorMathPlace
import Derived.Lib.Walk
namespace Go.Proofs.YtoamndiblckdlaaGreatDoor
open Go.RowKit

set_option maxRecDepth 100000 in
set_option maxHeartbeats 400000 in
theorem ixByte_any (s : ByteArray) (w : World) :
    Calls Tryz.prog 56 #[.string s, .int .u8 10] w fun e w' => e = .returned (.int .i64 (Lib.indexByte s.data.toList 10)) ∧ w' = w := by
  go_enter Tryz.func56, Tryz.ntmps56
  go_wp2
  rw [run_callFunc_extern Tryz.func70 (by kernel_rfl) (by kernel_rfl) (by kernel_rfl) (e := Extern.BytealgIndexByte.indexByte) (by kernel_rfl), Lib.run_indexByteString]
  simp only [Result.andThen]
  rw [Oper.upon_value]
  go_wp2
  go_ret
  exact ⟨rfl, rfl⟩
set_option maxRecDepth 100000 in
set_option maxHeartbeats 400000 in
theorem ixLite_any (s : ByteArray) (w : World) :
    Calls Tryz.prog 79 #[.string s, .string ⟨#[10]⟩] w fun e w' => e = .returned (.int .i64 (Lib.indexByte s.data.toList 10)) ∧ w' = w := by
  go_enter Tryz.func79, Tryz.ntmps79
  go_wp2_with (go_at_call 56; go_must (refine (ixByte_any _ _).mono ?_; rintro e w' ⟨rfl, rfl⟩))
  · have h : ([10] == s.toList) = true := by assumption
    go_ret
    have e : s.data.toList = [10] := by rw [← Lib.toList_data]; exact (beq_iff_eq.1 h).symm
    exact ⟨ret_int (by rw [e]; rfl), rfl⟩
  · go_ret
    exact ⟨rfl, rfl⟩
set_option maxRecDepth 100000 in
set_option maxHeartbeats 400000 in
theorem ix_any (s : ByteArray) (w : World) :
    Calls Tryz.prog 68 #[.string s, .string ⟨#[10]⟩] w fun e w' => e = .returned (.int .i64 (Lib.indexByte s.data.toList 10)) ∧ w' = w := by
  go_enter Tryz.func68, Tryz.ntmps68
  go_wp2_with (go_at_call 79; go_must (refine (ixLite_any _ _).mono ?_; rintro e w' ⟨rfl, rfl⟩))
  go_ret
  exact ⟨rfl, rfl⟩
set_option maxRecDepth 100000 in
set_option maxHeartbeats 400000 in
theorem ct_any (s : ByteArray) (w : World) :
    Calls Tryz.prog 54 #[.string s, .string ⟨#[10]⟩] w fun e w' => e = .returned (.int .i64 (nls s.data.toList)) ∧ w' = w := by
  go_enter Tryz.func54, Tryz.ntmps54
  go_wp2
  rw [run_callFunc_extern Tryz.func67 (by kernel_rfl) (by kernel_rfl) (by kernel_rfl) (e := Extern.BytealgCount.count) (by kernel_rfl), Lib.run_countString]
  simp only [Result.andThen]
  rw [Oper.upon_value]
  go_wp2
  go_ret
  exact ⟨rfl, rfl⟩
set_option maxRecDepth 100000 in
set_option maxHeartbeats 400000 in
theorem lastByte_any (s : ByteArray) (w : World) (hs : s.size ≤ maxLen) :
    Calls Tryz.prog 52 #[.string s, .int .u8 10] w fun e w' => e = .returned (.int .i64 ((bol s.data.toList s.size : Int) - 1)) ∧ w' = w := by
  unfold maxLen at hs
  go_enter Tryz.func52, Tryz.ntmps52
  go_wp2
  go_loop [5] (fun i => ∃ k : Nat, k ≤ s.size ∧ i = .int .i64 ((k : Int) - 1) ∧ Hid (bol s.data.toList s.size = bol s.data.toList k)) (fun i => (intOf i + 1).toNat)
  case atStart => exact ⟨s.size, Nat.le_refl _, rfl, rfl⟩
  case round =>
    obtain ⟨k, hk, rfl, hh⟩ := hrel
    rcases k with _ | k
    · go_wp2
      go_ret
      exact ⟨ret_int (by rw [hh.out]; rfl), rfl⟩
    · have E := hid (getD_at s k hk)
      have e1 : ((k + 1 : Nat) : Int) - 1 = (k : Int) := by omega
      rw [e1]
      clear e1
      by_cases hb : s[k] = 10
      · have hb1 : ((s[k].toNat : Int) == 10) = true := by rw [hb]; rfl
        have HB := hid hb
        clear hb
        go_wp2
        go_ret
        exact ⟨ret_int (by rw [hh.out, bol_yes _ _ (by rw [E.out]; exact HB.out)]; omega), rfl⟩
      · have hb1 : ((s[k].toNat : Int) == 10) = false := byte_no _ hb
        have HB := hid hb
        clear hb
        go_wp2
        go_round
        case rel => exact ⟨k, by omega, rfl, hh.out.trans (bol_no _ _ (by rw [E.out]; exact HB.out))⟩
        case measure => simp [intOf]
set_option maxRecDepth 100000 in
set_option maxHeartbeats 400000 in
theorem last_any (s : ByteArray) (w : World) (hs : s.size ≤ maxLen) :
    Calls Tryz.prog 40 #[.string s, .string ⟨#[10]⟩] w fun e w' => e = .returned (.int .i64 ((bol s.data.toList s.size : Int) - 1)) ∧ w' = w := by
  go_enter Tryz.func40, Tryz.ntmps40
  go_wp2_with (go_at_call 52; go_must (refine (lastByte_any _ _ hs).mono ?_; rintro e w' ⟨rfl, rfl⟩))
  go_ret
  exact ⟨rfl, rfl⟩
end Go.Proofs.YtoamndiblckdlaaGreatDoor
