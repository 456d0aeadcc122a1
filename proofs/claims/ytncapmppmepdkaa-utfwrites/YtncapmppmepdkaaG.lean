import Derived.Test.YtncapmppmepdkaaC
import Derived.Deep.RegionWith
namespace Go.Proofs.Ytncapmppmepdkaa
open Go.RowKit

theorem max_small {n : Nat} (h : n ≤ 1000) : n ≤ maxLen := by unfold maxLen; omega
theorem take_c1 (w : World) : Calls Try.prog 9 #[.string ⟨#[226, 130, 172, 120]⟩] w fun e w' => e = .returned (.tuple #[.int .i64 8364, .int .i64 3]) ∧ w' = w :=
  take_all ⟨#[226, 130, 172, 120]⟩ w (max_small (by decide))
theorem take_c2 (w : World) : Calls Try.prog 9 #[.string ⟨#[192, 128]⟩] w fun e w' => e = .returned (.tuple #[.int .i64 0, .int .i64 0]) ∧ w' = w :=
  take_all ⟨#[192, 128]⟩ w (max_small (by decide))
theorem valid_c1 (w : World) : Calls Try.prog 10 #[.string ⟨#[97, 98]⟩] w fun e w' => e = .returned (.tuple #[.int .i64 2, .bool true]) ∧ w' = w :=
  valid_any ⟨#[97, 98]⟩ w (max_small (by decide))
theorem valid_c2 (w : World) : Calls Try.prog 10 #[.string ⟨#[97, 237, 160, 128]⟩] w fun e w' => e = .returned (.tuple #[.int .i64 1, .bool false]) ∧ w' = w :=
  valid_any ⟨#[97, 237, 160, 128]⟩ w (max_small (by decide))
theorem count_c1 (w : World) : Calls Try.prog 17 #[.string ⟨#[97, 255]⟩] w fun e w' => e = .returned (.int .i64 2) ∧ w' = w :=
  count_any ⟨#[97, 255]⟩ w (max_small (by decide))
theorem at_c1 (w : World) : Calls Try.prog 11 #[.string ⟨#[97, 226, 130, 172]⟩, .int .i64 2] w fun e w' => e = .returned (.tuple #[.int .i64 4, .bool true]) ∧ w' = w :=
  at_any ⟨#[97, 226, 130, 172]⟩ 2 w (max_small (by decide)) (by decide)
theorem at_c2 (w : World) : Calls Try.prog 11 #[.string ⟨#[97]⟩, .int .i64 2] w fun e w' => e = .returned (.tuple #[.int .i64 0, .bool false]) ∧ w' = w :=
  at_any ⟨#[97]⟩ 2 w (max_small (by decide)) (by decide)
theorem put_nil (r : Int) (w : World) : Calls Try.prog 13 #[.slice none 0 0, .int .i64 r] w fun e w' => e = .returned (.slice (some ⟨w.heap.size, 0, none⟩) (enc r).length 4) ∧ w'.ownsRow w.heap.size 5 1 (.slice (some ⟨w.heap.size, 0, none⟩) (enc r).length 4) (enc r).length ((enc r).map (Value.int .u8)) ∧ Below w.heap.size w w' := by
  have h := put_any none 0 0 [] r w rfl (by omega) (fun h => absurd h (Nat.lt_irrefl 0))
  simpa using h
theorem put_c1 (w : World) : Calls Try.prog 13 #[.slice none 0 0, .int .i64 8364] w fun e w' => e = .returned (.slice (some ⟨w.heap.size, 0, none⟩) 3 4) ∧ w'.ownsRow w.heap.size 5 1 (.slice (some ⟨w.heap.size, 0, none⟩) 3 4) 3 ([226, 130, 172].map (Value.int .u8)) ∧ Below w.heap.size w w' :=
  put_nil 8364 w
theorem put_c2 (w : World) : Calls Try.prog 13 #[.slice none 0 0, .int .i64 (-1)] w fun e w' => e = .returned (.slice (some ⟨w.heap.size, 0, none⟩) 0 4) ∧ w'.ownsRow w.heap.size 5 1 (.slice (some ⟨w.heap.size, 0, none⟩) 0 4) 0 [] ∧ Below w.heap.size w w' :=
  put_nil (-1) w
theorem good_c (r : Int) (b : Bool) (h : goodB r = b) (w : World) : Calls Try.prog 12 #[.int .i64 r] w fun e w' => e = .returned (.bool b) ∧ w' = w := by
  subst h; exact good_any r w

set_option maxRecDepth 100000 in
set_option maxHeartbeats 400000 in
theorem awake_any (w : World) : Calls Try.prog 8 #[] w fun e w' => e = .returned (.bool true) ∧ Below w.heap.size w w' := by
  go_enter Try.func8, Try.ntmps8
  go_wp2_with fail
  refine (put_c1 _).mono ?_
  rintro e w1 ⟨rfl, hown, hbel⟩
  have hcv := conv_row w1 w.heap.size 3 4 w.heap.size [226, 130, 172] hown
  have hst : ((strOfNums [226, 130, 172]).toList == [226, 130, 172]) = true := by rw [ByteArray.toList_eq]; decide
  clear hown
  go_wp2_with (first | (go_at_call 9; go_must (refine (take_c1 _).mono ?_; rintro e w' ⟨rfl, hw'⟩; obtain rfl := hw'.symm)) | (go_at_call 11; go_must (refine (at_c1 _).mono ?_; rintro e w' ⟨rfl, hw'⟩; obtain rfl := hw'.symm)) | (go_at_call 10; go_must (refine (valid_c1 _).mono ?_; rintro e w' ⟨rfl, hw'⟩; obtain rfl := hw'.symm)) | (go_at_call 17; go_must (refine (count_c1 _).mono ?_; rintro e w' ⟨rfl, hw'⟩; obtain rfl := hw'.symm)) | (go_at_call 12; go_must (refine (good_c 65 true (by decide) _).mono ?_; rintro e w' ⟨rfl, hw'⟩; obtain rfl := hw'.symm)))
  go_ret
  exact ⟨rfl, hbel⟩

set_option maxRecDepth 100000 in
set_option maxHeartbeats 400000 in
theorem known_walk (w : World) : Calls Try.prog 3 #[] w fun e w' => e = .returned (.bool true) ∧ Below w.heap.size w w' := by
  go_enter Try.func3, Try.ntmps3
  go_wp2_with fail
  refine (awake_any _).mono ?_
  rintro e w1 ⟨rfl, hb1⟩
  go_wp2_with (first | (go_at_call 9; go_must (refine (take_c2 _).mono ?_; rintro e w' ⟨rfl, hw'⟩; obtain rfl := hw'.symm)) | (go_at_call 11; go_must (refine (at_c2 _).mono ?_; rintro e w' ⟨rfl, hw'⟩; obtain rfl := hw'.symm)) | (go_at_call 10; go_must (refine (valid_c2 _).mono ?_; rintro e w' ⟨rfl, hw'⟩; obtain rfl := hw'.symm)) | (go_at_call_of 12 (Value.int IntKind.i64 55296); go_must (refine (good_c 55296 false (by decide) _).mono ?_; rintro e w' ⟨rfl, hw'⟩; obtain rfl := hw'.symm)) | (go_at_call_of 12 (Value.int IntKind.i64 1114112); go_must (refine (good_c 1114112 false (by decide) _).mono ?_; rintro e w' ⟨rfl, hw'⟩; obtain rfl := hw'.symm)) | (go_at_call 13; go_must (refine (put_c2 _).mono ?_; rintro e w2 ⟨rfl, -, hb2⟩)))
  go_ret
  exact ⟨rfl, hb1.trans (hb2.mono hb1.size)⟩
end Go.Proofs.Ytncapmppmepdkaa
