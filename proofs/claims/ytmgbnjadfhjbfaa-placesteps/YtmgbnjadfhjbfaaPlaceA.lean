/- Package place, walked: clamp, Lines, Begin; and the document's own clamp. -/
import Derived.Test.YtmgbnjadfhjbfaaStrNl
import Derived.Test.YtmgbnjadfhjbfaaUtfCount
namespace Go.Proofs.Ytmgbnjadfhjbfaa
open Go.RowKit

set_option maxRecDepth 100000 in
set_option maxHeartbeats 400000 in
theorem clamp_any (t : ByteArray) (a : Int) (w : World) :
    Calls Try.prog 16 #[.string t, .int .i64 a] w fun e w' => e = .returned (.int .i64 (clN t.size a)) ∧ w' = w := by
  go_enter Try.func16, Try.ntmps16
  go_wp2
  all_goals (go_ret; exact ⟨ret_int (by unfold clN; omega), rfl⟩)
set_option maxRecDepth 100000 in
set_option maxHeartbeats 400000 in
theorem lines_any (t : ByteArray) (w : World) (hs : t.size ≤ 1000000) :
    Calls Try.prog 10 #[.string t] w fun e w' => e = .returned (.int .i64 (linOf t.data.toList)) ∧ w' = w := by
  have hn := nls_le t.data.toList
  rw [size_list] at hn
  go_enter Try.func10, Try.ntmps10
  go_wp2_with (go_at_call 20; go_must (refine (ct_any _ _).mono ?_; rintro e w' ⟨rfl, rfl⟩))
  go_ret
  exact ⟨ret_int (by unfold linOf; omega), rfl⟩
set_option maxRecDepth 100000 in
set_option maxHeartbeats 400000 in
theorem rclamp_any (t : ByteArray) (a : Int) (w : World) :
    Calls Try.prog 21 #[.string t, .int .i64 a] w fun e w' => e = .returned (.int .i64 (clN t.size a)) ∧ w' = w := by
  go_enter Try.func21, Try.ntmps21
  go_wp2
  all_goals (go_ret; exact ⟨ret_int (by unfold clN; omega), rfl⟩)
theorem drop_at (s : ByteArray) (p : Nat) (w : World) :
    Calls Try.prog 19 #[.string (s.extract p s.size), .string ⟨#[10]⟩] w fun e w' => e = .returned (.int .i64 (Lib.indexByte (s.data.toList.drop p) 10)) ∧ w' = w := by
  have := ix_any (s.extract p s.size) w
  rwa [drop_list] at this
set_option maxRecDepth 100000 in
set_option maxHeartbeats 400000 in
theorem pbegin_any (t : ByteArray) (n : Int) (w : World) (hs : t.size ≤ 1000000) (hn : n ≤ 2 ^ 63 - 1) :
    Calls Try.prog 9 #[.string t, .int .i64 n] w fun e w' => e = .returned (.tuple #[.int .i64 (bgP t.data.toList n), .bool (bgB t.data.toList n)]) ∧ w' = w := by
  have HZ := hid (size_list t)
  by_cases h1 : n < 1
  · have hb := bg_no t.data.toList n (Or.inl h1)
    have HB := hid hb
    clear hb
    go_enter Try.func9, Try.ntmps9
    go_wp2
    go_ret2
    exact ⟨ret_ib HB.out.1.symm HB.out.2.symm, rfl⟩
  · go_enter Try.func9, Try.ntmps9
    go_wp2_with fail
    go_loop [1, 6] (fun m p => ∃ j q : Nat, m = .int .i64 (n - j) ∧ p = .int .i64 q ∧ q ≤ t.size ∧ (j : Int) < n ∧ Hid (LineAt t.data.toList j q)) (fun m _ => (intOf m).toNat)
    case atStart => exact ⟨0, 0, by simp, rfl, Nat.zero_le _, by omega, LineAt_zero _⟩
    case round =>
      obtain ⟨j, q, rfl, rfl, hq, hj, hl⟩ := hrel
      by_cases h2 : n - j > 1
      · rcases index_spec 10 (t.data.toList.drop q) with ⟨he, -⟩ | ⟨e, he, hlt, -⟩
        · have HN := hid (bg_no t.data.toList n (Or.inr (by rw [LineAt_none _ _ _ hl.out he]; omega)))
          have HE := hid he
          clear he
          go_wp2_with (go_at_call 19; go_must (refine (drop_at _ _ _).mono ?_; rintro e w' ⟨rfl, rfl⟩; rw [HE.out]))
          go_ret2
          exact ⟨ret_ib HN.out.1.symm HN.out.2.symm, rfl⟩
        · have HL := hid (LineAt_next _ _ _ _ hl.out he)
          have HE := hid he
          have hlt' : q + e < t.size := by have := HZ.out; rw [List.length_drop] at hlt; omega
          clear he hlt
          go_wp2_with (go_at_call 19; go_must (refine (drop_at _ _ _).mono ?_; rintro e w' ⟨rfl, rfl⟩; rw [HE.out]))
          go_round
          case rel => exact ⟨j + 1, q + e + 1, val_int (by omega), val_int (by omega), by omega, by omega, HL⟩
          case measure => simp [intOf]; omega
      · have e1 : n = (j : Int) + 1 := by omega
        subst e1
        have HB := hid (bg_yes _ _ _ hl.out)
        go_wp2_with fail
        go_ret2
        exact ⟨ret_ib HB.out.1.symm HB.out.2.symm, rfl⟩
end Go.Proofs.Ytmgbnjadfhjbfaa
