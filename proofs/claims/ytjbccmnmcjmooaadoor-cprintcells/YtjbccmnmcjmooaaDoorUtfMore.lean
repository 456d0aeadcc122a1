import Derived.Test.YtjbccmnmcjmooaaDoorUtfAll
import Derived.Test.YtjbccmnmcjmooaaDoorBase
import Derived.Test.YtjbccmnmcjmooaaDoorRefOne
namespace Go.Proofs.YtjbccmnmcjmooaaDoor
open Go.RowKit

set_option maxRecDepth 100000 in
set_option maxHeartbeats 400000 in
theorem stride_any (s : ByteArray) (w : World) (hs : s.size ≤ maxLen) :
    Calls Tryd.prog 85 #[.string s] w fun e w' => e = .returned (.int .i64 (stp s.data.toList)) ∧ w' = w := by
  go_enter Tryd.func85, Tryd.ntmps85
  go_wp2_with (first | (go_at_call 51; go_must (refine (take_all _ _ hs).mono ?_; rintro e w' ⟨rfl, rfl⟩)))
  all_goals
    go_ret
    exact ⟨ret_int (by unfold stp; omega), rfl⟩
theorem stride_at (s : ByteArray) (p : Nat) (w : World) (hs : s.size ≤ maxLen) :
    Calls Tryd.prog 85 #[.string (s.extract p s.size)] w fun e w' => e = .returned (.int .i64 (stp (s.data.toList.drop p))) ∧ w' = w := by
  have h := stride_any (s.extract p s.size) w (cut_size s p hs)
  rw [drop_list] at h
  exact h
end Go.Proofs.YtjbccmnmcjmooaaDoor
namespace Go.Proofs.YtjbccmnmcjmooaaDoor
open Go.RowKit

set_option maxRecDepth 100000 in
set_option maxHeartbeats 400000 in
theorem count_any (s : ByteArray) (w : World) (hs : s.size ≤ maxLen) :
    Calls Tryd.prog 78 #[.string s] w fun e w' => e = .returned (.int .i64 (cnt s.data.toList)) ∧ w' = w := by
  have HS := hid hs
  have HZ := hid (size_list s)
  unfold maxLen at hs
  go_enter Tryd.func78, Tryd.ntmps78
  go_wp2
  go_loop [3, 4] (fun c i => ∃ k : Nat, c = .int .i64 k ∧ i = .int .i64 (pos s.data.toList k) ∧ pos s.data.toList k ≤ s.size) (fun _ i => s.size - (intOf i).toNat)
  case atStart => exact ⟨0, rfl, rfl, Nat.zero_le _⟩
  case round =>
    obtain ⟨k, rfl, rfl, hp⟩ := hrel
    have hk := pos_ge s.data.toList k
    have hz := HZ.out
    by_cases hlt : pos s.data.toList k < s.size
    · have hn := pos_next s.data.toList k (by omega)
      have hl := stp_pos (s.data.toList.drop (pos s.data.toList k))
      have hn' : pos s.data.toList k + stp (s.data.toList.drop (pos s.data.toList k)) ≤ s.size := by simp only [pos] at hn; omega
      clear hz hn
      go_wp2_with (first | (go_at_call 85; go_must (refine (stride_at _ _ _ HS.out).mono ?_; rintro e w' ⟨rfl, rfl⟩)))
      go_round
      case rel => exact ⟨k + 1, by go_num, val_int (pos_succ _ _), by simp only [pos]; omega⟩
      case measure => simp [intOf]; omega
    · have hc := hid (at_cnt s.data.toList k (by omega))
      clear hz
      go_wp2
      go_ret
      exact ⟨ret_int (by rw [← hc.out]), rfl⟩
end Go.Proofs.YtjbccmnmcjmooaaDoor
namespace Go.Proofs.YtjbccmnmcjmooaaDoor
open Go.RowKit

end Go.Proofs.YtjbccmnmcjmooaaDoor
namespace Go.Proofs.YtjbccmnmcjmooaaDoor
open Go.RowKit

theorem copy_new (ao : Option Addr) (n cap : Nat) (xs : List Int) (w : World) (hn : xs.length = n) (hb : n ≤ 1000000)
    (hc : 0 < n → ∃ ad, ao = some ad ∧ ∀ j v, (xs.map (Value.int .u8))[j]? = some v → w.cell? (ad.add j) = some v) :
    ∃ w2, (Builtin.copy_ #[39, 39] 3 #[.slice (some ⟨w.heap.size, 0, none⟩) n (n + 4), .slice ao n cap]).run Tryd.prog (w.alloc (.cells (madeCells #[.int .u8 0] (n + 4)) 5)) = .ok (goInt n) w2
      ∧ w2.ownsRow w.heap.size 5 1 (.slice (some ⟨w.heap.size, 0, none⟩) n (n + 4)) n (xs.map (Value.int .u8)) ∧ Below w.heap.size w w2 ∧ w2.heap.size = w.heap.size + 1 := by
  have hg := heap_alloc_new w (.cells (madeCells #[.int .u8 0] (n + 4)) 5)
  have hb1 : Below w.heap.size w (w.alloc (.cells (madeCells #[.int .u8 0] (n + 4)) 5)) := (Below.refl _ _).alloc (Nat.le_refl _) _
  have hsz := size_madeCells #[.int .u8 0] (n + 4)
  by_cases h0 : n = 0
  · subst h0
    obtain rfl : xs = [] := List.length_eq_zero_iff.1 hn
    refine ⟨_, run_copy_none _ 39 39 3 5 _ _ _ _ _ _ Tryd.underlying39 Tryd.size_u8 rfl, ⟨rfl, Or.inr ⟨_, _, _, rfl, Nat.le_refl _, hg, by omega, by unfold maxLen; omega, by rw [hsz], by simp⟩⟩, hb1, by simp⟩
  · obtain ⟨ad, rfl, hcell⟩ := hc (by omega)
    have hlen : (xs.map (Value.int .u8)).length = n := by simp [hn]
    have hr := run_copy_row (P := Tryd.prog) (w.alloc (.cells (madeCells #[.int .u8 0] (n + 4)) 5)) 39 39 3 5 w.heap.size 0 n (n + 4) ad n cap _ 5 (xs.map (Value.int .u8)) Tryd.underlying39 Tryd.size_u8 hg (by rw [hlen]; simp)
      (fun j v h => cell_later hb1 (hcell j v h)) (by rw [hlen, hsz]; omega) (ints_oneCell _ _)
    rw [hlen] at hr
    refine ⟨_, hr, ⟨by rw [hlen]; simp, Or.inr ⟨_, _, _, rfl, Nat.le_refl _, setRow_heap _ _ _ _ _ _ hg, by omega, by unfold maxLen; omega, by simp [hsz, hn], by simp [hn]⟩⟩, below_setRow hb1 (Nat.le_refl _) _, by simp⟩
end Go.Proofs.YtjbccmnmcjmooaaDoor
