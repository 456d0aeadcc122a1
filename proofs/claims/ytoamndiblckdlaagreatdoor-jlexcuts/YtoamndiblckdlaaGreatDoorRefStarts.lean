import Derived.Test.YtoamndiblckdlaaGreatDoorRefOne
namespace Go.Proofs.YtoamndiblckdlaaGreatDoor
open Go.RowKit

theorem Tryz.info_int : (Tryz.prog.info? 3).map (fun i => (i.zero, i.size, i.bytes)) = some (some (.int .i64 0), 1, 8) := by kernel_rfl
/-- where a text's first k letters begin, as values -/
def startsV (l : List UInt8) (k : Nat) : List Value := (List.range k).map (fun j => Value.int .i64 (pos l j))
theorem startsV_succ (l : List UInt8) (k : Nat) : startsV l (k + 1) = startsV l k ++ [Value.int .i64 (pos l k)] := by simp [startsV, List.range_succ]
set_option maxRecDepth 100000 in
set_option maxHeartbeats 800000 in
theorem starts_any (s : ByteArray) (w : World) (hs : s.size ≤ 1000000) :
    Calls Tryz.prog 37 #[.string s] w fun e w' => ∃ v, e = .returned v ∧ w'.ownsRow w.heap.size 3 1 v (cnt s.data.toList + 1) (startsV s.data.toList (cnt s.data.toList + 1)) ∧ Below w.heap.size w w' := by
  have HS := hid (show s.size ≤ maxLen by unfold maxLen; omega)
  have HZ := hid (size_list s)
  obtain ⟨i0, hi, hz0, hz1, hz2⟩ := info_parts Tryz.info_int
  go_enter Tryz.func37, Tryz.ntmps37
  go_wp2
  go_loopw [3, 4] (fun v i wr => ∃ k : Nat, i = .int .i64 (pos s.data.toList k) ∧ pos s.data.toList k ≤ s.size ∧ wr.ownsRow w.heap.size 3 1 v k (startsV s.data.toList k) ∧ Below w.heap.size w wr) (fun _ i _ => s.size - (intOf i).toNat)
  case atStart => exact ⟨0, rfl, Nat.zero_le _, World.ownsRow_nil _ _ _ _, Below.refl _ _⟩
  case round =>
    obtain ⟨k, rfl, hp, hown, hbel⟩ := hrel
    have hk := pos_ge s.data.toList k
    have hz := HZ.out
    have hsz := hbel.size
    by_cases hlt : pos s.data.toList k < s.size
    · have hn := pos_next s.data.toList k (by omega)
      have hn' : pos s.data.toList k + stp (s.data.toList.drop (pos s.data.toList k)) ≤ s.size := by simp only [pos] at hn; omega
      have hn2 : pos s.data.toList k + tkN (s.data.toList.drop (pos s.data.toList k)) ≤ s.size := by unfold stp at hn'; omega
      clear hz hn
      by_cases h0 : tkN (s.data.toList.drop (pos s.data.toList k)) = 0
      · have h0' : (((tkN (s.data.toList.drop (pos s.data.toList k)) : Nat) : Int) == 0) = true := by rw [h0]; rfl
        have HP := hid (show ((pos s.data.toList k : Nat) : Int) + 1 = ((pos s.data.toList (k + 1) : Nat) : Int) by simp only [pos, stp]; omega)
        have H0 := hid (show pos s.data.toList (k + 1) ≤ s.size by simp only [pos]; omega)
        clear h0 hn'
        go_wp2_with (first | (at_builtin; go_must (refine wpList_append_own _ rfl (.tmp 11) (.tmp 13) 63 rfl w.heap.size 3 i0 (.int .i64 0) 1 8 Tryz.underlying63 hi hz0 hz1 hz2 rfl (by decide) _ k _ rfl (hown.alloc _) ⟨wr.heap.size, 0, none⟩ 1 1 [.int .i64 (pos s.data.toList k)] rfl rfl (new_cells wr _ 3) (ints_oneCell .i64 [(pos s.data.toList k : Int)]) (by unfold maxLen; omega) (by omega) (by simp; omega) ?_; intro v1 w1 hown1 hgr1 _)) | (go_at_call 34; go_must (refine (rtake_at _ _ _ HS.out).mono ?_; rintro e w2 ⟨rfl, hb2⟩)))
        have hb1 : Below w.heap.size w w1 := (hbel.alloc hbel.size _).grown hgr1 (by simp; omega) (fun j hj => (hown.lt j hj).1)
        have hr1 : w1.ownsRow w.heap.size 3 1 v1 (k + 1) (startsV s.data.toList (k + 1)) := by rw [startsV_succ]; exact hown1
        go_roundw
        case rel => exact ⟨k + 1, val_int HP.out, H0.out, ownsRow_below hr1 hb2, hb1.trans (hb2.mono hb1.size)⟩
        case measure => simp [intOf]; omega
      · have h0' : (((tkN (s.data.toList.drop (pos s.data.toList k)) : Nat) : Int) == 0) = false := by rw [beq_eq_false_iff_ne]; omega
        have HP := hid (pos_succ' s.data.toList k h0)
        have H0 := hid (show pos s.data.toList (k + 1) ≤ s.size by simp only [pos]; omega)
        have H1 := hid h0
        clear h0 hn'
        go_wp2_with (first | (at_builtin; go_must (refine wpList_append_own _ rfl (.tmp 11) (.tmp 13) 63 rfl w.heap.size 3 i0 (.int .i64 0) 1 8 Tryz.underlying63 hi hz0 hz1 hz2 rfl (by decide) _ k _ rfl (hown.alloc _) ⟨wr.heap.size, 0, none⟩ 1 1 [.int .i64 (pos s.data.toList k)] rfl rfl (new_cells wr _ 3) (ints_oneCell .i64 [(pos s.data.toList k : Int)]) (by unfold maxLen; omega) (by omega) (by simp; omega) ?_; intro v1 w1 hown1 hgr1 _)) | (go_at_call 34; go_must (refine (rtake_at _ _ _ HS.out).mono ?_; rintro e w2 ⟨rfl, hb2⟩)))
        have hb1 : Below w.heap.size w w1 := (hbel.alloc hbel.size _).grown hgr1 (by simp; omega) (fun j hj => (hown.lt j hj).1)
        have hr1 : w1.ownsRow w.heap.size 3 1 v1 (k + 1) (startsV s.data.toList (k + 1)) := by rw [startsV_succ]; exact hown1
        go_roundw
        case rel => exact ⟨k + 1, val_int HP.out, H0.out, ownsRow_below hr1 hb2, hb1.trans (hb2.mono hb1.size)⟩
        case measure => have h1 := H1.out; simp [intOf]; omega
    · have HC := hid (at_cnt s.data.toList k (by omega))
      have hps : pos s.data.toList k = s.size := by omega
      have HPS := hid (show startsV s.data.toList (k + 1) = startsV s.data.toList k ++ [Value.int .i64 (s.size : Int)] by rw [startsV_succ, hps])
      clear hz hps
      go_wp2_with (first | (at_builtin; go_must (refine wpList_append_own _ rfl (.tmp 27) (.tmp 30) 63 rfl w.heap.size 3 i0 (.int .i64 0) 1 8 Tryz.underlying63 hi hz0 hz1 hz2 rfl (by decide) _ k _ rfl (hown.alloc _) ⟨wr.heap.size, 0, none⟩ 1 1 [.int .i64 (s.size : Int)] rfl rfl (new_cells wr _ 3) (ints_oneCell .i64 [(s.size : Int)]) (by unfold maxLen; omega) (by omega) (by simp; omega) ?_; intro v1 w1 hown1 hgr1 _)))
      have hb1 : Below w.heap.size w w1 := (hbel.alloc hbel.size _).grown hgr1 (by simp; omega) (fun j hj => (hown.lt j hj).1)
      have hr1 : w1.ownsRow w.heap.size 3 1 v1 (k + 1) (startsV s.data.toList (k + 1)) := by rw [HPS.out]; exact hown1
      rw [HC.out] at hr1
      go_ret
      exact ⟨_, rfl, hr1, hb1⟩
theorem starts_at (s : ByteArray) (w : World) (hs : s.size ≤ 1000000) :
    Calls Tryz.prog 37 #[.string s] w fun e w' => ∃ g cap, e = .returned (.slice (some ⟨g, 0, none⟩) (cnt s.data.toList + 1) cap) ∧ (∀ j, j ≤ cnt s.data.toList → w'.cell? ⟨g, j, none⟩ = some (.int .i64 (pos s.data.toList j))) ∧ Below w.heap.size w w' := by
  refine (starts_any s w hs).mono fun e w' ⟨v, he, hown, hb⟩ => ?_
  have hs := hown
  rcases hs with ⟨-, h | ⟨g, cap, cur, rfl, -⟩⟩
  · exact absurd h.2 (by omega)
  · refine ⟨g, cap, he, fun j hj => ?_, hb⟩
    rw [hown.cellAt j (by omega)]
    have : j < cnt s.data.toList + 1 := by omega
    simp [startsV, this]
end Go.Proofs.YtoamndiblckdlaaGreatDoor
