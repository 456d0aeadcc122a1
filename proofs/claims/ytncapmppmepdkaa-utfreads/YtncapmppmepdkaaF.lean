import Derived.Test.YtncapmppmepdkaaE1
import Derived.Test.YtncapmppmepdkaaE2
import Derived.Test.YtncapmppmepdkaaE3
import Derived.Test.YtncapmppmepdkaaE4
namespace Go.Proofs.Ytncapmppmepdkaa
open Go.RowKit

theorem rtake_all (s : ByteArray) (w : World) (hs : s.size ≤ maxLen) :
    Calls Try.prog 14 #[.string s] w fun e w' => e = .returned (.tuple #[.int .i64 (tkR s.data.toList), .int .i64 (tkN s.data.toList)]) ∧ Below w.heap.size w w' := by
  by_cases h0 : s.size = 0
  · exact rtake_none s w h0
  · have hp : 0 < s.size := by omega
    have hb := s[0].toNat_lt
    by_cases h1 : s[0].toNat < 128
    · exact rtake_one s w hs hp (by unfold begN; rw [if_pos h1]) (by omega) (by omega)
    · by_cases h2 : s[0].toNat < 192
      · exact rtake_no s w hp (by unfold begN; rw [if_neg h1, if_pos h2]) (by omega) (Or.inl (by omega))
      · by_cases h3 : s[0].toNat < 224
        · exact rtake_two s w hs hp (by unfold begN; rw [if_neg h1, if_neg h2, if_pos h3]) (by omega) (by omega)
        · by_cases h4 : s[0].toNat < 240
          · exact rtake_three s w hs hp (by unfold begN; rw [if_neg h1, if_neg h2, if_neg h3, if_pos h4]) (by omega) (by omega)
          · by_cases h5 : s[0].toNat < 248
            · exact rtake_four s w hs hp (by unfold begN; rw [if_neg h1, if_neg h2, if_neg h3, if_neg h4, if_pos h5]) (by omega) (by omega)
            · exact rtake_no s w hp (by unfold begN; rw [if_neg h1, if_neg h2, if_neg h3, if_neg h4, if_neg h5]) (by omega) (Or.inr (by omega))
theorem rtake_at (s : ByteArray) (p : Nat) (w : World) (hs : s.size ≤ maxLen) :
    Calls Try.prog 14 #[.string (s.extract p s.size)] w fun e w' => e = .returned (.tuple #[.int .i64 (tkR (s.data.toList.drop p)), .int .i64 (tkN (s.data.toList.drop p))]) ∧ Below w.heap.size w w' := by
  have h := rtake_all (s.extract p s.size) w (cut_size s p hs)
  rw [drop_list] at h
  exact h

/-- where the first byte stands that begins no letter; -1: there is none -/
def rvI (l : List UInt8) : Int := if pos l (vlk l) = l.length then -1 else (pos l (vlk l) : Int)
set_option maxRecDepth 100000 in
set_option maxHeartbeats 400000 in
theorem rvalid_any (s : ByteArray) (w : World) (hs : s.size ≤ maxLen) :
    Calls Try.prog 15 #[.string s] w fun e w' => e = .returned (.int .i64 (rvI s.data.toList)) ∧ Below w.heap.size w w' := by
  have HS := hid hs
  have HZ := hid (size_list s)
  unfold maxLen at hs
  go_enter Try.func15, Try.ntmps15
  go_wp2
  go_loopw [3] (fun i wr => ∃ k : Nat, i = .int .i64 (pos s.data.toList k) ∧ pos s.data.toList k ≤ s.size ∧ (∀ j < k, vgo s.data.toList j = true) ∧ Below w.heap.size w wr) (fun i _ => s.size - (intOf i).toNat)
  case atStart => exact ⟨0, rfl, Nat.zero_le _, fun j hj => absurd hj (Nat.not_lt_zero j), Below.refl _ _⟩
  case round =>
    obtain ⟨k, rfl, hp, hj, hbel⟩ := hrel
    have hk := pos_ge s.data.toList k
    have HJ := hid hj
    have HB := hid hbel
    clear hj hbel
    have hz := HZ.out
    by_cases hlt : pos s.data.toList k < s.size
    · by_cases h0 : tkN (s.data.toList.drop (pos s.data.toList k)) = 0
      · have HC := hid (vlk_eq s.data.toList k (by simp [vgo, h0]) HJ.out (by omega))
        have h0' : (((tkN (s.data.toList.drop (pos s.data.toList k)) : Nat) : Int) == 0) = true := by rw [h0]; rfl
        clear hz h0
        go_wp2_with (first | (go_at_call 14; go_must (refine (rtake_at _ _ _ HS.out).mono ?_; rintro e w' ⟨rfl, hb'⟩)))
        go_ret
        exact ⟨ret_int (by have hz := HZ.out; unfold rvI; rw [← HC.out, if_neg (by omega)]), HB.out.trans (hb'.mono HB.out.size)⟩
      · have hn := pos_next s.data.toList k (by omega)
        have HV := hid (show vgo s.data.toList k = true by simp only [vgo, Bool.and_eq_true, decide_eq_true_eq]; exact ⟨by omega, h0⟩)
        have h0' : (((tkN (s.data.toList.drop (pos s.data.toList k)) : Nat) : Int) == 0) = false := by rw [beq_eq_false_iff_ne]; omega
        have hn' : pos s.data.toList k + tkN (s.data.toList.drop (pos s.data.toList k)) ≤ s.size := by simp only [pos, stp] at hn; omega
        have H0 := hid h0
        clear hz hn h0
        go_wp2_with (first | (go_at_call 14; go_must (refine (rtake_at _ _ _ HS.out).mono ?_; rintro e w' ⟨rfl, hb'⟩)))
        go_roundw
        case rel =>
          have h0 := H0.out
          refine ⟨k + 1, val_int (pos_succ' _ _ h0), by simp only [pos, stp]; omega, fun j hj => ?_, HB.out.trans (hb'.mono HB.out.size)⟩
          by_cases hjk : j = k
          · rw [hjk]; exact HV.out
          · exact HJ.out j (by omega)
        case measure => have h0 := H0.out; simp [intOf]; omega
    · have HC := hid (vlk_eq s.data.toList k (by simp [vgo]; omega) HJ.out (by omega))
      clear hz
      go_wp2
      go_ret
      exact ⟨ret_int (by have hz := HZ.out; unfold rvI; rw [← HC.out, if_pos (by omega)]), HB.out⟩

theorem Try.info3 : (Try.prog.info? 3).map (fun i => (i.zero, i.size, i.bytes)) = some (some (.int .i64 0), 1, 8) := by kernel_rfl
/-- where a text's first k letters begin, as values -/
def startsV (l : List UInt8) (k : Nat) : List Value := (List.range k).map (fun j => Value.int .i64 (pos l j))
theorem startsV_succ (l : List UInt8) (k : Nat) : startsV l (k + 1) = startsV l k ++ [Value.int .i64 (pos l k)] := by simp [startsV, List.range_succ]
theorem ownsRow_below {w w' : World} {base : Nat} {e : TypeId} {size n : Nat} {v : Value} {xs : List Value} (h : w.ownsRow base e size v n xs) (hb : Below w.heap.size w w') : w'.ownsRow base e size v n xs :=
  h.kept (row := none) ⟨hb.os, hb.tape, hb.output, hb.size, fun k hk _ => hb.block k hk⟩ (by cases v.ownBlock <;> simp)
set_option maxRecDepth 100000 in
set_option maxHeartbeats 800000 in
theorem starts_any (s : ByteArray) (w : World) (hs : s.size ≤ 1000000) :
    Calls Try.prog 16 #[.string s] w fun e w' => ∃ v, e = .returned v ∧ w'.ownsRow w.heap.size 3 1 v (cnt s.data.toList + 1) (startsV s.data.toList (cnt s.data.toList + 1)) ∧ Below w.heap.size w w' := by
  have HS := hid (show s.size ≤ maxLen by unfold maxLen; omega)
  have HZ := hid (size_list s)
  obtain ⟨i0, hi, hz0, hz1, hz2⟩ := info_parts Try.info3
  go_enter Try.func16, Try.ntmps16
  go_wp2
  go_loopw [3, 4] (fun v i wr => ∃ k : Nat, i = .int .i64 (pos s.data.toList k) ∧ pos s.data.toList k ≤ s.size ∧ wr.ownsRow w.heap.size 3 1 v k (startsV s.data.toList k) ∧ Below w.heap.size w wr) (fun _ i _ => s.size - (intOf i).toNat)
  case atStart => exact ⟨0, rfl, Nat.zero_le _, World.ownsRow_nil _ _ _ _, Below.refl _ _⟩
  case round =>
    obtain ⟨k, rfl, hp, hown, hbel⟩ := hrel
    have hk := pos_ge s.data.toList k
    have hz := HZ.out
    have hsz := hbel.size
    by_cases hlt : pos s.data.toList k < s.size
    · have hn := pos_next s.data.toList k (by omega)
      have hn' : pos s.data.toList k + stp (s.data.toList.drop (pos s.data.toList k)) ≤ s.size := by simp only [pos] at hn; omega
      have hn2 : pos s.data.toList k + tkN (s.data.toList.drop (pos s.data.toList k)) ≤ s.size := by unfold stp at hn'; omega
      clear hz hn
      by_cases h0 : tkN (s.data.toList.drop (pos s.data.toList k)) = 0
      · have h0' : (((tkN (s.data.toList.drop (pos s.data.toList k)) : Nat) : Int) == 0) = true := by rw [h0]; rfl
        have HP := hid (show ((pos s.data.toList k : Nat) : Int) + 1 = ((pos s.data.toList (k + 1) : Nat) : Int) by simp only [pos, stp]; omega)
        have H0 := hid (show pos s.data.toList (k + 1) ≤ s.size by simp only [pos]; omega)
        clear h0 hn'
        go_wp2_with (first | (at_builtin; go_must (refine wpList_append_own _ rfl (.tmp 11) (.tmp 13) 32 rfl w.heap.size 3 i0 (.int .i64 0) 1 8 Try.underlying32 hi hz0 hz1 hz2 rfl (by decide) _ k _ rfl (hown.alloc _) ⟨wr.heap.size, 0, none⟩ 1 1 [.int .i64 (pos s.data.toList k)] rfl rfl (new_cells wr _ 3) (ints_oneCell .i64 [(pos s.data.toList k : Int)]) (by unfold maxLen; omega) (by omega) (by simp; omega) ?_; intro v1 w1 hown1 hgr1 _)) | (go_at_call 14; go_must (refine (rtake_at _ _ _ HS.out).mono ?_; rintro e w2 ⟨rfl, hb2⟩)))
        have hb1 : Below w.heap.size w w1 := (hbel.alloc hbel.size _).grown hgr1 (by simp; omega) (fun j hj => (hown.lt j hj).1)
        have hr1 : w1.ownsRow w.heap.size 3 1 v1 (k + 1) (startsV s.data.toList (k + 1)) := by rw [startsV_succ]; exact hown1
        go_roundw
        case rel => exact ⟨k + 1, val_int HP.out, H0.out, ownsRow_below hr1 hb2, hb1.trans (hb2.mono hb1.size)⟩
        case measure => simp [intOf]; omega
      · have h0' : (((tkN (s.data.toList.drop (pos s.data.toList k)) : Nat) : Int) == 0) = false := by rw [beq_eq_false_iff_ne]; omega
        have HP := hid (pos_succ' s.data.toList k h0)
        have H0 := hid (show pos s.data.toList (k + 1) ≤ s.size by simp only [pos]; omega)
        have H1 := hid h0
        clear h0 hn'
        go_wp2_with (first | (at_builtin; go_must (refine wpList_append_own _ rfl (.tmp 11) (.tmp 13) 32 rfl w.heap.size 3 i0 (.int .i64 0) 1 8 Try.underlying32 hi hz0 hz1 hz2 rfl (by decide) _ k _ rfl (hown.alloc _) ⟨wr.heap.size, 0, none⟩ 1 1 [.int .i64 (pos s.data.toList k)] rfl rfl (new_cells wr _ 3) (ints_oneCell .i64 [(pos s.data.toList k : Int)]) (by unfold maxLen; omega) (by omega) (by simp; omega) ?_; intro v1 w1 hown1 hgr1 _)) | (go_at_call 14; go_must (refine (rtake_at _ _ _ HS.out).mono ?_; rintro e w2 ⟨rfl, hb2⟩)))
        have hb1 : Below w.heap.size w w1 := (hbel.alloc hbel.size _).grown hgr1 (by simp; omega) (fun j hj => (hown.lt j hj).1)
        have hr1 : w1.ownsRow w.heap.size 3 1 v1 (k + 1) (startsV s.data.toList (k + 1)) := by rw [startsV_succ]; exact hown1
        go_roundw
        case rel => exact ⟨k + 1, val_int HP.out, H0.out, ownsRow_below hr1 hb2, hb1.trans (hb2.mono hb1.size)⟩
        case measure => have h1 := H1.out; simp [intOf]; omega
    · have HC := hid (at_cnt s.data.toList k (by omega))
      have hps : pos s.data.toList k = s.size := by omega
      have HPS := hid (show startsV s.data.toList (k + 1) = startsV s.data.toList k ++ [Value.int .i64 (s.size : Int)] by rw [startsV_succ, hps])
      clear hz hps
      go_wp2_with (first | (at_builtin; go_must (refine wpList_append_own _ rfl (.tmp 27) (.tmp 30) 32 rfl w.heap.size 3 i0 (.int .i64 0) 1 8 Try.underlying32 hi hz0 hz1 hz2 rfl (by decide) _ k _ rfl (hown.alloc _) ⟨wr.heap.size, 0, none⟩ 1 1 [.int .i64 (s.size : Int)] rfl rfl (new_cells wr _ 3) (ints_oneCell .i64 [(s.size : Int)]) (by unfold maxLen; omega) (by omega) (by simp; omega) ?_; intro v1 w1 hown1 hgr1 _)))
      have hb1 : Below w.heap.size w w1 := (hbel.alloc hbel.size _).grown hgr1 (by simp; omega) (fun j hj => (hown.lt j hj).1)
      have hr1 : w1.ownsRow w.heap.size 3 1 v1 (k + 1) (startsV s.data.toList (k + 1)) := by rw [HPS.out]; exact hown1
      rw [HC.out] at hr1
      go_ret
      exact ⟨_, rfl, hr1, hb1⟩
end Go.Proofs.Ytncapmppmepdkaa
