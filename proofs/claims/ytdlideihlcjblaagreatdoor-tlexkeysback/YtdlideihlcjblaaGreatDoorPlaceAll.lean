import Derived.Test.YtdlideihlcjblaaGreatDoorBase
import Derived.Test.YtdlideihlcjblaaGreatDoorMathPlace
import Derived.Lib.Walk
import Derived.Test.YtdlideihlcjblaaGreatDoorUtfMore
import Derived.Test.YtdlideihlcjblaaGreatDoorRefOne
import Derived.Deep.QuietTactic
import Derived.BigQuiet
/- The library's searches, walked at the text of one line end: strings.Index, strings.Count, strings.LastIndex. -/
/- Package place, walked: clamp, Lines, Begin; and the document's own clamp. -/
/- Package place, walked: Of, Fault; and the document's own reckoning of both. -/
/- The document's own reckoning of places, walked: Of, Fault. -/
namespace Go.Proofs.YtdlideihlcjblaaGreatDoor
open Go.RowKit

set_option maxRecDepth 100000 in
set_option maxHeartbeats 400000 in
theorem ixByte_any (s : ByteArray) (w : World) :
    Calls Tryz.prog 102 #[.string s, .int .u8 10] w fun e w' => e = .returned (.int .i64 (Lib.indexByte s.data.toList 10)) ∧ w' = w := by
  go_enter Tryz.func102, Tryz.ntmps102
  go_wp2
  rw [run_callFunc_extern Tryz.func134 (by kernel_rfl) (by kernel_rfl) (by kernel_rfl) (e := Extern.BytealgIndexByte.indexByte) (by kernel_rfl), Lib.run_indexByteString]
  simp only [Result.andThen]
  rw [Oper.upon_value]
  go_wp2
  go_ret
  exact ⟨rfl, rfl⟩
set_option maxRecDepth 100000 in
set_option maxHeartbeats 400000 in
theorem ixLite_any (s : ByteArray) (w : World) :
    Calls Tryz.prog 144 #[.string s, .string ⟨#[10]⟩] w fun e w' => e = .returned (.int .i64 (Lib.indexByte s.data.toList 10)) ∧ w' = w := by
  go_enter Tryz.func144, Tryz.ntmps144
  go_wp2_with (go_at_call 102; go_must (refine (ixByte_any _ _).mono ?_; rintro e w' ⟨rfl, rfl⟩))
  · have h : ([10] == s.toList) = true := by assumption
    go_ret
    have e : s.data.toList = [10] := by rw [← Lib.toList_data]; exact (beq_iff_eq.1 h).symm
    exact ⟨ret_int (by rw [e]; rfl), rfl⟩
  · go_ret
    exact ⟨rfl, rfl⟩
set_option maxRecDepth 100000 in
set_option maxHeartbeats 400000 in
theorem ix_any (s : ByteArray) (w : World) :
    Calls Tryz.prog 153 #[.string s, .string ⟨#[10]⟩] w fun e w' => e = .returned (.int .i64 (Lib.indexByte s.data.toList 10)) ∧ w' = w := by
  go_enter Tryz.func153, Tryz.ntmps153
  go_wp2_with (go_at_call 144; go_must (refine (ixLite_any _ _).mono ?_; rintro e w' ⟨rfl, rfl⟩))
  go_ret
  exact ⟨rfl, rfl⟩
set_option maxRecDepth 100000 in
set_option maxHeartbeats 400000 in
theorem ct_any (s : ByteArray) (w : World) :
    Calls Tryz.prog 151 #[.string s, .string ⟨#[10]⟩] w fun e w' => e = .returned (.int .i64 (nls s.data.toList)) ∧ w' = w := by
  go_enter Tryz.func151, Tryz.ntmps151
  go_wp2
  rw [run_callFunc_extern Tryz.func172 (by kernel_rfl) (by kernel_rfl) (by kernel_rfl) (e := Extern.BytealgCount.count) (by kernel_rfl), Lib.run_countString]
  simp only [Result.andThen]
  rw [Oper.upon_value]
  go_wp2
  go_ret
  exact ⟨rfl, rfl⟩
end Go.Proofs.YtdlideihlcjblaaGreatDoor
namespace Go.Proofs.YtdlideihlcjblaaGreatDoor
open Go.RowKit

theorem drop_at (s : ByteArray) (p : Nat) (w : World) :
    Calls Tryz.prog 153 #[.string (s.extract p s.size), .string ⟨#[10]⟩] w fun e w' => e = .returned (.int .i64 (Lib.indexByte (s.data.toList.drop p) 10)) ∧ w' = w := by
  have := ix_any (s.extract p s.size) w
  rwa [drop_list] at this
end Go.Proofs.YtdlideihlcjblaaGreatDoor
namespace Go.Proofs.YtdlideihlcjblaaGreatDoor
open Go.RowKit

theorem Tryz.info_int : (Tryz.prog.info? 3).map (fun i => (i.zero, i.size, i.bytes)) = some (some (.int .i64 0), 1, 8) := by kernel_rfl
/-- where a text's first k letters begin, as values -/
def startsV (l : List UInt8) (k : Nat) : List Value := (List.range k).map (fun j => Value.int .i64 (pos l j))
theorem startsV_succ (l : List UInt8) (k : Nat) : startsV l (k + 1) = startsV l k ++ [Value.int .i64 (pos l k)] := by simp [startsV, List.range_succ]
set_option maxRecDepth 100000 in
set_option maxHeartbeats 800000 in
theorem starts_any (s : ByteArray) (w : World) (hs : s.size ≤ 1000000) :
    Calls Tryz.prog 125 #[.string s] w fun e w' => ∃ v, e = .returned v ∧ w'.ownsRow w.heap.size 3 1 v (cnt s.data.toList + 1) (startsV s.data.toList (cnt s.data.toList + 1)) ∧ Below w.heap.size w w' := by
  have HS := hid (show s.size ≤ maxLen by unfold maxLen; omega)
  have HZ := hid (size_list s)
  obtain ⟨i0, hi, hz0, hz1, hz2⟩ := info_parts Tryz.info_int
  go_enter Tryz.func125, Tryz.ntmps125
  go_wp2
  go_loopw [3, 4] (fun v i wr => ∃ k : Nat, i = .int .i64 (pos s.data.toList k) ∧ pos s.data.toList k ≤ s.size ∧ wr.ownsRow w.heap.size 3 1 v k (startsV s.data.toList k) ∧ Below w.heap.size w wr) (fun _ i _ => s.size - (intOf i).toNat)
  case atStart => exact ⟨0, rfl, Nat.zero_le _, World.ownsRow_nil _ _ _ _, Below.refl _ _⟩
  case round =>
    obtain ⟨k, rfl, hp, hown, hbel⟩ := hrel
    have hk := pos_ge s.data.toList k
    have hz := HZ.out
    have hsz := hbel.size
    by_cases hlt : pos s.data.toList k < s.size
    · have hn := pos_next s.data.toList k (by omega)
      have hn' : pos s.data.toList k + stp (s.data.toList.drop (pos s.data.toList k)) ≤ s.size := by simp only [pos] at hn; omega
      have hn2 : pos s.data.toList k + tkN (s.data.toList.drop (pos s.data.toList k)) ≤ s.size := by unfold stp at hn'; omega
      clear hz hn
      by_cases h0 : tkN (s.data.toList.drop (pos s.data.toList k)) = 0
      · have h0' : (((tkN (s.data.toList.drop (pos s.data.toList k)) : Nat) : Int) == 0) = true := by rw [h0]; rfl
        have HP := hid (show ((pos s.data.toList k : Nat) : Int) + 1 = ((pos s.data.toList (k + 1) : Nat) : Int) by simp only [pos, stp]; omega)
        have H0 := hid (show pos s.data.toList (k + 1) ≤ s.size by simp only [pos]; omega)
        clear h0 hn'
        go_wp2_with (first | (at_builtin; go_must (refine wpList_append_own _ rfl (.tmp 11) (.tmp 13) 45 rfl w.heap.size 3 i0 (.int .i64 0) 1 8 Tryz.underlying45 hi hz0 hz1 hz2 rfl (by decide) _ k _ rfl (hown.alloc _) ⟨wr.heap.size, 0, none⟩ 1 1 [.int .i64 (pos s.data.toList k)] rfl rfl (new_cells wr _ 3) (ints_oneCell .i64 [(pos s.data.toList k : Int)]) (by unfold maxLen; omega) (by omega) (by simp; omega) ?_; intro v1 w1 hown1 hgr1 _)) | (go_at_call 61; go_must (refine (rtake_at _ _ _ HS.out).mono ?_; rintro e w2 ⟨rfl, hb2⟩)))
        have hb1 : Below w.heap.size w w1 := (hbel.alloc hbel.size _).grown hgr1 (by simp; omega) (fun j hj => (hown.lt j hj).1)
        have hr1 : w1.ownsRow w.heap.size 3 1 v1 (k + 1) (startsV s.data.toList (k + 1)) := by rw [startsV_succ]; exact hown1
        go_roundw
        case rel => exact ⟨k + 1, val_int HP.out, H0.out, ownsRow_below hr1 hb2, hb1.trans (hb2.mono hb1.size)⟩
        case measure => simp [intOf]; omega
      · have h0' : (((tkN (s.data.toList.drop (pos s.data.toList k)) : Nat) : Int) == 0) = false := by rw [beq_eq_false_iff_ne]; omega
        have HP := hid (pos_succ' s.data.toList k h0)
        have H0 := hid (show pos s.data.toList (k + 1) ≤ s.size by simp only [pos]; omega)
        have H1 := hid h0
        clear h0 hn'
        go_wp2_with (first | (at_builtin; go_must (refine wpList_append_own _ rfl (.tmp 11) (.tmp 13) 45 rfl w.heap.size 3 i0 (.int .i64 0) 1 8 Tryz.underlying45 hi hz0 hz1 hz2 rfl (by decide) _ k _ rfl (hown.alloc _) ⟨wr.heap.size, 0, none⟩ 1 1 [.int .i64 (pos s.data.toList k)] rfl rfl (new_cells wr _ 3) (ints_oneCell .i64 [(pos s.data.toList k : Int)]) (by unfold maxLen; omega) (by omega) (by simp; omega) ?_; intro v1 w1 hown1 hgr1 _)) | (go_at_call 61; go_must (refine (rtake_at _ _ _ HS.out).mono ?_; rintro e w2 ⟨rfl, hb2⟩)))
        have hb1 : Below w.heap.size w w1 := (hbel.alloc hbel.size _).grown hgr1 (by simp; omega) (fun j hj => (hown.lt j hj).1)
        have hr1 : w1.ownsRow w.heap.size 3 1 v1 (k + 1) (startsV s.data.toList (k + 1)) := by rw [startsV_succ]; exact hown1
        go_roundw
        case rel => exact ⟨k + 1, val_int HP.out, H0.out, ownsRow_below hr1 hb2, hb1.trans (hb2.mono hb1.size)⟩
        case measure => have h1 := H1.out; simp [intOf]; omega
    · have HC := hid (at_cnt s.data.toList k (by omega))
      have hps : pos s.data.toList k = s.size := by omega
      have HPS := hid (show startsV s.data.toList (k + 1) = startsV s.data.toList k ++ [Value.int .i64 (s.size : Int)] by rw [startsV_succ, hps])
      clear hz hps
      go_wp2_with (first | (at_builtin; go_must (refine wpList_append_own _ rfl (.tmp 27) (.tmp 30) 45 rfl w.heap.size 3 i0 (.int .i64 0) 1 8 Tryz.underlying45 hi hz0 hz1 hz2 rfl (by decide) _ k _ rfl (hown.alloc _) ⟨wr.heap.size, 0, none⟩ 1 1 [.int .i64 (s.size : Int)] rfl rfl (new_cells wr _ 3) (ints_oneCell .i64 [(s.size : Int)]) (by unfold maxLen; omega) (by omega) (by simp; omega) ?_; intro v1 w1 hown1 hgr1 _)))
      have hb1 : Below w.heap.size w w1 := (hbel.alloc hbel.size _).grown hgr1 (by simp; omega) (fun j hj => (hown.lt j hj).1)
      have hr1 : w1.ownsRow w.heap.size 3 1 v1 (k + 1) (startsV s.data.toList (k + 1)) := by rw [HPS.out]; exact hown1
      rw [HC.out] at hr1
      go_ret
      exact ⟨_, rfl, hr1, hb1⟩
theorem starts_at (s : ByteArray) (w : World) (hs : s.size ≤ 1000000) :
    Calls Tryz.prog 125 #[.string s] w fun e w' => ∃ g cap, e = .returned (.slice (some ⟨g, 0, none⟩) (cnt s.data.toList + 1) cap) ∧ (∀ j, j ≤ cnt s.data.toList → w'.cell? ⟨g, j, none⟩ = some (.int .i64 (pos s.data.toList j))) ∧ Below w.heap.size w w' := by
  refine (starts_any s w hs).mono fun e w' ⟨v, he, hown, hb⟩ => ?_
  have hs := hown
  rcases hs with ⟨-, h | ⟨g, cap, cur, rfl, -⟩⟩
  · exact absurd h.2 (by omega)
  · refine ⟨g, cap, he, fun j hj => ?_, hb⟩
    rw [hown.cellAt j (by omega)]
    have : j < cnt s.data.toList + 1 := by omega
    simp [startsV, this]
end Go.Proofs.YtdlideihlcjblaaGreatDoor
namespace Go.Proofs.YtdlideihlcjblaaGreatDoor
open Go.RowKit

theorem take_list (s : ByteArray) (k : Nat) : (s.extract 0 k).data.toList = s.data.toList.take k := by simp
theorem take_size (s : ByteArray) (k : Nat) (h : k ≤ s.size) : (s.extract 0 k).size = k := by simp [h]
/-- the line and the column of a place -/
def ofL (t : ByteArray) (a : Int) : Nat := linOf (t.data.toList.take (clN t.size a))
def ofC (t : ByteArray) (a : Int) : Nat := colOf (t.data.toList.take (clN t.size a))
theorem colOf_at (m : ByteArray) : colOf m.data.toList = cnt (m.data.toList.drop (bol m.data.toList m.size)) + 1 := by
  unfold colOf; rw [size_list]
theorem below_drewN {B : Nat} {a w : World} (h : Below B a w) (n : Nat) : Below B a (w.drewN n) := h.trans ⟨rfl, rfl, rfl, Nat.le_refl _, fun _ _ => rfl⟩
theorem keeps {W V : World} (h : Below W.heap.size W V) : (∀ b o, b < W.heap.size → V.cell? ⟨b, o, none⟩ = W.cell? ⟨b, o, none⟩) ∧ ∀ b o, b < W.heap.size → V.frozen? ⟨b, o, none⟩ = W.frozen? ⟨b, o, none⟩ :=
  ⟨fun _ _ g => h.cell g, fun _ _ g => h.frozen g⟩
theorem onto {w a b : World} (h : Below w.heap.size w a) (k : Below a.heap.size a b) : Below w.heap.size w b := h.trans (k.mono h.size)
/-- a fault, as a value -/
def faultV (t : ByteArray) (a e : Int) : Value := .agg #[.int .i64 e, .int .i64 (clN t.size a), .int .i64 (ofL t a), .int .i64 (ofC t a)]
end Go.Proofs.YtdlideihlcjblaaGreatDoor
namespace Go.Proofs.YtdlideihlcjblaaGreatDoor
open Go.RowKit

theorem part_list (s : ByteArray) (i k : Nat) : (s.extract i k).data.toList = (s.data.toList.take k).drop i := by
  simp [List.drop_take]
theorem col_part (t : ByteArray) (k : Nat) (h : k ≤ t.size) : colOf (t.data.toList.take k) = cnt (t.extract (bol t.data.toList k) k).data.toList + 1 := by
  rw [part_list]; unfold colOf
  have e : (t.data.toList.take k).length = k := by rw [List.length_take, size_list]; omega
  rw [e, bol_take _ _ _ (Nat.le_refl _)]
end Go.Proofs.YtdlideihlcjblaaGreatDoor
