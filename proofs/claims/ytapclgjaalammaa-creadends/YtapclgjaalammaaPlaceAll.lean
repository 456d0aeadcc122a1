import Derived.Test.YtapclgjaalammaaBase
import Derived.Test.YtapclgjaalammaaMathPlace
import Derived.Lib.Walk
import Derived.Test.YtapclgjaalammaaUtfMore
import Derived.Test.YtapclgjaalammaaRefOne
import Derived.Deep.QuietTactic
import Derived.BigQuiet
/- The library's searches, walked at the text of one line end: strings.Index, strings.Count, strings.LastIndex. -/
/- Package place, walked: clamp, Lines, Begin; and the document's own clamp. -/
/- Package place, walked: Of, Fault; and the document's own reckoning of both. -/
/- The document's own reckoning of places, walked: Of, Fault. -/
namespace Go.Proofs.Ytapclgjaalammaa
open Go.RowKit

set_option maxRecDepth 100000 in
set_option maxHeartbeats 400000 in
theorem ixByte_any (s : ByteArray) (w : World) :
    Calls Try.prog 70 #[.string s, .int .u8 10] w fun e w' => e = .returned (.int .i64 (Lib.indexByte s.data.toList 10)) ∧ w' = w := by
  go_enter Try.func70, Try.ntmps70
  go_wp2
  rw [run_callFunc_extern Try.func72 (by kernel_rfl) (by kernel_rfl) (by kernel_rfl) (e := Extern.BytealgIndexByte.indexByte) (by kernel_rfl), Lib.run_indexByteString]
  simp only [Result.andThen]
  rw [Oper.upon_value]
  go_wp2
  go_ret
  exact ⟨rfl, rfl⟩
set_option maxRecDepth 100000 in
set_option maxHeartbeats 400000 in
theorem ixLite_any (s : ByteArray) (w : World) :
    Calls Try.prog 65 #[.string s, .string ⟨#[10]⟩] w fun e w' => e = .returned (.int .i64 (Lib.indexByte s.data.toList 10)) ∧ w' = w := by
  go_enter Try.func65, Try.ntmps65
  go_wp2_with (go_at_call 70; go_must (refine (ixByte_any _ _).mono ?_; rintro e w' ⟨rfl, rfl⟩))
  · have h : ([10] == s.toList) = true := by assumption
    go_ret
    have e : s.data.toList = [10] := by rw [← Lib.toList_data]; exact (beq_iff_eq.1 h).symm
    exact ⟨ret_int (by rw [e]; rfl), rfl⟩
  · go_ret
    exact ⟨rfl, rfl⟩
set_option maxRecDepth 100000 in
set_option maxHeartbeats 400000 in
theorem ix_any (s : ByteArray) (w : World) :
    Calls Try.prog 64 #[.string s, .string ⟨#[10]⟩] w fun e w' => e = .returned (.int .i64 (Lib.indexByte s.data.toList 10)) ∧ w' = w := by
  go_enter Try.func64, Try.ntmps64
  go_wp2_with (go_at_call 65; go_must (refine (ixLite_any _ _).mono ?_; rintro e w' ⟨rfl, rfl⟩))
  go_ret
  exact ⟨rfl, rfl⟩
set_option maxRecDepth 100000 in
set_option maxHeartbeats 400000 in
theorem ct_any (s : ByteArray) (w : World) :
    Calls Try.prog 52 #[.string s, .string ⟨#[10]⟩] w fun e w' => e = .returned (.int .i64 (nls s.data.toList)) ∧ w' = w := by
  go_enter Try.func52, Try.ntmps52
  go_wp2
  rw [run_callFunc_extern Try.func63 (by kernel_rfl) (by kernel_rfl) (by kernel_rfl) (e := Extern.BytealgCount.count) (by kernel_rfl), Lib.run_countString]
  simp only [Result.andThen]
  rw [Oper.upon_value]
  go_wp2
  go_ret
  exact ⟨rfl, rfl⟩
set_option maxRecDepth 100000 in
set_option maxHeartbeats 400000 in
theorem lastByte_any (s : ByteArray) (w : World) (hs : s.size ≤ maxLen) :
    Calls Try.prog 50 #[.string s, .int .u8 10] w fun e w' => e = .returned (.int .i64 ((bol s.data.toList s.size : Int) - 1)) ∧ w' = w := by
  unfold maxLen at hs
  go_enter Try.func50, Try.ntmps50
  go_wp2
  go_loop [5] (fun i => ∃ k : Nat, k ≤ s.size ∧ i = .int .i64 ((k : Int) - 1) ∧ Hid (bol s.data.toList s.size = bol s.data.toList k)) (fun i => (intOf i + 1).toNat)
  case atStart => exact ⟨s.size, Nat.le_refl _, rfl, rfl⟩
  case round =>
    obtain ⟨k, hk, rfl, hh⟩ := hrel
    rcases k with _ | k
    · go_wp2
      go_ret
      exact ⟨ret_int (by rw [hh.out]; rfl), rfl⟩
    · have E := hid (getD_at s k hk)
      have e1 : ((k + 1 : Nat) : Int) - 1 = (k : Int) := by omega
      rw [e1]
      clear e1
      by_cases hb : s[k] = 10
      · have hb1 : ((s[k].toNat : Int) == 10) = true := by rw [hb]; rfl
        have HB := hid hb
        clear hb
        go_wp2
        go_ret
        exact ⟨ret_int (by rw [hh.out, bol_yes _ _ (by rw [E.out]; exact HB.out)]; omega), rfl⟩
      · have hb1 : ((s[k].toNat : Int) == 10) = false := byte_no _ hb
        have HB := hid hb
        clear hb
        go_wp2
        go_round
        case rel => exact ⟨k, by omega, rfl, hh.out.trans (bol_no _ _ (by rw [E.out]; exact HB.out))⟩
        case measure => simp [intOf]
set_option maxRecDepth 100000 in
set_option maxHeartbeats 400000 in
theorem last_any (s : ByteArray) (w : World) (hs : s.size ≤ maxLen) :
    Calls Try.prog 43 #[.string s, .string ⟨#[10]⟩] w fun e w' => e = .returned (.int .i64 ((bol s.data.toList s.size : Int) - 1)) ∧ w' = w := by
  go_enter Try.func43, Try.ntmps43
  go_wp2_with (go_at_call 50; go_must (refine (lastByte_any _ _ hs).mono ?_; rintro e w' ⟨rfl, rfl⟩))
  go_ret
  exact ⟨rfl, rfl⟩
end Go.Proofs.Ytapclgjaalammaa
namespace Go.Proofs.Ytapclgjaalammaa
open Go.RowKit

set_option maxRecDepth 100000 in
set_option maxHeartbeats 400000 in
theorem clamp_any (t : ByteArray) (a : Int) (w : World) :
    Calls Try.prog 35 #[.string t, .int .i64 a] w fun e w' => e = .returned (.int .i64 (clN t.size a)) ∧ w' = w := by
  go_enter Try.func35, Try.ntmps35
  go_wp2
  all_goals (go_ret; exact ⟨ret_int (by unfold clN; omega), rfl⟩)
set_option maxRecDepth 100000 in
set_option maxHeartbeats 400000 in
theorem lines_any (t : ByteArray) (w : World) (hs : t.size ≤ 1000000) :
    Calls Try.prog 44 #[.string t] w fun e w' => e = .returned (.int .i64 (linOf t.data.toList)) ∧ w' = w := by
  have hn := nls_le t.data.toList
  rw [size_list] at hn
  go_enter Try.func44, Try.ntmps44
  go_wp2_with (go_at_call 52; go_must (refine (ct_any _ _).mono ?_; rintro e w' ⟨rfl, rfl⟩))
  go_ret
  exact ⟨ret_int (by unfold linOf; omega), rfl⟩
set_option maxRecDepth 100000 in
set_option maxHeartbeats 400000 in
theorem rclamp_any (t : ByteArray) (a : Int) (w : World) :
    Calls Try.prog 21 #[.string t, .int .i64 a] w fun e w' => e = .returned (.int .i64 (clN t.size a)) ∧ w' = w := by
  go_enter Try.func21, Try.ntmps21
  go_wp2
  all_goals (go_ret; exact ⟨ret_int (by unfold clN; omega), rfl⟩)
theorem drop_at (s : ByteArray) (p : Nat) (w : World) :
    Calls Try.prog 64 #[.string (s.extract p s.size), .string ⟨#[10]⟩] w fun e w' => e = .returned (.int .i64 (Lib.indexByte (s.data.toList.drop p) 10)) ∧ w' = w := by
  have := ix_any (s.extract p s.size) w
  rwa [drop_list] at this
end Go.Proofs.Ytapclgjaalammaa
namespace Go.Proofs.Ytapclgjaalammaa
open Go.RowKit

theorem Try.info_int : (Try.prog.info? 3).map (fun i => (i.zero, i.size, i.bytes)) = some (some (.int .i64 0), 1, 8) := by kernel_rfl
/-- where a text's first k letters begin, as values -/
def startsV (l : List UInt8) (k : Nat) : List Value := (List.range k).map (fun j => Value.int .i64 (pos l j))
theorem startsV_succ (l : List UInt8) (k : Nat) : startsV l (k + 1) = startsV l k ++ [Value.int .i64 (pos l k)] := by simp [startsV, List.range_succ]
set_option maxRecDepth 100000 in
set_option maxHeartbeats 800000 in
theorem starts_any (s : ByteArray) (w : World) (hs : s.size ≤ 1000000) :
    Calls Try.prog 27 #[.string s] w fun e w' => ∃ v, e = .returned v ∧ w'.ownsRow w.heap.size 3 1 v (cnt s.data.toList + 1) (startsV s.data.toList (cnt s.data.toList + 1)) ∧ Below w.heap.size w w' := by
  have HS := hid (show s.size ≤ maxLen by unfold maxLen; omega)
  have HZ := hid (size_list s)
  obtain ⟨i0, hi, hz0, hz1, hz2⟩ := info_parts Try.info_int
  go_enter Try.func27, Try.ntmps27
  go_wp2
  go_loopw [3, 4] (fun v i wr => ∃ k : Nat, i = .int .i64 (pos s.data.toList k) ∧ pos s.data.toList k ≤ s.size ∧ wr.ownsRow w.heap.size 3 1 v k (startsV s.data.toList k) ∧ Below w.heap.size w wr) (fun _ i _ => s.size - (intOf i).toNat)
  case atStart => exact ⟨0, rfl, Nat.zero_le _, World.ownsRow_nil _ _ _ _, Below.refl _ _⟩
  case round =>
    obtain ⟨k, rfl, hp, hown, hbel⟩ := hrel
    have hk := pos_ge s.data.toList k
    have hz := HZ.out
    have hsz := hbel.size
    by_cases hlt : pos s.data.toList k < s.size
    · have hn := pos_next s.data.toList k (by omega)
      have hn' : pos s.data.toList k + stp (s.data.toList.drop (pos s.data.toList k)) ≤ s.size := by simp only [pos] at hn; omega
      have hn2 : pos s.data.toList k + tkN (s.data.toList.drop (pos s.data.toList k)) ≤ s.size := by unfold stp at hn'; omega
      clear hz hn
      by_cases h0 : tkN (s.data.toList.drop (pos s.data.toList k)) = 0
      · have h0' : (((tkN (s.data.toList.drop (pos s.data.toList k)) : Nat) : Int) == 0) = true := by rw [h0]; rfl
        have HP := hid (show ((pos s.data.toList k : Nat) : Int) + 1 = ((pos s.data.toList (k + 1) : Nat) : Int) by simp only [pos, stp]; omega)
        have H0 := hid (show pos s.data.toList (k + 1) ≤ s.size by simp only [pos]; omega)
        clear h0 hn'
        go_wp2_with (first | (at_builtin; go_must (refine wpList_append_own _ rfl (.tmp 11) (.tmp 13) 44 rfl w.heap.size 3 i0 (.int .i64 0) 1 8 Try.underlying44 hi hz0 hz1 hz2 rfl (by decide) _ k _ rfl (hown.alloc _) ⟨wr.heap.size, 0, none⟩ 1 1 [.int .i64 (pos s.data.toList k)] rfl rfl (new_cells wr _ 3) (ints_oneCell .i64 [(pos s.data.toList k : Int)]) (by unfold maxLen; omega) (by omega) (by simp; omega) ?_; intro v1 w1 hown1 hgr1 _)) | (go_at_call 26; go_must (refine (rtake_at _ _ _ HS.out).mono ?_; rintro e w2 ⟨rfl, hb2⟩)))
        have hb1 : Below w.heap.size w w1 := (hbel.alloc hbel.size _).grown hgr1 (by simp; omega) (fun j hj => (hown.lt j hj).1)
        have hr1 : w1.ownsRow w.heap.size 3 1 v1 (k + 1) (startsV s.data.toList (k + 1)) := by rw [startsV_succ]; exact hown1
        go_roundw
        case rel => exact ⟨k + 1, val_int HP.out, H0.out, ownsRow_below hr1 hb2, hb1.trans (hb2.mono hb1.size)⟩
        case measure => simp [intOf]; omega
      · have h0' : (((tkN (s.data.toList.drop (pos s.data.toList k)) : Nat) : Int) == 0) = false := by rw [beq_eq_false_iff_ne]; omega
        have HP := hid (pos_succ' s.data.toList k h0)
        have H0 := hid (show pos s.data.toList (k + 1) ≤ s.size by simp only [pos]; omega)
        have H1 := hid h0
        clear h0 hn'
        go_wp2_with (first | (at_builtin; go_must (refine wpList_append_own _ rfl (.tmp 11) (.tmp 13) 44 rfl w.heap.size 3 i0 (.int .i64 0) 1 8 Try.underlying44 hi hz0 hz1 hz2 rfl (by decide) _ k _ rfl (hown.alloc _) ⟨wr.heap.size, 0, none⟩ 1 1 [.int .i64 (pos s.data.toList k)] rfl rfl (new_cells wr _ 3) (ints_oneCell .i64 [(pos s.data.toList k : Int)]) (by unfold maxLen; omega) (by omega) (by simp; omega) ?_; intro v1 w1 hown1 hgr1 _)) | (go_at_call 26; go_must (refine (rtake_at _ _ _ HS.out).mono ?_; rintro e w2 ⟨rfl, hb2⟩)))
        have hb1 : Below w.heap.size w w1 := (hbel.alloc hbel.size _).grown hgr1 (by simp; omega) (fun j hj => (hown.lt j hj).1)
        have hr1 : w1.ownsRow w.heap.size 3 1 v1 (k + 1) (startsV s.data.toList (k + 1)) := by rw [startsV_succ]; exact hown1
        go_roundw
        case rel => exact ⟨k + 1, val_int HP.out, H0.out, ownsRow_below hr1 hb2, hb1.trans (hb2.mono hb1.size)⟩
        case measure => have h1 := H1.out; simp [intOf]; omega
    · have HC := hid (at_cnt s.data.toList k (by omega))
      have hps : pos s.data.toList k = s.size := by omega
      have HPS := hid (show startsV s.data.toList (k + 1) = startsV s.data.toList k ++ [Value.int .i64 (s.size : Int)] by rw [startsV_succ, hps])
      clear hz hps
      go_wp2_with (first | (at_builtin; go_must (refine wpList_append_own _ rfl (.tmp 27) (.tmp 30) 44 rfl w.heap.size 3 i0 (.int .i64 0) 1 8 Try.underlying44 hi hz0 hz1 hz2 rfl (by decide) _ k _ rfl (hown.alloc _) ⟨wr.heap.size, 0, none⟩ 1 1 [.int .i64 (s.size : Int)] rfl rfl (new_cells wr _ 3) (ints_oneCell .i64 [(s.size : Int)]) (by unfold maxLen; omega) (by omega) (by simp; omega) ?_; intro v1 w1 hown1 hgr1 _)))
      have hb1 : Below w.heap.size w w1 := (hbel.alloc hbel.size _).grown hgr1 (by simp; omega) (fun j hj => (hown.lt j hj).1)
      have hr1 : w1.ownsRow w.heap.size 3 1 v1 (k + 1) (startsV s.data.toList (k + 1)) := by rw [HPS.out]; exact hown1
      rw [HC.out] at hr1
      go_ret
      exact ⟨_, rfl, hr1, hb1⟩
theorem starts_at (s : ByteArray) (w : World) (hs : s.size ≤ 1000000) :
    Calls Try.prog 27 #[.string s] w fun e w' => ∃ g cap, e = .returned (.slice (some ⟨g, 0, none⟩) (cnt s.data.toList + 1) cap) ∧ (∀ j, j ≤ cnt s.data.toList → w'.cell? ⟨g, j, none⟩ = some (.int .i64 (pos s.data.toList j))) ∧ Below w.heap.size w w' := by
  refine (starts_any s w hs).mono fun e w' ⟨v, he, hown, hb⟩ => ?_
  have hs := hown
  rcases hs with ⟨-, h | ⟨g, cap, cur, rfl, -⟩⟩
  · exact absurd h.2 (by omega)
  · refine ⟨g, cap, he, fun j hj => ?_, hb⟩
    rw [hown.cellAt j (by omega)]
    have : j < cnt s.data.toList + 1 := by omega
    simp [startsV, this]
end Go.Proofs.Ytapclgjaalammaa
namespace Go.Proofs.Ytapclgjaalammaa
open Go.RowKit

theorem take_list (s : ByteArray) (k : Nat) : (s.extract 0 k).data.toList = s.data.toList.take k := by simp
theorem take_size (s : ByteArray) (k : Nat) (h : k ≤ s.size) : (s.extract 0 k).size = k := by simp [h]
/-- the line and the column of a place -/
def ofL (t : ByteArray) (a : Int) : Nat := linOf (t.data.toList.take (clN t.size a))
def ofC (t : ByteArray) (a : Int) : Nat := colOf (t.data.toList.take (clN t.size a))
theorem colOf_at (m : ByteArray) : colOf m.data.toList = cnt (m.data.toList.drop (bol m.data.toList m.size)) + 1 := by
  unfold colOf; rw [size_list]
theorem count_at (s : ByteArray) (p : Nat) (w : World) (hs : s.size ≤ maxLen) :
    Calls Try.prog 45 #[.string (s.extract p s.size)] w fun e w' => e = .returned (.int .i64 (cnt (s.data.toList.drop p))) ∧ w' = w := by
  have := count_any (s.extract p s.size) w (cut_size _ _ hs)
  rwa [drop_list] at this
set_option maxRecDepth 100000 in
set_option maxHeartbeats 400000 in
theorem of_any (t : ByteArray) (a : Int) (w : World) (hs : t.size ≤ 1000000) :
    Calls Try.prog 34 #[.string t, .int .i64 a] w fun e w' => e = .returned (.tuple #[.int .i64 (ofL t a), .int .i64 (ofC t a)]) ∧ ∃ n, w' = w.drewN n := by
  have hc := clN_le t.size a
  obtain ⟨k, hk⟩ : ∃ k, clN t.size a = k := ⟨_, rfl⟩
  have HK := hid hk
  obtain ⟨m, hm⟩ : ∃ m, t.extract 0 k = m := ⟨_, rfl⟩
  have hms : m.size = k := by rw [← hm]; exact take_size t k (by omega)
  have HL := hid (show m.data.toList = t.data.toList.take k by rw [← hm]; exact take_list t k)
  have hmx : m.size ≤ maxLen := max_le (by omega)
  have hb := bol_le m.data.toList m.size
  have HC := hid (colOf_at m)
  have hcn : cnt (m.data.toList.drop (bol m.data.toList m.size)) ≤ m.size := by
    have := cnt_le (m.data.toList.drop (bol m.data.toList m.size)); rw [List.length_drop, size_list] at this; omega
  have hkt : k ≤ t.size := by omega
  have HM := hid hmx
  have hmy : m.size ≤ 1000000 := by omega
  clear hmx hms hk
  have e1 : ((bol m.data.toList m.size : Nat) : Int) - 1 + 1 = ((bol m.data.toList m.size : Nat) : Int) := by omega
  go_enter Try.func34, Try.ntmps34
  go_wp2_with (first
    | (go_at_call 35; go_must (refine (clamp_any _ _ _).mono ?_; rintro e w' ⟨rfl, rfl⟩; rw [HK.out]))
    | (go_at_call 43; go_must (refine (last_any _ _ HM.out).mono ?_; rintro e w' ⟨rfl, rfl⟩)))
  go_quiet (first
    | (go_at_call 44; go_must (exact Calls.quiet_of_same (lines_any _ _ hmy)))
    | (go_at_call 45; go_must (exact Calls.quiet_of_same (count_at _ _ _ HM.out))))
  go_wp2_with fail
  go_ret2
  exact ⟨ret_two (by unfold ofL; rw [HK.out, ← HL.out]) (by unfold ofC; rw [HK.out, ← HL.out, HC.out]; omega), _, rfl⟩
theorem below_drewN {B : Nat} {a w : World} (h : Below B a w) (n : Nat) : Below B a (w.drewN n) := h.trans ⟨rfl, rfl, rfl, Nat.le_refl _, fun _ _ => rfl⟩
theorem keeps {W V : World} (h : Below W.heap.size W V) : (∀ b o, b < W.heap.size → V.cell? ⟨b, o, none⟩ = W.cell? ⟨b, o, none⟩) ∧ ∀ b o, b < W.heap.size → V.frozen? ⟨b, o, none⟩ = W.frozen? ⟨b, o, none⟩ :=
  ⟨fun _ _ g => h.cell g, fun _ _ g => h.frozen g⟩
theorem onto {w a b : World} (h : Below w.heap.size w a) (k : Below a.heap.size a b) : Below w.heap.size w b := h.trans (k.mono h.size)
/-- a fault, as a value -/
def faultV (t : ByteArray) (a e : Int) : Value := .agg #[.int .i64 e, .int .i64 (clN t.size a), .int .i64 (ofL t a), .int .i64 (ofC t a)]
set_option maxRecDepth 100000 in
set_option maxHeartbeats 400000 in
theorem fault_any (t : ByteArray) (a e : Int) (w : World) (hs : t.size ≤ 1000000) :
    Calls Try.prog 28 #[.string t, .int .i64 a, .int .i64 e] w fun e' w' => e' = .returned (faultV t a e) ∧ Below w.heap.size w w' := by
  go_enter Try.func28, Try.ntmps28
  go_wp2_with (first
    | (go_at_call 34; go_must (refine (of_any _ _ _ hs).mono ?_; rintro e' w' ⟨rfl, n, rfl⟩))
    | (go_at_call 35; go_must (refine (clamp_any _ _ _).mono ?_; rintro e' w' ⟨rfl, rfl⟩)))
  refine bodyPost_ret (v := faultV t a e) (by simp [results, Try.results28, go_sem, faultV]) rfl ⟨rfl, ?_⟩
  exact ((((below_drewN ((Below.refl _ _).alloc (Nat.le_refl _) _) n).setCell (Nat.le_refl _) _).setCell (Nat.le_refl _) _).setCell (Nat.le_refl _) _).setCell (Nat.le_refl _) _
end Go.Proofs.Ytapclgjaalammaa
namespace Go.Proofs.Ytapclgjaalammaa
open Go.RowKit

theorem part_list (s : ByteArray) (i k : Nat) : (s.extract i k).data.toList = (s.data.toList.take k).drop i := by
  simp [List.drop_take]
theorem col_part (t : ByteArray) (k : Nat) (h : k ≤ t.size) : colOf (t.data.toList.take k) = cnt (t.extract (bol t.data.toList k) k).data.toList + 1 := by
  rw [part_list]; unfold colOf
  have e : (t.data.toList.take k).length = k := by rw [List.length_take, size_list]; omega
  rw [e, bol_take _ _ _ (Nat.le_refl _)]
set_option maxRecDepth 100000 in
set_option maxHeartbeats 400000 in
theorem rof_any (t : ByteArray) (a : Int) (w : World) (hs : t.size ≤ 1000000) :
    Calls Try.prog 20 #[.string t, .int .i64 a] w fun e w' => e = .returned (.tuple #[.int .i64 (ofL t a), .int .i64 (ofC t a)]) ∧ Below w.heap.size w w' := by
  have HZ := hid (size_list t)
  have hc := clN_le t.size a
  obtain ⟨k, hk⟩ : ∃ k, clN t.size a = k := ⟨_, rfl⟩
  have HK := hid hk
  have hkt : k ≤ t.size := by omega
  have HC := hid (col_part t k hkt)
  have HX := hid (show (t.extract (bol t.data.toList k) k).size ≤ 1000000 by rw [ByteArray.size_extract]; omega)
  have hb := bol_le t.data.toList k
  clear hc hk
  go_enter Try.func20, Try.ntmps20
  go_wp2_with (first
    | (go_at_call 21; go_must (refine (rclamp_any _ _ _).mono ?_; rintro e w' ⟨rfl, rfl⟩; rw [HK.out])))
  go_loop [6, 7, 8] (fun x y z => ∃ i : Nat, i ≤ k ∧ x = .int .i64 ((nls (t.data.toList.take i) : Int) + 1) ∧ y = .int .i64 (bol t.data.toList i) ∧ z = .int .i64 i) (fun _ _ z => k - (intOf z).toNat)
  case atStart => exact ⟨0, Nat.zero_le _, rfl, rfl, rfl⟩
  case round =>
    obtain ⟨i, hi, rfl, rfl, rfl⟩ := hrel
    have hn := nls_le (t.data.toList.take i)
    have hn' : nls (t.data.toList.take i) ≤ i := by rw [List.length_take] at hn; omega
    clear hn
    by_cases hlt : i < k
    · have hi' : i < t.size := by omega
      have E := hid (getD_at t i hi')
      have N := hid (nls_take_succ t.data.toList i (by rw [HZ.out]; exact hi'))
      by_cases h10 : t[i] = 10
      · have h1 : ((t[i].toNat : Int) == 10) = true := by rw [h10]; rfl
        have H10 := hid h10
        clear h10
        go_wp2_with fail
        go_round
        case rel => exact ⟨i + 1, hlt, val_int (by rw [N.out, if_pos (E.out.trans H10.out)]; omega), val_int (by rw [bol_yes _ _ (E.out.trans H10.out)]; omega), val_int (by omega)⟩
        case measure => simp [intOf]; omega
      · have h1 : ((t[i].toNat : Int) == 10) = false := byte_no _ h10
        have H10 := hid h10
        clear h10
        go_wp2_with fail
        go_round
        case rel => exact ⟨i + 1, hlt, val_int (by rw [N.out, if_neg (by rw [E.out]; exact H10.out)]; omega), val_int (by rw [bol_no _ _ (by rw [E.out]; exact H10.out)]), val_int (by omega)⟩
        case measure => simp [intOf]; omega
    · have : i = k := by omega
      subst this
      obtain ⟨m, hm⟩ : ∃ m, t.extract (bol t.data.toList i) i = m := ⟨_, rfl⟩
      rw [hm] at HX HC
      go_wp2_with (first
        | (go_at_call 27; go_must (refine (starts_at _ _ HX.out).mono ?_; rintro e w' ⟨g, cap, rfl, -, hbel⟩)))
      go_ret2
      exact ⟨ret_two (by unfold ofL linOf; rw [HK.out]; omega) (by unfold ofC; rw [HK.out, HC.out]; rfl), hbel⟩
set_option maxRecDepth 100000 in
set_option maxHeartbeats 400000 in
theorem rfault_any (t : ByteArray) (a e : Int) (w : World) (hs : t.size ≤ 1000000) :
    Calls Try.prog 11 #[.string t, .int .i64 a, .int .i64 e] w fun e' w' => e' = .returned (faultV t a e) ∧ Below w.heap.size w w' := by
  go_enter Try.func11, Try.ntmps11
  go_wp2_with (first
    | (go_at_call 20; go_must (refine (rof_any _ _ _ hs).mono ?_; rintro e' w' ⟨rfl, hb⟩; obtain ⟨hc, hf⟩ := keeps hb; have hz : w.heap.size < w'.heap.size := (by have := hb.size; simp at this; omega)))
    | (go_at_call 21; go_must (refine (rclamp_any _ _ _).mono ?_; rintro e' w' ⟨rfl, rfl⟩)))
  refine bodyPost_ret (v := faultV t a e) (by simp [results, Try.results11, go_sem, faultV, hc]) rfl ⟨rfl, ?_⟩
  exact (((((((Below.refl _ _).alloc (Nat.le_refl _) _).trans (hb.mono (by simp))).setCell (Nat.le_refl _) _).setCell (Nat.le_refl _) _).setCell (Nat.le_refl _) _).setCell (Nat.le_refl _) _)
end Go.Proofs.Ytapclgjaalammaa
