import Derived.Test.YtjbccmnmcjmooaaDoorBase
import Derived.Test.YtjbccmnmcjmooaaDoorMathPlace
import Derived.Lib.Walk
import Derived.Test.YtjbccmnmcjmooaaDoorUtfMore
import Derived.Test.YtjbccmnmcjmooaaDoorRefOne
import Derived.Deep.QuietTactic
import Derived.BigQuiet
/- The library's searches, walked at the text of one line end: strings.Index, strings.Count, strings.LastIndex. -/
/- Package place, walked: clamp, Lines, Begin; and the document's own clamp. -/
/- Package place, walked: Of, Fault; and the document's own reckoning of both. -/
/- The document's own reckoning of places, walked: Of, Fault. -/
namespace Go.Proofs.YtjbccmnmcjmooaaDoor
open Go.RowKit

set_option maxRecDepth 100000 in
set_option maxHeartbeats 400000 in
theorem ixByte_any (s : ByteArray) (w : World) :
    Calls Tryd.prog 74 #[.string s, .int .u8 10] w fun e w' => e = .returned (.int .i64 (Lib.indexByte s.data.toList 10)) ∧ w' = w := by
  go_enter Tryd.func74, Tryd.ntmps74
  go_wp2
  rw [run_callFunc_extern Tryd.func81 (by kernel_rfl) (by kernel_rfl) (by kernel_rfl) (e := Extern.BytealgIndexByte.indexByte) (by kernel_rfl), Lib.run_indexByteString]
  simp only [Result.andThen]
  rw [Oper.upon_value]
  go_wp2
  go_ret
  exact ⟨rfl, rfl⟩
set_option maxRecDepth 100000 in
set_option maxHeartbeats 400000 in
theorem ixLite_any (s : ByteArray) (w : World) :
    Calls Tryd.prog 63 #[.string s, .string ⟨#[10]⟩] w fun e w' => e = .returned (.int .i64 (Lib.indexByte s.data.toList 10)) ∧ w' = w := by
  go_enter Tryd.func63, Tryd.ntmps63
  go_wp2_with (go_at_call 74; go_must (refine (ixByte_any _ _).mono ?_; rintro e w' ⟨rfl, rfl⟩))
  · have h : ([10] == s.toList) = true := by assumption
    go_ret
    have e : s.data.toList = [10] := by rw [← Lib.toList_data]; exact (beq_iff_eq.1 h).symm
    exact ⟨ret_int (by rw [e]; rfl), rfl⟩
  · go_ret
    exact ⟨rfl, rfl⟩
set_option maxRecDepth 100000 in
set_option maxHeartbeats 400000 in
theorem ix_any (s : ByteArray) (w : World) :
    Calls Tryd.prog 48 #[.string s, .string ⟨#[10]⟩] w fun e w' => e = .returned (.int .i64 (Lib.indexByte s.data.toList 10)) ∧ w' = w := by
  go_enter Tryd.func48, Tryd.ntmps48
  go_wp2_with (go_at_call 63; go_must (refine (ixLite_any _ _).mono ?_; rintro e w' ⟨rfl, rfl⟩))
  go_ret
  exact ⟨rfl, rfl⟩
set_option maxRecDepth 100000 in
set_option maxHeartbeats 400000 in
theorem ct_any (s : ByteArray) (w : World) :
    Calls Tryd.prog 47 #[.string s, .string ⟨#[10]⟩] w fun e w' => e = .returned (.int .i64 (nls s.data.toList)) ∧ w' = w := by
  go_enter Tryd.func47, Tryd.ntmps47
  go_wp2
  rw [run_callFunc_extern Tryd.func62 (by kernel_rfl) (by kernel_rfl) (by kernel_rfl) (e := Extern.BytealgCount.count) (by kernel_rfl), Lib.run_countString]
  simp only [Result.andThen]
  rw [Oper.upon_value]
  go_wp2
  go_ret
  exact ⟨rfl, rfl⟩
set_option maxRecDepth 100000 in
set_option maxHeartbeats 400000 in
theorem lastByte_any (s : ByteArray) (w : World) (hs : s.size ≤ maxLen) :
    Calls Tryd.prog 83 #[.string s, .int .u8 10] w fun e w' => e = .returned (.int .i64 ((bol s.data.toList s.size : Int) - 1)) ∧ w' = w := by
  unfold maxLen at hs
  go_enter Tryd.func83, Tryd.ntmps83
  go_wp2
  go_loop [5] (fun i => ∃ k : Nat, k ≤ s.size ∧ i = .int .i64 ((k : Int) - 1) ∧ Hid (bol s.data.toList s.size = bol s.data.toList k)) (fun i => (intOf i + 1).toNat)
  case atStart => exact ⟨s.size, Nat.le_refl _, rfl, rfl⟩
  case round =>
    obtain ⟨k, hk, rfl, hh⟩ := hrel
    rcases k with _ | k
    · go_wp2
      go_ret
      exact ⟨ret_int (by rw [hh.out]; rfl), rfl⟩
    · have E := hid (getD_at s k hk)
      have e1 : ((k + 1 : Nat) : Int) - 1 = (k : Int) := by omega
      rw [e1]
      clear e1
      by_cases hb : s[k] = 10
      · have hb1 : ((s[k].toNat : Int) == 10) = true := by rw [hb]; rfl
        have HB := hid hb
        clear hb
        go_wp2
        go_ret
        exact ⟨ret_int (by rw [hh.out, bol_yes _ _ (by rw [E.out]; exact HB.out)]; omega), rfl⟩
      · have hb1 : ((s[k].toNat : Int) == 10) = false := byte_no _ hb
        have HB := hid hb
        clear hb
        go_wp2
        go_round
        case rel => exact ⟨k, by omega, rfl, hh.out.trans (bol_no _ _ (by rw [E.out]; exact HB.out))⟩
        case measure => simp [intOf]
set_option maxRecDepth 100000 in
set_option maxHeartbeats 400000 in
theorem last_any (s : ByteArray) (w : World) (hs : s.size ≤ maxLen) :
    Calls Tryd.prog 76 #[.string s, .string ⟨#[10]⟩] w fun e w' => e = .returned (.int .i64 ((bol s.data.toList s.size : Int) - 1)) ∧ w' = w := by
  go_enter Tryd.func76, Tryd.ntmps76
  go_wp2_with (go_at_call 83; go_must (refine (lastByte_any _ _ hs).mono ?_; rintro e w' ⟨rfl, rfl⟩))
  go_ret
  exact ⟨rfl, rfl⟩
end Go.Proofs.YtjbccmnmcjmooaaDoor
namespace Go.Proofs.YtjbccmnmcjmooaaDoor
open Go.RowKit

set_option maxRecDepth 100000 in
set_option maxHeartbeats 400000 in
theorem clamp_any (t : ByteArray) (a : Int) (w : World) :
    Calls Tryd.prog 66 #[.string t, .int .i64 a] w fun e w' => e = .returned (.int .i64 (clN t.size a)) ∧ w' = w := by
  go_enter Tryd.func66, Tryd.ntmps66
  go_wp2
  all_goals (go_ret; exact ⟨ret_int (by unfold clN; omega), rfl⟩)
set_option maxRecDepth 100000 in
set_option maxHeartbeats 400000 in
theorem lines_any (t : ByteArray) (w : World) (hs : t.size ≤ 1000000) :
    Calls Tryd.prog 77 #[.string t] w fun e w' => e = .returned (.int .i64 (linOf t.data.toList)) ∧ w' = w := by
  have hn := nls_le t.data.toList
  rw [size_list] at hn
  go_enter Tryd.func77, Tryd.ntmps77
  go_wp2_with (go_at_call 47; go_must (refine (ct_any _ _).mono ?_; rintro e w' ⟨rfl, rfl⟩))
  go_ret
  exact ⟨ret_int (by unfold linOf; omega), rfl⟩
theorem drop_at (s : ByteArray) (p : Nat) (w : World) :
    Calls Tryd.prog 48 #[.string (s.extract p s.size), .string ⟨#[10]⟩] w fun e w' => e = .returned (.int .i64 (Lib.indexByte (s.data.toList.drop p) 10)) ∧ w' = w := by
  have := ix_any (s.extract p s.size) w
  rwa [drop_list] at this
end Go.Proofs.YtjbccmnmcjmooaaDoor
namespace Go.Proofs.YtjbccmnmcjmooaaDoor
open Go.RowKit

theorem Tryd.info_int : (Tryd.prog.info? 3).map (fun i => (i.zero, i.size, i.bytes)) = some (some (.int .i64 0), 1, 8) := by kernel_rfl
/-- where a text's first k letters begin, as values -/
def startsV (l : List UInt8) (k : Nat) : List Value := (List.range k).map (fun j => Value.int .i64 (pos l j))
theorem startsV_succ (l : List UInt8) (k : Nat) : startsV l (k + 1) = startsV l k ++ [Value.int .i64 (pos l k)] := by simp [startsV, List.range_succ]
end Go.Proofs.YtjbccmnmcjmooaaDoor
namespace Go.Proofs.YtjbccmnmcjmooaaDoor
open Go.RowKit

theorem take_list (s : ByteArray) (k : Nat) : (s.extract 0 k).data.toList = s.data.toList.take k := by simp
theorem take_size (s : ByteArray) (k : Nat) (h : k ≤ s.size) : (s.extract 0 k).size = k := by simp [h]
/-- the line and the column of a place -/
def ofL (t : ByteArray) (a : Int) : Nat := linOf (t.data.toList.take (clN t.size a))
def ofC (t : ByteArray) (a : Int) : Nat := colOf (t.data.toList.take (clN t.size a))
theorem colOf_at (m : ByteArray) : colOf m.data.toList = cnt (m.data.toList.drop (bol m.data.toList m.size)) + 1 := by
  unfold colOf; rw [size_list]
theorem count_at (s : ByteArray) (p : Nat) (w : World) (hs : s.size ≤ maxLen) :
    Calls Tryd.prog 78 #[.string (s.extract p s.size)] w fun e w' => e = .returned (.int .i64 (cnt (s.data.toList.drop p))) ∧ w' = w := by
  have := count_any (s.extract p s.size) w (cut_size _ _ hs)
  rwa [drop_list] at this
set_option maxRecDepth 100000 in
set_option maxHeartbeats 400000 in
theorem of_any (t : ByteArray) (a : Int) (w : World) (hs : t.size ≤ 1000000) :
    Calls Tryd.prog 65 #[.string t, .int .i64 a] w fun e w' => e = .returned (.tuple #[.int .i64 (ofL t a), .int .i64 (ofC t a)]) ∧ ∃ n, w' = w.drewN n := by
  have hc := clN_le t.size a
  obtain ⟨k, hk⟩ : ∃ k, clN t.size a = k := ⟨_, rfl⟩
  have HK := hid hk
  obtain ⟨m, hm⟩ : ∃ m, t.extract 0 k = m := ⟨_, rfl⟩
  have hms : m.size = k := by rw [← hm]; exact take_size t k (by omega)
  have HL := hid (show m.data.toList = t.data.toList.take k by rw [← hm]; exact take_list t k)
  have hmx : m.size ≤ maxLen := max_le (by omega)
  have hb := bol_le m.data.toList m.size
  have HC := hid (colOf_at m)
  have hcn : cnt (m.data.toList.drop (bol m.data.toList m.size)) ≤ m.size := by
    have := cnt_le (m.data.toList.drop (bol m.data.toList m.size)); rw [List.length_drop, size_list] at this; omega
  have hkt : k ≤ t.size := by omega
  have HM := hid hmx
  have hmy : m.size ≤ 1000000 := by omega
  clear hmx hms hk
  have e1 : ((bol m.data.toList m.size : Nat) : Int) - 1 + 1 = ((bol m.data.toList m.size : Nat) : Int) := by omega
  go_enter Tryd.func65, Tryd.ntmps65
  go_wp2_with (first
    | (go_at_call 66; go_must (refine (clamp_any _ _ _).mono ?_; rintro e w' ⟨rfl, rfl⟩; rw [HK.out]))
    | (go_at_call 76; go_must (refine (last_any _ _ HM.out).mono ?_; rintro e w' ⟨rfl, rfl⟩)))
  go_quiet (first
    | (go_at_call 77; go_must (exact Calls.quiet_of_same (lines_any _ _ hmy)))
    | (go_at_call 78; go_must (exact Calls.quiet_of_same (count_at _ _ _ HM.out))))
  go_wp2_with fail
  go_ret2
  exact ⟨ret_two (by unfold ofL; rw [HK.out, ← HL.out]) (by unfold ofC; rw [HK.out, ← HL.out, HC.out]; omega), _, rfl⟩
theorem below_drewN {B : Nat} {a w : World} (h : Below B a w) (n : Nat) : Below B a (w.drewN n) := h.trans ⟨rfl, rfl, rfl, Nat.le_refl _, fun _ _ => rfl⟩
theorem keeps {W V : World} (h : Below W.heap.size W V) : (∀ b o, b < W.heap.size → V.cell? ⟨b, o, none⟩ = W.cell? ⟨b, o, none⟩) ∧ ∀ b o, b < W.heap.size → V.frozen? ⟨b, o, none⟩ = W.frozen? ⟨b, o, none⟩ :=
  ⟨fun _ _ g => h.cell g, fun _ _ g => h.frozen g⟩
theorem onto {w a b : World} (h : Below w.heap.size w a) (k : Below a.heap.size a b) : Below w.heap.size w b := h.trans (k.mono h.size)
/-- a fault, as a value -/
def faultV (t : ByteArray) (a e : Int) : Value := .agg #[.int .i64 e, .int .i64 (clN t.size a), .int .i64 (ofL t a), .int .i64 (ofC t a)]
set_option maxRecDepth 100000 in
set_option maxHeartbeats 400000 in
theorem fault_any (t : ByteArray) (a e : Int) (w : World) (hs : t.size ≤ 1000000) :
    Calls Tryd.prog 50 #[.string t, .int .i64 a, .int .i64 e] w fun e' w' => e' = .returned (faultV t a e) ∧ Below w.heap.size w w' := by
  go_enter Tryd.func50, Tryd.ntmps50
  go_wp2_with (first
    | (go_at_call 65; go_must (refine (of_any _ _ _ hs).mono ?_; rintro e' w' ⟨rfl, n, rfl⟩))
    | (go_at_call 66; go_must (refine (clamp_any _ _ _).mono ?_; rintro e' w' ⟨rfl, rfl⟩)))
  refine bodyPost_ret (v := faultV t a e) (by simp [results, Tryd.results50, go_sem, faultV]) rfl ⟨rfl, ?_⟩
  exact ((((below_drewN ((Below.refl _ _).alloc (Nat.le_refl _) _) n).setCell (Nat.le_refl _) _).setCell (Nat.le_refl _) _).setCell (Nat.le_refl _) _).setCell (Nat.le_refl _) _
end Go.Proofs.YtjbccmnmcjmooaaDoor
namespace Go.Proofs.YtjbccmnmcjmooaaDoor
open Go.RowKit

theorem part_list (s : ByteArray) (i k : Nat) : (s.extract i k).data.toList = (s.data.toList.take k).drop i := by
  simp [List.drop_take]
theorem col_part (t : ByteArray) (k : Nat) (h : k ≤ t.size) : colOf (t.data.toList.take k) = cnt (t.extract (bol t.data.toList k) k).data.toList + 1 := by
  rw [part_list]; unfold colOf
  have e : (t.data.toList.take k).length = k := by rw [List.length_take, size_list]; omega
  rw [e, bol_take _ _ _ (Nat.le_refl _)]
end Go.Proofs.YtjbccmnmcjmooaaDoor
