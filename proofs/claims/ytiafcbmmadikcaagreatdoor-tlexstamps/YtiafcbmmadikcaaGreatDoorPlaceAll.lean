import Derived.Test.YtiafcbmmadikcaaGreatDoorBase
import Derived.Test.YtiafcbmmadikcaaGreatDoorMathPlace
import Derived.Lib.Walk
import Derived.Test.YtiafcbmmadikcaaGreatDoorUtfMore
import Derived.Test.YtiafcbmmadikcaaGreatDoorRefOne
import Derived.Deep.QuietTactic
import Derived.BigQuiet
/- The library's searches, walked at the text of one line end: strings.Index, strings.Count, strings.LastIndex. -/
/- Package place, walked: clamp, Lines, Begin; and the document's own clamp. -/
/- Package place, walked: Of, Fault; and the document's own reckoning of both. -/
/- The document's own reckoning of places, walked: Of, Fault. -/
namespace Go.Proofs.YtiafcbmmadikcaaGreatDoor
open Go.RowKit

set_option maxRecDepth 100000 in
set_option maxHeartbeats 400000 in
theorem ixByte_any (s : ByteArray) (w : World) :
    Calls Tryz.prog 88 #[.string s, .int .u8 10] w fun e w' => e = .returned (.int .i64 (Lib.indexByte s.data.toList 10)) ∧ w' = w := by
  go_enter Tryz.func88, Tryz.ntmps88
  go_wp2
  rw [run_callFunc_extern Tryz.func119 (by kernel_rfl) (by kernel_rfl) (by kernel_rfl) (e := Extern.BytealgIndexByte.indexByte) (by kernel_rfl), Lib.run_indexByteString]
  simp only [Result.andThen]
  rw [Oper.upon_value]
  go_wp2
  go_ret
  exact ⟨rfl, rfl⟩
set_option maxRecDepth 100000 in
set_option maxHeartbeats 400000 in
theorem ixLite_any (s : ByteArray) (w : World) :
    Calls Tryz.prog 129 #[.string s, .string ⟨#[10]⟩] w fun e w' => e = .returned (.int .i64 (Lib.indexByte s.data.toList 10)) ∧ w' = w := by
  go_enter Tryz.func129, Tryz.ntmps129
  go_wp2_with (go_at_call 88; go_must (refine (ixByte_any _ _).mono ?_; rintro e w' ⟨rfl, rfl⟩))
  · have h : ([10] == s.toList) = true := by assumption
    go_ret
    have e : s.data.toList = [10] := by rw [← Lib.toList_data]; exact (beq_iff_eq.1 h).symm
    exact ⟨ret_int (by rw [e]; rfl), rfl⟩
  · go_ret
    exact ⟨rfl, rfl⟩
set_option maxRecDepth 100000 in
set_option maxHeartbeats 400000 in
theorem ix_any (s : ByteArray) (w : World) :
    Calls Tryz.prog 138 #[.string s, .string ⟨#[10]⟩] w fun e w' => e = .returned (.int .i64 (Lib.indexByte s.data.toList 10)) ∧ w' = w := by
  go_enter Tryz.func138, Tryz.ntmps138
  go_wp2_with (go_at_call 129; go_must (refine (ixLite_any _ _).mono ?_; rintro e w' ⟨rfl, rfl⟩))
  go_ret
  exact ⟨rfl, rfl⟩
set_option maxRecDepth 100000 in
set_option maxHeartbeats 400000 in
theorem ct_any (s : ByteArray) (w : World) :
    Calls Tryz.prog 136 #[.string s, .string ⟨#[10]⟩] w fun e w' => e = .returned (.int .i64 (nls s.data.toList)) ∧ w' = w := by
  go_enter Tryz.func136, Tryz.ntmps136
  go_wp2
  rw [run_callFunc_extern Tryz.func157 (by kernel_rfl) (by kernel_rfl) (by kernel_rfl) (e := Extern.BytealgCount.count) (by kernel_rfl), Lib.run_countString]
  simp only [Result.andThen]
  rw [Oper.upon_value]
  go_wp2
  go_ret
  exact ⟨rfl, rfl⟩
end Go.Proofs.YtiafcbmmadikcaaGreatDoor
namespace Go.Proofs.YtiafcbmmadikcaaGreatDoor
open Go.RowKit

theorem drop_at (s : ByteArray) (p : Nat) (w : World) :
    Calls Tryz.prog 138 #[.string (s.extract p s.size), .string ⟨#[10]⟩] w fun e w' => e = .returned (.int .i64 (Lib.indexByte (s.data.toList.drop p) 10)) ∧ w' = w := by
  have := ix_any (s.extract p s.size) w
  rwa [drop_list] at this
end Go.Proofs.YtiafcbmmadikcaaGreatDoor
namespace Go.Proofs.YtiafcbmmadikcaaGreatDoor
open Go.RowKit

theorem Tryz.info_int : (Tryz.prog.info? 3).map (fun i => (i.zero, i.size, i.bytes)) = some (some (.int .i64 0), 1, 8) := by kernel_rfl
/-- where a text's first k letters begin, as values -/
def startsV (l : List UInt8) (k : Nat) : List Value := (List.range k).map (fun j => Value.int .i64 (pos l j))
theorem startsV_succ (l : List UInt8) (k : Nat) : startsV l (k + 1) = startsV l k ++ [Value.int .i64 (pos l k)] := by simp [startsV, List.range_succ]
end Go.Proofs.YtiafcbmmadikcaaGreatDoor
namespace Go.Proofs.YtiafcbmmadikcaaGreatDoor
open Go.RowKit

theorem take_list (s : ByteArray) (k : Nat) : (s.extract 0 k).data.toList = s.data.toList.take k := by simp
theorem take_size (s : ByteArray) (k : Nat) (h : k ≤ s.size) : (s.extract 0 k).size = k := by simp [h]
/-- the line and the column of a place -/
def ofL (t : ByteArray) (a : Int) : Nat := linOf (t.data.toList.take (clN t.size a))
def ofC (t : ByteArray) (a : Int) : Nat := colOf (t.data.toList.take (clN t.size a))
theorem colOf_at (m : ByteArray) : colOf m.data.toList = cnt (m.data.toList.drop (bol m.data.toList m.size)) + 1 := by
  unfold colOf; rw [size_list]
theorem below_drewN {B : Nat} {a w : World} (h : Below B a w) (n : Nat) : Below B a (w.drewN n) := h.trans ⟨rfl, rfl, rfl, Nat.le_refl _, fun _ _ => rfl⟩
theorem keeps {W V : World} (h : Below W.heap.size W V) : (∀ b o, b < W.heap.size → V.cell? ⟨b, o, none⟩ = W.cell? ⟨b, o, none⟩) ∧ ∀ b o, b < W.heap.size → V.frozen? ⟨b, o, none⟩ = W.frozen? ⟨b, o, none⟩ :=
  ⟨fun _ _ g => h.cell g, fun _ _ g => h.frozen g⟩
theorem onto {w a b : World} (h : Below w.heap.size w a) (k : Below a.heap.size a b) : Below w.heap.size w b := h.trans (k.mono h.size)
/-- a fault, as a value -/
def faultV (t : ByteArray) (a e : Int) : Value := .agg #[.int .i64 e, .int .i64 (clN t.size a), .int .i64 (ofL t a), .int .i64 (ofC t a)]
end Go.Proofs.YtiafcbmmadikcaaGreatDoor
namespace Go.Proofs.YtiafcbmmadikcaaGreatDoor
open Go.RowKit

theorem part_list (s : ByteArray) (i k : Nat) : (s.extract i k).data.toList = (s.data.toList.take k).drop i := by
  simp [List.drop_take]
theorem col_part (t : ByteArray) (k : Nat) (h : k ≤ t.size) : colOf (t.data.toList.take k) = cnt (t.extract (bol t.data.toList k) k).data.toList + 1 := by
  rw [part_list]; unfold colOf
  have e : (t.data.toList.take k).length = k := by rw [List.length_take, size_list]; omega
  rw [e, bol_take _ _ _ (Nat.le_refl _)]
end Go.Proofs.YtiafcbmmadikcaaGreatDoor
