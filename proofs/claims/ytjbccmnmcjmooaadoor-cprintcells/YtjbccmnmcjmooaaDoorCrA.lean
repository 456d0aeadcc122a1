import Derived.Test.YtjbccmnmcjmooaaDoorPlaceAll
import Derived.Test.YtjbccmnmcjmooaaDoorShelf
import Derived.Test.YtjbccmnmcjmooaaDoorMathLexM
import Derived.Test.YtjbccmnmcjmooaaDoorMathCsv
import Derived.Lib.OthersKept
import Derived.Deep.LoopGhost
import Derived.Deep.QuietTactic
import Derived.BigQuiet
import Derived.WalkMore
import Derived.Laws.Runes
/- The library at what cread asks: strings.Cut at a quote, strings.IndexAny at a field's ends. -/
namespace Go.Proofs.YtjbccmnmcjmooaaDoor
open Go.RowKit

set_option maxRecDepth 100000 in
set_option maxHeartbeats 400000 in
theorem ixByte34 (s : ByteArray) (w : World) :
    Calls Tryd.prog 74 #[.string s, .int .u8 34] w fun e w' => e = .returned (.int .i64 (Lib.indexByte s.data.toList 34)) ∧ w' = w := by
  go_enter Tryd.func74, Tryd.ntmps74
  go_wp2
  rw [run_callFunc_extern Tryd.func81 (by kernel_rfl) (by kernel_rfl) (by kernel_rfl) (e := Extern.BytealgIndexByte.indexByte) (by kernel_rfl), Lib.run_indexByteString]
  simp only [Result.andThen]
  rw [Oper.upon_value]
  go_wp2
  go_ret
  exact ⟨rfl, rfl⟩
set_option maxRecDepth 100000 in
set_option maxHeartbeats 400000 in
theorem ixLite34 (s : ByteArray) (w : World) :
    Calls Tryd.prog 63 #[.string s, .string ⟨#[34]⟩] w fun e w' => e = .returned (.int .i64 (Lib.indexByte s.data.toList 34)) ∧ w' = w := by
  go_enter Tryd.func63, Tryd.ntmps63
  go_wp2_with (go_at_call 74; go_must (refine (ixByte34 _ _).mono ?_; rintro e w' ⟨rfl, rfl⟩))
  · have h : ([34] == s.toList) = true := by assumption
    go_ret
    have e : s.data.toList = [34] := by rw [← Lib.toList_data]; exact (beq_iff_eq.1 h).symm
    exact ⟨ret_int (by rw [e]; rfl), rfl⟩
  · go_ret
    exact ⟨rfl, rfl⟩
/-- where the first quote stands -/
theorem ix_none : ∀ (l : List UInt8) (c : UInt8), (∀ x ∈ l, x ≠ c) → Lib.indexByte l c = -1
  | [], _, _ => rfl
  | b :: l, c, h => by
    have h1 : (b == c) = false := by rw [beq_eq_false_iff_ne]; exact h b (by simp)
    unfold Lib.indexByte
    rw [h1, ix_none l c (fun x hx => h x (by simp [hx]))]; rfl
theorem ix_some : ∀ (p r : List UInt8) (c : UInt8), (∀ x ∈ p, x ≠ c) → Lib.indexByte (p ++ c :: r) c = p.length
  | [], r, c, _ => by unfold Lib.indexByte; simp
  | b :: p, r, c, h => by
    have h1 : (b == c) = false := by rw [beq_eq_false_iff_ne]; exact h b (by simp)
    show Lib.indexByte (b :: (p ++ c :: r)) c = _
    unfold Lib.indexByte
    rw [h1, ix_some p r c (fun x hx => h x (by simp [hx]))]
    simp
theorem split34 (l : List UInt8) (c : UInt8) : (∀ x ∈ l, x ≠ c) ∨ ∃ p r, l = p ++ c :: r ∧ ∀ x ∈ p, x ≠ c := by
  induction l with
  | nil => left; simp
  | cons a l ih =>
    by_cases h : a = c
    · right; exact ⟨[], l, by rw [h]; rfl, by simp⟩
    · rcases ih with h1 | ⟨p, r, rfl, h1⟩
      · left; intro x hx; rcases List.mem_cons.1 hx with rfl | hx; exact h; exact h1 x hx
      · right; exact ⟨a :: p, r, rfl, fun x hx => by rcases List.mem_cons.1 hx with rfl | hx; exact h; exact h1 x hx⟩
set_option maxRecDepth 100000 in
set_option maxHeartbeats 400000 in
theorem cutLite_no (s : ByteArray) (w : World) (h : Lib.indexByte s.data.toList 34 = -1) :
    Calls Tryd.prog 86 #[.string s, .string ⟨#[34]⟩] w fun e w' => e = .returned (.tuple #[.string s, .string ⟨#[]⟩, .bool false]) ∧ ∃ n, w' = w.drewN n := by
  have C := hid (fun X => ixLite34 s X)
  rw [h] at C
  clear h
  go_enter Tryd.func86, Tryd.ntmps86
  go_wp2_with (go_at_call 63; go_must (refine (C.out _).mono ?_; rintro e w' ⟨rfl, rfl⟩))
  go_ret3
  exact ⟨rfl, 0, rfl⟩
set_option maxRecDepth 100000 in
set_option maxHeartbeats 400000 in
theorem cutLite_yes (s : ByteArray) (k : Nat) (w : World) (hs : s.size ≤ 1000000) (hk : k < s.size) (h : Lib.indexByte s.data.toList 34 = (k : Int)) :
    Calls Tryd.prog 86 #[.string s, .string ⟨#[34]⟩] w fun e w' => e = .returned (.tuple #[.string (s.extract 0 k), .string (s.extract (k + 1) s.size), .bool true]) ∧ ∃ n, w' = w.drewN n := by
  have C := hid (fun X => ixLite34 s X)
  rw [h] at C
  clear h
  go_enter Tryd.func86, Tryd.ntmps86
  go_wp2_with (go_at_call 63; go_must (refine (C.out _).mono ?_; rintro e w' ⟨rfl, rfl⟩))
  go_quiet (fail)
  go_wp2_with fail
  go_ret3
  exact ⟨rfl, _, rfl⟩
set_option maxRecDepth 100000 in
set_option maxHeartbeats 400000 in
theorem cut_no (s : ByteArray) (w : World) (h : Lib.indexByte s.data.toList 34 = -1) :
    Calls Tryd.prog 79 #[.string s, .string ⟨#[34]⟩] w fun e w' => e = .returned (.tuple #[.string s, .string ⟨#[]⟩, .bool false]) ∧ ∃ n, w' = w.drewN n := by
  have C := hid (fun X => cutLite_no s X h)
  clear h
  go_enter Tryd.func79, Tryd.ntmps79
  go_wp2_with (go_at_call 86; go_must (refine (C.out _).mono ?_; rintro e w' ⟨rfl, n, rfl⟩))
  go_ret3
  exact ⟨rfl, _, rfl⟩
set_option maxRecDepth 100000 in
set_option maxHeartbeats 400000 in
theorem cut_yes (s : ByteArray) (k : Nat) (w : World) (hs : s.size ≤ 1000000) (hk : k < s.size) (h : Lib.indexByte s.data.toList 34 = (k : Int)) :
    Calls Tryd.prog 79 #[.string s, .string ⟨#[34]⟩] w fun e w' => e = .returned (.tuple #[.string (s.extract 0 k), .string (s.extract (k + 1) s.size), .bool true]) ∧ ∃ n, w' = w.drewN n := by
  have C := hid (fun X => cutLite_yes s k X hs hk h)
  clear h
  go_enter Tryd.func79, Tryd.ntmps79
  go_wp2_with (go_at_call 86; go_must (refine (C.out _).mono ?_; rintro e w' ⟨rfl, n, rfl⟩))
  go_ret3
  exact ⟨rfl, _, rfl⟩
end Go.Proofs.YtjbccmnmcjmooaaDoor
