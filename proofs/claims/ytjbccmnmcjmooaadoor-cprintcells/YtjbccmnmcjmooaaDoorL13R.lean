import Derived.Test.YtjbccmnmcjmooaaDoorCrJ
/- The document's own reader of CSV: a row's end, a field. -/
namespace Go.Proofs.YtjbccmnmcjmooaaDoor
open Go.RowKit

theorem drop_cons (t : ByteArray) (k : Nat) (h : k < t.size) : t.data.toList.drop k = t[k] :: t.data.toList.drop (k + 1) := by
  have hl : k < t.data.toList.length := by rw [size_list]; exact h
  rw [List.drop_eq_getElem_cons hl]; rfl
theorem cdrop_none (t : ByteArray) (k : Nat) (h : t.size ≤ k) : t.data.toList.drop k = [] := by
  rw [List.drop_eq_nil_iff, size_list]; exact h
/-- a field's reading, as the document's own values -/
def fvR (t : ByteArray) : CFR → Value
  | .ok s r => .tuple #[.string (mkS s), .int .i64 ((t.size - r.length : Nat) : Int), .int .i64 (-1)]
  | .bad _ r => .tuple #[.string ⟨#[]⟩, .int .i64 0, .int .i64 ((t.size - r.length : Nat) : Int)]
theorem mkS_app1 (a : List UInt8) (t : ByteArray) (k : Nat) (h : k < t.size) : mkS a ++ t.extract k (k + 1) = mkS (a ++ [t[k]]) := by
  refine mkS_of _ _ ?_
  rw [ByteArray.data_append, Array.toList_append, mkS_list]
  congr 1
  rw [part_list]
  have := drop_cons t k h
  rw [List.drop_take, this]
  simp
end Go.Proofs.YtjbccmnmcjmooaaDoor
