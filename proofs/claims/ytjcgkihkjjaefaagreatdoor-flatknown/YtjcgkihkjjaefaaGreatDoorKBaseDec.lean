/- Texts: empty or not, cut, the first of them. -/
import Derived.Test.YtjcgkihkjjaefaaGreatDoorKBase
import Derived.Test.YtjcgkihkjjaefaaGreatDoorKMathDecAll
import Derived.Lib.Strings
namespace Go.Proofs.YtjcgkihkjjaefaaGreatDoor
open Go.RowKit

theorem emp_yes (d : ByteArray) (h : d.data.toList = []) : d.toList.isEmpty = true := by rw [Lib.toList_data, h]; rfl
theorem emp_no (d : ByteArray) (h : ¬ d.data.toList = []) : d.toList.isEmpty = false := by
  rw [Lib.toList_data]; cases hd : d.data.toList with
  | nil => exact absurd hd h
  | cons => rfl
theorem emp_size (d : ByteArray) (h : ¬ d.data.toList = []) : 0 < d.size := by
  have := size_list d
  cases hd : d.data.toList with
  | nil => exact absurd hd h
  | cons a l => rw [hd] at this; simp at this; omega
theorem cut_list (s : ByteArray) (n : Nat) : (s.extract 0 n).data.toList = s.data.toList.take n := by simp
end Go.Proofs.YtjcgkihkjjaefaaGreatDoor
