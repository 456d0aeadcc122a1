/- Texts: empty or not, cut, the first of them. -/
import Derived.Test.YtmncibjkgbmfjaaGreatDoorBase
import Derived.Test.YtmncibjkgbmfjaaGreatDoorMathDecAll
import Derived.Lib.Strings
namespace Go.Proofs.YtmncibjkgbmfjaaGreatDoor
open Go.RowKit

theorem emp_yes (d : ByteArray) (h : d.data.toList = []) : d.toList.isEmpty = true := by rw [Lib.toList_data, h]; rfl
theorem emp_no (d : ByteArray) (h : ¬ d.data.toList = []) : d.toList.isEmpty = false := by
  rw [Lib.toList_data]; cases hd : d.data.toList with
  | nil => exact absurd hd h
  | cons => rfl
theorem emp_size (d : ByteArray) (h : ¬ d.data.toList = []) : 0 < d.size := by
  have := size_list d
  cases hd : d.data.toList with
  | nil => exact absurd hd h
  | cons a l => rw [hd] at this; simp at this; omega
theorem results_tmp5 {fn : Func} {t u v x y : Tmp} (h : fn.results = #[.tmp t, .tmp u, .tmp v, .tmp x, .tmp y]) (tmps : Array Value) (P : Program) (w : World) :
    (results fn tmps).run P w = .ok (.tuple #[tmps.getD t undef, tmps.getD u undef, tmps.getD v undef, tmps.getD x undef, tmps.getD y undef]) w := by
  simp [results, h]
theorem cut_list (s : ByteArray) (n : Nat) : (s.extract 0 n).data.toList = s.data.toList.take n := by simp
theorem first_is (u : ByteArray) (n : Nat) (h : (u.data.toList.getD 0 0).toNat = n) (h0 : n ≠ 0) : ¬ u.data.toList = [] := by
  intro hc; rw [hc] at h; apply h0; rw [← h]; rfl
end Go.Proofs.YtmncibjkgbmfjaaGreatDoor
