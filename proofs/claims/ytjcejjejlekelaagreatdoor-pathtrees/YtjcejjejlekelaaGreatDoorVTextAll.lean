import Derived.Test.YtjcejjejlekelaaGreatDoorVStr
import Derived.Test.YtjcejjejlekelaaGreatDoorUtfAll
import Derived.Test.YtjcejjejlekelaaGreatDoorDecOne
import Derived.Test.YtjcejjejlekelaaGreatDoorVBase
import Derived.Deep.LoopGhost
import Derived.Test.YtjcejjejlekelaaGreatDoorMathDecAll
/- value's judges of texts, walked: textError, goodStamp, goodNum. -/
/- value.keysError, walked. -/
/- value.goodKeys, walked. -/
namespace Go.Proofs.YtjcejjejlekelaaGreatDoor
open Go.RowKit

/-- what is wrong with a text -/
def teI (s : ByteArray) : Int := if pos s.data.toList (vlk s.data.toList) = s.size then (if s.size > 4096 then 2 else 0) else 3
theorem te_ok (s : ByteArray) : strOkB s = decide (teI s = 0) := by
  unfold strOkB teI rvI
  rw [size_list]
  by_cases h1 : pos s.data.toList (vlk s.data.toList) = s.size
  · rw [if_pos h1, if_pos h1]
    by_cases h2 : s.size > 4096
    · rw [if_pos h2, decide_eq_false (by omega)]; rfl
    · rw [if_neg h2, decide_eq_true (by omega)]; rfl
  · rw [if_neg h1, if_neg h1, decide_eq_false (show ¬ ((pos s.data.toList (vlk s.data.toList) : Nat) : Int) < 0 by omega)]; simp
end Go.Proofs.YtjcejjejlekelaaGreatDoor
namespace Go.Proofs.YtjcejjejlekelaaGreatDoor
open Go.RowKit

def keyAt (K : List ByteArray) (i : Nat) : ByteArray := K.getD i ⟨#[]⟩
/-- two keys beside each other are one -/
def adjB (K : List ByteArray) : Bool := (List.range (K.length - 1)).any fun i => decide ((keyAt K i).data.toList = (keyAt K (i + 1)).data.toList)
def bad3 (K : List ByteArray) : Bool := K.any fun c => decide (teI c = 3)
def bad2 (K : List ByteArray) : Bool := K.any fun c => decide (teI c = 2)
/-- what is wrong with keys in order -/
def keI (K : List ByteArray) : Int := if adjB K then 5 else if bad3 K then 3 else if bad2 K then 2 else 0
theorem keyAt_some {K : List ByteArray} {i : Nat} {c : ByteArray} (h : K[i]? = some c) : keyAt K i = c := by unfold keyAt; rw [List.getD, h]; rfl
theorem adj_yes {K : List ByteArray} {i : Nat} {b c : ByteArray} (hb : K[i]? = some b) (hc : K[i + 1]? = some c) (h : b.data.toList = c.data.toList) : adjB K = true := by
  unfold adjB
  rw [List.any_eq_true]
  have hi : i + 1 < K.length := (List.getElem?_eq_some_iff.1 hc).1
  exact ⟨i, List.mem_range.2 (by omega), by rw [keyAt_some hb, keyAt_some hc]; exact decide_eq_true h⟩
theorem adj_no {K : List ByteArray} (h : ∀ i, i + 1 < K.length → ¬ (keyAt K i).data.toList = (keyAt K (i + 1)).data.toList) : adjB K = false := by
  unfold adjB
  rw [List.any_eq_false]
  intro i hi
  have := List.mem_range.1 hi
  rw [decide_eq_true_eq]; exact h i (by omega)
theorem te_three (s : ByteArray) : teI s = 0 ∨ teI s = 2 ∨ teI s = 3 := by
  unfold teI; split
  · split
    · exact Or.inr (Or.inl rfl)
    · exact Or.inl rfl
  · exact Or.inr (Or.inr rfl)
theorem key_take (K : List ByteArray) (p : ByteArray → Bool) (j : Nat) (c : ByteArray) (h : K[j]? = some c) : (K.take (j + 1)).any p = ((K.take j).any p || p c) := by
  rw [List.take_add_one, h]; simp
end Go.Proofs.YtjcejjejlekelaaGreatDoor
namespace Go.Proofs.YtjcejjejlekelaaGreatDoor
open Go.RowKit

/-- a map's keys may be, and rise -/
def keysB (K : List ByteArray) : Bool := decide (∀ i < K.length, strOkB (K.getD i ⟨#[]⟩) = true ∧ (0 < i → ltB (K.getD (i - 1) ⟨#[]⟩).data.toList (K.getD i ⟨#[]⟩).data.toList = true))
theorem getD_some {K : List ByteArray} {i : Nat} {c : ByteArray} (h : K[i]? = some c) : K.getD i ⟨#[]⟩ = c := by rw [List.getD, h]; rfl
theorem keys_no {K : List ByteArray} {i : Nat} {c : ByteArray} (h : K[i]? = some c) (hb : strOkB c = false) : keysB K = false := by
  unfold keysB; rw [decide_eq_false_iff_not]; intro hh
  have := (hh i (lt_of_some h)).1
  rw [getD_some h, hb] at this; cases this
theorem keys_fall {K : List ByteArray} {i : Nat} {b c : ByteArray} (h : K[i + 1]? = some c) (g : K[i]? = some b) (hb : ltB b.data.toList c.data.toList = false) : keysB K = false := by
  unfold keysB; rw [decide_eq_false_iff_not]; intro hh
  have := (hh (i + 1) (lt_of_some h)).2 (by omega)
  rw [getD_some h, show i + 1 - 1 = i from rfl, getD_some g, hb] at this; cases this
end Go.Proofs.YtjcejjejlekelaaGreatDoor
