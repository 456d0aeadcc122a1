/- The document's Number, walked: the ways without a base. -/
import Derived.Test.YtlapefhnbbcmmaaGreatDoorXRtK
namespace Go.Proofs.YtlapefhnbbcmmaaGreatDoor
open Go.RowKit

/-- e or E: E where one lies there -/
def eB (l : List UInt8) : UInt8 := if l.any (fun c => decide (c.toNat = 69)) then 69 else 101
theorem eB_snoc (b : ByteArray) (k : Nat) (h : k < b.size) : eB (b.data.toList.take (k + 1)) = if b[k].toNat = 69 then 69 else eB (b.data.toList.take k) := by
  have hl : k < b.data.toList.length := by rw [size_list]; exact h
  have e : b.data.toList.take (k + 1) = b.data.toList.take k ++ [b[k]] := by rw [List.take_succ_eq_append_getElem hl]; rfl
  rw [e]; unfold eB; rw [List.any_append]
  by_cases h : b[k].toNat = 69
  · rw [if_pos h]; simp [h]
  · rw [if_neg h]; simp [h]
end Go.Proofs.YtlapefhnbbcmmaaGreatDoor
