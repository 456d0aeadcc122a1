/- The document's own folded of chapter 6: walked. -/
import Derived.Test.YtoamndiblckdlaaGreatDoorEscRB
import Derived.Test.YtoamndiblckdlaaGreatDoorEscG
namespace Go.Proofs.YtoamndiblckdlaaGreatDoor
open Go.RowKit

/-- all of a text's first bytes are so, as far as the j-th -/
def allF (p : UInt8 → Bool) (D : List UInt8) (j : Nat) : Prop := ∀ k, k < j → ∃ b, D[k]? = some b ∧ p b = true
theorem allF_zero (p : UInt8 → Bool) (D : List UInt8) : allF p D 0 := fun k hk => absurd hk (Nat.not_lt_zero k)
theorem allF_succ {p : UInt8 → Bool} {D : List UInt8} {j : Nat} {b : UInt8} (h : allF p D j) (hb : D[j]? = some b) (hp : p b = true) : allF p D (j + 1) := fun k hk => by
  by_cases e : k = j
  · subst e; exact ⟨b, hb, hp⟩
  · exact h k (by omega)
theorem allF_end {p : UInt8 → Bool} {D : List UInt8} {j : Nat} (h : allF p D j) (hl : D.length ≤ j) : run p D = j := run_eq p D j h (fun b hb => by rw [List.getElem?_eq_none hl] at hb; cases hb)
theorem allF_stop {p : UInt8 → Bool} {D : List UInt8} {j : Nat} {b : UInt8} (h : allF p D j) (hb : D[j]? = some b) (hp : p b = false) : run p D = j := run_eq p D j h (fun c hc => by rw [hb] at hc; cases hc; exact hp)
theorem edrop_at (t : ByteArray) (a k : Nat) (h : a + k < t.size) : (t.data.toList.drop a)[k]? = some t[a + k] := by
  rw [List.getElem?_drop, List.getElem?_eq_getElem (by rw [size_list]; exact h)]; rfl
theorem bk_yes {b : UInt8} (h : b.toNat = 32 ∨ b.toNat = 9) : bkB b = true := decide_eq_true h
theorem bk_no {b : UInt8} (h : ¬ (b.toNat = 32 ∨ b.toNat = 9)) : bkB b = false := decide_eq_false h
def fdM (many : Bool) (l : List UInt8) : Nat := if many = true then fdN l else 0
end Go.Proofs.YtoamndiblckdlaaGreatDoor
