/- Plain mathematics of lines and columns: line ends counted, a line's beginning, the last line's beginning. -/
import Derived.Test.YtbeolgnognhfpaaGreatDoorMathJ
import Derived.Lib.Bytealg
import Derived.Lib.LastIndexByte
namespace Go.Proofs.YtbeolgnognhfpaaGreatDoor
open Go.RowKit

theorem byte_no (b : UInt8) (h : ¬ b = 10) : ((b.toNat : Int) == 10) = false := by
  rw [beq_eq_false_iff_ne]; intro hc; apply h; apply UInt8.toNat_inj.1; show _ = 10; omega
/-- how many line ends -/
def nls (l : List UInt8) : Nat := l.count 10
/-- where the last line of the first k bytes begins -/
def bol (l : List UInt8) : Nat → Nat
  | 0 => 0
  | k + 1 => if l.getD k 0 = 10 then k + 1 else bol l k
theorem bol_le (l : List UInt8) : ∀ k, bol l k ≤ k
  | 0 => Nat.le_refl _
  | k + 1 => by have := bol_le l k; unfold bol; split <;> omega
theorem bol_no (l : List UInt8) (k : Nat) (h : ¬ l.getD k 0 = 10) : bol l (k + 1) = bol l k := by rw [bol, if_neg h]
theorem bol_yes (l : List UInt8) (k : Nat) (h : l.getD k 0 = 10) : bol l (k + 1) = k + 1 := by rw [bol, if_pos h]
theorem bol_take (l : List UInt8) (a : Nat) : ∀ k, k ≤ a → bol (l.take a) k = bol l k
  | 0, _ => rfl
  | k + 1, h => by
    have e : (l.take a).getD k 0 = l.getD k 0 := by simp [List.getD, List.getElem?_take_of_lt (show k < a by omega)]
    unfold bol; rw [e, bol_take l a k (by omega)]
/-- a text's last line's column, behind its last byte -/
def colOf (m : List UInt8) : Nat := cnt (m.drop (bol m m.length)) + 1
def linOf (m : List UInt8) : Nat := nls m + 1
theorem nls_le (l : List UInt8) : nls l ≤ l.length := List.count_le_length
theorem nls_take_succ (l : List UInt8) (k : Nat) (h : k < l.length) : nls (l.take (k + 1)) = nls (l.take k) + (if l.getD k 0 = 10 then 1 else 0) := by
  have e : l.getD k 0 = l[k] := by simp [List.getD, h]
  rw [e, List.take_succ_eq_append_getElem h]; unfold nls; rw [List.count_append, List.count_singleton]
  by_cases hb : l[k] = 10 <;> simp [hb]
/-- where the (j+1)-th line begins -/
def lineAt (l : List UInt8) (j : Nat) : Nat := least (fun p => decide (nls (l.take p) < j)) l.length 0
/-- p is where the (j+1)-th line begins -/
def LineAt (l : List UInt8) (j p : Nat) : Prop := nls (l.take p) = j ∧ p ≤ l.length ∧ (p = 0 ∨ l.getD (p - 1) 0 = 10)
/-- what Begin answers -/
def bgB (l : List UInt8) (n : Int) : Bool := decide (1 ≤ n ∧ n ≤ nls l + 1)
def bgP (l : List UInt8) (n : Int) : Int := if 1 ≤ n ∧ n ≤ nls l + 1 then (lineAt l (n - 1).toNat : Int) else 0
/-- a place drawn into a text -/
def clN (n : Nat) (a : Int) : Nat := (min (max a 0) (n : Int)).toNat
theorem clN_le (n : Nat) (a : Int) : clN n a ≤ n := by unfold clN; omega
end Go.Proofs.YtbeolgnognhfpaaGreatDoor
